import PyProof.Rows.All
import Wide.All
import OpenK.AllK
import Wide.FinOn
import PyProof.EqAt
import PyProof.EqKinds
import PyProof.TupleCall
import KE.BitLaws
import Open.SpecLaws
import KE.OsHead
import KE.OsGo
import VbpcasSpec
import PyVbpcas
import PySem.Challenge.RW_clocktimes_s01_answers
namespace Ck
open Vbpcas
def Way (l : List Rule) : Nat → List Rule → Nat → Prop
  | u, [], v => u = v
  | u, q :: r, v => q ∈ l ∧ q.u = u ∧ Way l q.v r v
def wsum : List Rule → Int
  | [] => 0
  | q :: r => q.w + wsum r
theorem wsum_append : ∀ a b : List Rule, wsum (a ++ b) = wsum a + wsum b
  | [], b => by simp [wsum]
  | q :: a, b => by simp [wsum, wsum_append a b]; omega
theorem way_append {l : List Rule} : ∀ {a b : List Rule} {u v : Nat}, Way l u (a ++ b) v ↔ ∃ m, Way l u a m ∧ Way l m b v
  | [], b, u, v => by simp [Way]
  | q :: a, b, u, v => by
    simp only [List.cons_append, Way, way_append (a := a)]
    constructor
    · rintro ⟨h1, h2, m, h3, h4⟩; exact ⟨m, ⟨h1, h2, h3⟩, h4⟩
    · rintro ⟨m, ⟨h1, h2, h3⟩, h4⟩; exact ⟨h1, h2, m, h3, h4⟩
def Inside (l : List Rule) (n : Nat) : Prop := ∀ q ∈ l, q.u < n ∧ q.v < n
theorem way_end {l : List Rule} {n : Nat} (hi : Inside l n) : ∀ {r : List Rule} {u v : Nat}, u < n → Way l u r v → v < n
  | [], u, v, hu, h => by have e : u = v := h; omega
  | q :: r, u, v, _, ⟨h1, _, h3⟩ => way_end hi (hi q h1).2 h3
def nodeAt (u : Nat) (r : List Rule) : Nat → Nat
  | 0 => u
  | i + 1 => match r with
    | [] => u
    | q :: r => nodeAt q.v r i
theorem way_cut {l : List Rule} : ∀ {r : List Rule} {u v : Nat} (i : Nat), Way l u r v → Way l u (r.take i) (nodeAt u r i) ∧ Way l (nodeAt u r i) (r.drop i) v
  | r, u, v, 0, h => ⟨by simp [Way, nodeAt], by simpa [nodeAt] using h⟩
  | [], u, v, i + 1, h => ⟨by simp [Way, nodeAt], by simpa [nodeAt] using h⟩
  | q :: r, u, v, i + 1, ⟨h1, h2, h3⟩ => by
    have ⟨a, b⟩ := way_cut i h3
    exact ⟨⟨h1, h2, a⟩, b⟩
theorem pigeon : ∀ (n : Nat) (f : Nat → Nat), (∀ i, i ≤ n → f i < n) → ∃ i j, i < j ∧ j ≤ n ∧ f i = f j
  | 0, f, h => absurd (h 0 (Nat.le_refl 0)) (by omega)
  | n + 1, f, h => by
    by_cases k : ∃ i, i ≤ n ∧ f i = f (n + 1)
    · obtain ⟨i, hi, e⟩ := k
      exact ⟨i, n + 1, by omega, Nat.le_refl _, e⟩
    · have k' : ∀ i, i ≤ n → f i ≠ f (n + 1) := fun i hi e => k ⟨i, hi, e⟩
      have hm := h (n + 1) (Nat.le_refl _)
      obtain ⟨i, j, hij, hj, e⟩ := pigeon n (fun i => if f i = n then f (n + 1) else f i) (fun i hi => by
        have h1 := h i (by omega)
        have h2 := k' i hi
        show (if f i = n then f (n + 1) else f i) < n
        split <;> omega)
      have h1 := k' i (by omega)
      have h2 := k' j hj
      have e' : (if f i = n then f (n + 1) else f i) = (if f j = n then f (n + 1) else f j) := e
      refine ⟨i, j, hij, by omega, ?_⟩
      split at e' <;> split at e' <;> omega
theorem way_split {l : List Rule} {n : Nat} (hi : Inside l n) {r : List Rule} {u v : Nat} (hu : u < n) (h : Way l u r v) (hn : n ≤ r.length) :
    ∃ a b c m, r = a ++ (b ++ c) ∧ Way l u a m ∧ Way l m b m ∧ Way l m c v ∧ 1 ≤ b.length ∧ b.length ≤ n := by
  obtain ⟨i, j, hij, hj, e⟩ := pigeon n (fun i => nodeAt u r i) (fun i _ => way_end hi hu (way_cut i h).1)
  have e : nodeAt u r i = nodeAt u r j := e
  have ⟨wi, wi'⟩ := way_cut i h
  have ⟨wj, wj'⟩ := way_cut j h
  have et : r.take j = r.take i ++ (r.drop i).take (j - i) := by
    rw [show j = i + (j - i) by omega, List.take_add]
    simp
  rw [et] at wj
  obtain ⟨m, w1, w2⟩ := way_append.mp wj
  have em : m = nodeAt u r i := by
    have : ∀ {a : List Rule} {u x y : Nat}, Way l u a x → Way l u a y → x = y := by
      intro a
      induction a with
      | nil => intro u x y h1 h2; exact (show u = x from h1).symm.trans h2
      | cons q a ih => intro u x y h1 h2; exact ih h1.2.2 h2.2.2
    exact this w1 wi
  subst em
  refine ⟨r.take i, (r.drop i).take (j - i), r.drop j, nodeAt u r i, ?_, wi, by rw [← e] at w2; exact w2, by rw [e]; exact wj', ?_, ?_⟩
  · rw [← List.append_assoc, ← et, List.take_append_drop]
  · rw [List.length_take, List.length_drop]; omega
  · rw [List.length_take, List.length_drop]; omega
def NoNeg (l : List Rule) (n : Nat) : Prop := ∀ u r, u < n → Way l u r u → 1 ≤ r.length → r.length ≤ n → 0 ≤ wsum r
theorem way_short {l : List Rule} {n : Nat} (hi : Inside l n) (h0 : NoNeg l n) : ∀ (k : Nat) {r : List Rule} {u v : Nat}, r.length ≤ k → u < n → Way l u r v → ∃ r', Way l u r' v ∧ r'.length < n ∧ wsum r' ≤ wsum r
  | 0, r, u, v, hk, hu, h => ⟨r, h, by omega, Int.le_refl _⟩
  | k + 1, r, u, v, hk, hu, h => by
    by_cases hn : r.length < n
    · exact ⟨r, h, hn, Int.le_refl _⟩
    · obtain ⟨a, b, c, m, rfl, wa, wb, wc, b1, bn⟩ := way_split hi hu h (by omega)
      have h1 := h0 m b (way_end hi hu wa) wb b1 bn
      obtain ⟨r', w', l', s'⟩ := way_short hi h0 k (r := a ++ c) (by simp at hk ⊢; omega) hu (way_append.mpr ⟨m, wa, wc⟩)
      refine ⟨r', w', l', ?_⟩
      rw [wsum_append] at s'
      rw [wsum_append, wsum_append]
      omega
theorem noneg_all {l : List Rule} {n : Nat} (hi : Inside l n) (h0 : NoNeg l n) {r : List Rule} {u : Nat} (hu : u < n) (h : Way l u r u) : 0 ≤ wsum r := by
  obtain ⟨r', w', l', s'⟩ := way_short hi h0 _ (Nat.le_refl _) hu h
  by_cases e : 1 ≤ r'.length
  · have := h0 u r' hu w' e (by omega); omega
  · have : r' = [] := List.eq_nil_of_length_eq_zero (by omega)
    subst this
    exact s'
theorem way_times {l : List Rule} {t : Nat → Int} (ht : ∀ q ∈ l, t q.v - t q.u ≤ q.w) : ∀ {r : List Rule} {u v : Nat}, Way l u r v → t v - t u ≤ wsum r
  | [], u, v, h => by have e : u = v := h; subst e; simp [wsum]
  | q :: r, u, v, ⟨h1, h2, h3⟩ => by
    have a := ht q h1
    have b := way_times ht h3
    rw [h2] at a
    simp only [wsum]
    omega
theorem noneg_times {l : List Rule} {n : Nat} {t : Nat → Int} (ht : ∀ q ∈ l, t q.v - t q.u ≤ q.w) : NoNeg l n := fun u r _ h _ _ => by
  have := way_times ht h; omega
theorem lesser_l {a b : Option Int} {x : Int} (h : a = some x) : ∃ z, lesser a b = some z ∧ z ≤ x := by
  subst h
  cases b with
  | none => exact ⟨x, rfl, Int.le_refl _⟩
  | some b => exact ⟨min x b, rfl, Int.min_le_left _ _⟩
theorem lesser_r {a b : Option Int} {y : Int} (h : b = some y) : ∃ z, lesser a b = some z ∧ z ≤ y := by
  subst h
  cases a with
  | none => exact ⟨y, rfl, Int.le_refl _⟩
  | some a => exact ⟨min a y, rfl, Int.min_le_right _ _⟩
theorem lesser_is {a b : Option Int} {z : Int} (h : lesser a b = some z) : a = some z ∨ b = some z := by
  cases a with
  | none => exact .inr h
  | some a =>
    cases b with
    | none => exact .inl h
    | some b =>
      have e : min a b = z := Option.some.inj h
      by_cases k : a ≤ b
      · rw [Int.min_eq_left k] at e; subst e; exact .inl rfl
      · rw [Int.min_eq_right (by omega)] at e; subst e; exact .inr rfl
def onw (d : List (Option Int)) (v : Nat) (b : Option Int) (q : Rule) : Option Int := if q.v = v then lesser b ((d.getD q.u none).map fun x => x + q.w) else b
theorem fold_le {d : List (Option Int)} {v : Nat} : ∀ {l : List Rule} {b : Option Int} {x : Int}, b = some x → ∃ z, l.foldl (onw d v) b = some z ∧ z ≤ x
  | [], b, x, h => ⟨x, h, Int.le_refl _⟩
  | q :: l, b, x, h => by
    have : ∃ y, onw d v b q = some y ∧ y ≤ x := by
      unfold onw
      split
      · exact lesser_l h
      · exact ⟨x, h, Int.le_refl _⟩
    obtain ⟨y, e, hy⟩ := this
    obtain ⟨z, e', hz⟩ := fold_le (l := l) e
    exact ⟨z, e', by omega⟩
theorem fold_rule {d : List (Option Int)} {v : Nat} : ∀ {l : List Rule} {b : Option Int} {q : Rule} {x : Int}, q ∈ l → q.v = v → d.getD q.u none = some x → ∃ z, l.foldl (onw d v) b = some z ∧ z ≤ x + q.w
  | [], b, q, x, h, _, _ => by simp at h
  | a :: l, b, q, x, h, hv, hd => by
    rcases List.mem_cons.mp h with rfl | h
    · have : ∃ y, onw d v b q = some y ∧ y ≤ x + q.w := by
        unfold onw
        rw [if_pos hv, hd]
        exact lesser_r rfl
      obtain ⟨y, e, hy⟩ := this
      obtain ⟨z, e', hz⟩ := fold_le (l := l) e
      exact ⟨z, e', by omega⟩
    · exact fold_rule (l := l) h hv hd
theorem fold_is {d : List (Option Int)} {v : Nat} : ∀ {l : List Rule} {b : Option Int} {z : Int}, l.foldl (onw d v) b = some z → b = some z ∨ ∃ q ∈ l, q.v = v ∧ ∃ x, d.getD q.u none = some x ∧ z = x + q.w
  | [], b, z, h => .inl h
  | a :: l, b, z, h => by
    rcases fold_is (l := l) h with h | ⟨q, hq, hv, x, hd, e⟩
    · unfold onw at h
      split at h
      · rename_i hv
        rcases lesser_is h with h | h
        · exact .inl h
        · cases hd : d.getD a.u none with
          | none => rw [hd] at h; cases h
          | some x =>
            rw [hd] at h
            exact .inr ⟨a, List.mem_cons_self, hv, x, hd, (Option.some.inj h).symm⟩
      · exact .inl h
    · exact .inr ⟨q, List.mem_cons_of_mem _ hq, hv, x, hd, e⟩
theorem getD_map_range {α : Type} {n v : Nat} {f : Nat → α} {z : α} : ((List.range n).map f).getD v z = if v < n then f v else z := by
  by_cases h : v < n
  · rw [if_pos h, List.getD_eq_getElem?_getD, List.getElem?_map, List.getElem?_range h]; rfl
  · rw [if_neg h, List.getD_eq_getElem?_getD, List.getElem?_map, List.getElem?_eq_none (by simpa using h)]; rfl
def lay (n : Nat) (l : List Rule) (u : Nat) : Nat → List (Option Int)
  | 0 => seed n u
  | k + 1 => onward n l (lay n l u k)
theorem lay_succ {n : Nat} {l : List Rule} {u k v : Nat} : (lay n l u (k + 1)).getD v none = if v < n then l.foldl (onw (lay n l u k) v) none else none := by
  show (onward n l (lay n l u k)).getD v none = _
  unfold onward
  rw [getD_map_range]
  rfl
theorem lay_is {n : Nat} {l : List Rule} {u : Nat} : ∀ {k v : Nat} {x : Int}, (lay n l u k).getD v none = some x → ∃ r, Way l u r v ∧ r.length = k ∧ wsum r = x
  | 0, v, x, h => by
    have h : (seed n u).getD v none = some x := h
    unfold seed at h
    rw [getD_map_range] at h
    split at h
    · split at h
      · rename_i e
        exact ⟨[], e.symm, rfl, by simp [wsum]; exact Option.some.inj h⟩
      · cases h
    · cases h
  | k + 1, v, x, h => by
    rw [lay_succ] at h
    split at h
    · rcases fold_is h with h | ⟨q, hq, hv, y, hd, e⟩
      · cases h
      · obtain ⟨r, w, hl, hs⟩ := lay_is hd
        refine ⟨r ++ [q], way_append.mpr ⟨q.u, w, hq, rfl, hv⟩, by simp [hl], ?_⟩
        rw [wsum_append, hs]
        simp [wsum, e]
    · cases h
theorem lay_le {n : Nat} {l : List Rule} (hi : Inside l n) {u : Nat} (hu : u < n) : ∀ {k : Nat} {r : List Rule} {v : Nat}, r.length = k → Way l u r v → ∃ x, (lay n l u k).getD v none = some x ∧ x ≤ wsum r
  | 0, r, v, hk, h => by
    have : r = [] := List.eq_nil_of_length_eq_zero hk
    subst this
    have e : u = v := h
    subst e
    refine ⟨0, ?_, by simp [wsum]⟩
    show (seed n u).getD u none = some 0
    unfold seed
    rw [getD_map_range, if_pos hu, if_pos rfl]
  | k + 1, r, v, hk, h => by
    obtain ⟨a, q, rfl⟩ : ∃ a q, r = a ++ [q] := ⟨r.dropLast, r.getLast (by intro e; subst e; simp at hk), (List.dropLast_concat_getLast _).symm⟩
    obtain ⟨m, w1, hq, hm, hv⟩ := way_append.mp h
    have hv : q.v = v := hv
    obtain ⟨x, hx, hle⟩ := lay_le hi hu (k := k) (by simpa using hk) w1
    rw [← hm] at hx
    obtain ⟨z, hz, hz'⟩ := fold_rule (d := lay n l u k) (v := v) (b := none) hq hv hx
    refine ⟨z, ?_, ?_⟩
    · rw [lay_succ, if_pos (by rw [← hv]; exact (hi q hq).2)]
      exact hz
    · rw [wsum_append]
      simp only [wsum]
      omega
theorem layersFrom_at {n : Nat} {l : List Rule} : ∀ (K : Nat) (d : Nat → List (Option Int)), (∀ k, d (k + 1) = onward n l (d k)) → ∀ k, k ≤ K → (layersFrom n l K (d 0)).getD k [] = d k
  | 0, d, hd, k, hk => by
    have : k = 0 := by omega
    subst this
    rfl
  | K + 1, d, hd, 0, hk => rfl
  | K + 1, d, hd, k + 1, hk => by
    show (layersFrom n l K (onward n l (d 0))).getD k [] = d (k + 1)
    rw [← hd 0]
    exact layersFrom_at K (fun i => d (i + 1)) (fun i => hd (i + 1)) k (by omega)
theorem sumAt_is {s : State} {p : Int} {u k v : Nat} (hu : u < nodes s) (hk : k ≤ nodes s) : sumAt (table s p) u k v = (lay (nodes s) (rules s p) u k).getD v none := by
  unfold sumAt table
  rw [getD_map_range, if_pos hu]
  unfold layers
  have := layersFrom_at (n := nodes s) (l := rules s p) (nodes s) (lay (nodes s) (rules s p) u) (fun _ => rfl) k hk
  rw [show seed (nodes s) u = lay (nodes s) (rules s p) u 0 from rfl, this]
def PathsIn (s : State) : Prop := ∀ q ∈ s.paths, q.i < s.chips.length ∧ q.j < s.chips.length
theorem rules_inside {s : State} {p : Int} (h : PathsIn s) : Inside (rules s p) (nodes s) := by
  intro q hq
  unfold rules at hq
  unfold nodes
  rcases List.mem_append.mp hq with hq | hq
  · obtain ⟨t, ht, hq⟩ := List.mem_flatMap.mp hq
    have h1 : t.1 < s.chips.length := by
      have := (List.of_mem_zip ht).1
      simpa using this
    unfold chipRules at hq
    simp at hq
    rcases hq with rfl | rfl
    · exact ⟨by show 0 < _; omega, by show t.1 + 1 < _; omega⟩
    · exact ⟨by show t.1 + 1 < _; omega, by show 0 < _; omega⟩
  · obtain ⟨t, ht, hq⟩ := List.mem_flatMap.mp hq
    have ⟨h1, h2⟩ := h t ht
    unfold pathRules at hq
    simp at hq
    rcases hq with rfl | rfl
    · exact ⟨by show t.j + 1 < _; omega, by show t.i + 1 < _; omega⟩
    · exact ⟨by show t.i + 1 < _; omega, by show t.j + 1 < _; omega⟩
theorem below_iff {o : Option Int} : below o = true ↔ ∃ x, o = some x ∧ x < 0 := by
  cases o with
  | none => simp [below]
  | some x => simp [below]
theorem feasible_iff {s : State} {p : Int} (h : PathsIn s) : feasible s p = true ↔ NoNeg (rules s p) (nodes s) := by
  have hin := rules_inside (p := p) h
  unfold feasible fewest
  rw [Option.isNone_iff_eq_none, List.find?_eq_none]
  constructor
  · intro H u r hu w h1 hn
    obtain ⟨x, hx, hle⟩ := lay_le hin hu rfl w
    have a := H r.length (by simp; exact ⟨r.length - 1, by omega, by omega⟩)
    by_cases k : x < 0
    · refine absurd ?_ a
      simp only [List.any_eq_true, List.mem_range]
      exact ⟨u, hu, below_iff.mpr ⟨x, by rw [sumAt_is hu hn]; exact hx, k⟩⟩
    · omega
  · intro H k hk hany
    simp at hk
    obtain ⟨k', hk', rfl⟩ := hk
    simp only [List.any_eq_true, List.mem_range] at hany
    obtain ⟨u, hu, hb⟩ := hany
    obtain ⟨x, hx, hneg⟩ := below_iff.mp hb
    rw [sumAt_is hu (by omega)] at hx
    obtain ⟨r, w, hl, hs⟩ := lay_is hx
    have := H u r hu w (by omega) (by omega)
    omega
def Right (s : State) (p : Int) (r : Row) : Prop := ∀ q ∈ rules s p, timeOf r q.v - timeOf r q.u ≤ q.w
theorem feasible_of_right {s : State} {p : Int} {r : Row} (h : PathsIn s) (hr : Right s p r) : feasible s p = true := (feasible_iff h).mpr (noneg_times (t := timeOf r) hr)
def Least (l : List Rule) (u v : Nat) (x : Int) : Prop := (∃ r, Way l u r v ∧ wsum r = x) ∧ ∀ r, Way l u r v → x ≤ wsum r
theorem foldl_lesser {f : Nat → Option Int} : ∀ {ks : List Nat} {b : Option Int} {z : Int}, ks.foldl (fun b k => lesser b (f k)) b = some z → b = some z ∨ ∃ k ∈ ks, f k = some z
  | [], b, z, h => .inl h
  | a :: ks, b, z, h => by
    rcases foldl_lesser (ks := ks) h with h | ⟨k, hk, e⟩
    · rcases lesser_is h with h | h
      · exact .inl h
      · exact .inr ⟨a, List.mem_cons_self, h⟩
    · exact .inr ⟨k, List.mem_cons_of_mem _ hk, e⟩
theorem foldl_lesser_le {f : Nat → Option Int} : ∀ {ks : List Nat} {b : Option Int}, (∀ x, b = some x → ∃ z, ks.foldl (fun b k => lesser b (f k)) b = some z ∧ z ≤ x) ∧ (∀ k ∈ ks, ∀ x, f k = some x → ∃ z, ks.foldl (fun b k => lesser b (f k)) b = some z ∧ z ≤ x)
  | [], b => ⟨fun x h => ⟨x, h, Int.le_refl _⟩, fun k hk => by simp at hk⟩
  | a :: ks, b => by
    have ih := foldl_lesser_le (f := f) (ks := ks) (b := lesser b (f a))
    refine ⟨fun x h => ?_, fun k hk x h => ?_⟩
    · obtain ⟨y, e, hy⟩ := lesser_l (b := f a) h
      obtain ⟨z, e', hz⟩ := ih.1 y e
      exact ⟨z, e', by omega⟩
    · rcases List.mem_cons.mp hk with rfl | hk
      · obtain ⟨y, e, hy⟩ := lesser_r (a := b) h
        obtain ⟨z, e', hz⟩ := ih.1 y e
        exact ⟨z, e', by omega⟩
      · exact ih.2 k hk x h
theorem dist_is {s : State} {p : Int} (h : PathsIn s) (hf : feasible s p = true) {u v : Nat} {x : Int} (hu : u < nodes s) (hl : Least (rules s p) u v x) : dist s (table s p) u v = some x := by
  have hin := rules_inside (p := p) h
  have h0 := (feasible_iff h).mp hf
  obtain ⟨⟨r, w, e⟩, hle⟩ := hl
  obtain ⟨r', w', l', s'⟩ := way_short hin h0 _ (Nat.le_refl _) hu w
  obtain ⟨y, hy, hy'⟩ := lay_le hin hu rfl w'
  unfold dist
  obtain ⟨z, hz, hz'⟩ := (foldl_lesser_le (f := fun k => sumAt (table s p) u k v) (ks := List.range (nodes s)) (b := none)).2 r'.length (by simpa using l') y (by show sumAt _ _ _ _ = _; rw [sumAt_is hu (by omega)]; exact hy)
  rcases foldl_lesser hz with hh | ⟨k, hk, e'⟩
  · cases hh
  · have hk : k < nodes s := by simpa using hk
    have e' : sumAt (table s p) u k v = some z := e'
    rw [sumAt_is hu (by omega)] at e'
    obtain ⟨r2, w2, _, s2⟩ := lay_is e'
    have := hle r2 w2
    have e3 : z = x := by omega
    rw [← e3]
    exact hz
theorem least_of {s : State} {p : Int} (h : PathsIn s) (hf : feasible s p = true) {u v : Nat} (hu : u < nodes s) {r : List Rule} (w : Way (rules s p) u r v) : ∃ x, Least (rules s p) u v x := by
  have hin := rules_inside (p := p) h
  have h0 := (feasible_iff h).mp hf
  have key : ∃ z, dist s (table s p) u v = some z := by
    obtain ⟨r', w', l', s'⟩ := way_short hin h0 _ (Nat.le_refl _) hu w
    obtain ⟨y, hy, hy'⟩ := lay_le hin hu rfl w'
    obtain ⟨z, hz, _⟩ := (foldl_lesser_le (f := fun k => sumAt (table s p) u k v) (ks := List.range (nodes s)) (b := none)).2 r'.length (by simpa using l') y (by show sumAt _ _ _ _ = _; rw [sumAt_is hu (by omega)]; exact hy)
    exact ⟨z, hz⟩
  obtain ⟨z, hz⟩ := key
  refine ⟨z, ?_, fun r2 w2 => ?_⟩
  · rcases foldl_lesser hz with hh | ⟨k, hk, e'⟩
    · cases hh
    · have hk : k < nodes s := by simpa using hk
      have e' : sumAt (table s p) u k v = some z := e'
      rw [sumAt_is hu (by omega)] at e'
      obtain ⟨r2, w2, _, s2⟩ := lay_is e'
      exact ⟨r2, w2, s2⟩
  · obtain ⟨r', w', l', s'⟩ := way_short hin h0 _ (Nat.le_refl _) hu w2
    obtain ⟨y, hy, hy'⟩ := lay_le hin hu rfl w'
    obtain ⟨z2, hz2, hle⟩ := (foldl_lesser_le (f := fun k => sumAt (table s p) u k v) (ks := List.range (nodes s)) (b := none)).2 r'.length (by simpa using l') y (by show sumAt _ _ _ _ = _; rw [sumAt_is hu (by omega)]; exact hy)
    have : z = z2 := Option.some.inj (hz.symm.trans hz2)
    omega
end Ck

namespace Ck
open Vbpcas
structure Good (s : State) : Prop where
  chips : s.chips.length ≤ 16
  paths : s.paths.length ≤ 48
  inn : PathsIn s
  bounds : ∀ c ∈ s.chips, -100000000 ≤ c.lo ∧ c.lo ≤ c.hi ∧ c.hi ≤ 100000000
  delays : ∀ q ∈ s.paths, q.d ≤ q.e ∧ q.e ≤ 100000000
  setup : s.setup ≤ 100000000
  hold : s.hold ≤ 100000000
theorem good_start : Good Vbpcas.start := ⟨by decide, by decide, (fun q h => by cases h), (fun q h => by cases h), (fun q h => by cases h), by decide, by decide⟩
theorem within_iff {n lo hi : Int} : within n lo hi = true ↔ lo ≤ n ∧ n ≤ hi := by
  unfold within
  exact decide_eq_true_iff
theorem within_no {n lo hi : Int} : within n lo hi = false ↔ ¬ (lo ≤ n ∧ n ≤ hi) := by
  unfold within
  exact decide_eq_false_iff_not
theorem wide_eq : WIDE = 100000000 := rfl
section
variable {s : State}
theorem step_margins {a b : Int} : step s (.margins a b) = if 0 ≤ a ∧ a ≤ 100000000 ∧ 0 ≤ b ∧ b ≤ 100000000 then ({ s with setup := a.toNat, hold := b.toNat }, [0]) else (s, [-2]) := by
  by_cases h : 0 ≤ a ∧ a ≤ 100000000 ∧ 0 ≤ b ∧ b ≤ 100000000
  · rw [if_pos h]
    have h' : (within a 0 WIDE && within b 0 WIDE) = true := by
      rw [Bool.and_eq_true, within_iff, within_iff, wide_eq]
      omega
    simp [step, change, must, h', bind, Except.bind, pure, Except.pure]
  · rw [if_neg h]
    have h' : (within a 0 WIDE && within b 0 WIDE) = false := by
      rw [Bool.and_eq_false_iff, within_no, within_no, wide_eq]
      omega
    simp [step, change, must, h', bind, Except.bind]
theorem bounds_ok {lo hi : Int} (h : -100000000 ≤ lo ∧ lo ≤ hi ∧ hi ≤ 100000000) : bounds lo hi = .ok ⟨lo, hi⟩ := by
  unfold bounds
  rw [if_pos]
  rw [Bool.and_eq_true, Bool.and_eq_true, within_iff, within_iff, decide_eq_true_iff, wide_eq]
  omega
theorem bounds_no {lo hi : Int} (h : ¬ (-100000000 ≤ lo ∧ lo ≤ hi ∧ hi ≤ 100000000)) : bounds lo hi = .error (-2) := by
  unfold bounds
  rw [if_neg]
  rw [Bool.and_eq_true, Bool.and_eq_true, within_iff, within_iff, decide_eq_true_iff, wide_eq]
  omega
theorem delays_ok {d e : Int} (h : 0 ≤ d ∧ d ≤ e ∧ e ≤ 100000000) : delays d e = .ok (d.toNat, e.toNat) := by
  unfold delays
  rw [if_pos]
  rw [Bool.and_eq_true, Bool.and_eq_true, within_iff, within_iff, decide_eq_true_iff, wide_eq]
  omega
theorem delays_no {d e : Int} (h : ¬ (0 ≤ d ∧ d ≤ e ∧ e ≤ 100000000)) : delays d e = .error (-2) := by
  unfold delays
  rw [if_neg]
  rw [Bool.and_eq_true, Bool.and_eq_true, within_iff, within_iff, decide_eq_true_iff, wide_eq]
  omega
theorem place_ok {n : Nat} {k e : Int} (h : 0 ≤ k ∧ k < n) : place n k e = .ok k.toNat := if_pos h
theorem place_no {n : Nat} {k e : Int} (h : ¬ (0 ≤ k ∧ k < n)) : place n k e = .error e := if_neg h
theorem step_chip_no {lo hi : Int} (h : ¬ (-100000000 ≤ lo ∧ lo ≤ hi ∧ hi ≤ 100000000)) : step s (.chip lo hi) = (s, [-2]) := by
  simp [step, change, bounds_no h, bind, Except.bind]
theorem step_chip_full {lo hi : Int} (h : -100000000 ≤ lo ∧ lo ≤ hi ∧ hi ≤ 100000000) (n : ¬ s.chips.length < 16) : step s (.chip lo hi) = (s, [-4]) := by
  simp [step, change, bounds_ok h, must, CHIPS, n, bind, Except.bind]
theorem step_chip_ok {lo hi : Int} (h : -100000000 ≤ lo ∧ lo ≤ hi ∧ hi ≤ 100000000) (n : s.chips.length < 16) : step s (.chip lo hi) = ({ s with chips := s.chips ++ [⟨lo, hi⟩] }, [(s.chips.length : Int)]) := by
  simp [step, change, bounds_ok h, must, CHIPS, n, bind, Except.bind, pure, Except.pure, one]
theorem step_path_i {i j d e : Int} (h : ¬ (0 ≤ i ∧ i < s.chips.length)) : step s (.path i j d e) = (s, [-1]) := by
  simp [step, change, place_no h, bind, Except.bind]
theorem step_path_j {i j d e : Int} (hi : 0 ≤ i ∧ i < s.chips.length) (h : ¬ (0 ≤ j ∧ j < s.chips.length)) : step s (.path i j d e) = (s, [-1]) := by
  simp [step, change, place_ok hi, place_no h, bind, Except.bind]
theorem step_path_no {i j d e : Int} (hi : 0 ≤ i ∧ i < s.chips.length) (hj : 0 ≤ j ∧ j < s.chips.length) (h : ¬ (0 ≤ d ∧ d ≤ e ∧ e ≤ 100000000)) : step s (.path i j d e) = (s, [-2]) := by
  simp [step, change, place_ok hi, place_ok hj, delays_no h, bind, Except.bind]
theorem step_path_full {i j d e : Int} (hi : 0 ≤ i ∧ i < s.chips.length) (hj : 0 ≤ j ∧ j < s.chips.length) (h : 0 ≤ d ∧ d ≤ e ∧ e ≤ 100000000) (n : ¬ s.paths.length < 48) : step s (.path i j d e) = (s, [-4]) := by
  simp [step, change, place_ok hi, place_ok hj, delays_ok h, must, PATHS, n, bind, Except.bind]
theorem step_path_ok {i j d e : Int} (hi : 0 ≤ i ∧ i < s.chips.length) (hj : 0 ≤ j ∧ j < s.chips.length) (h : 0 ≤ d ∧ d ≤ e ∧ e ≤ 100000000) (n : s.paths.length < 48) :
    step s (.path i j d e) = ({ s with paths := s.paths ++ [⟨i.toNat, j.toNat, d.toNat, e.toNat⟩] }, [(s.paths.length : Int)]) := by
  simp [step, change, place_ok hi, place_ok hj, delays_ok h, must, PATHS, n, bind, Except.bind, pure, Except.pure, one]
theorem step_bound_i {i lo hi : Int} (h : ¬ (0 ≤ i ∧ i < s.chips.length)) : step s (.bound i lo hi) = (s, [-1]) := by
  simp [step, change, place_no h, bind, Except.bind]
theorem step_bound_no {i lo hi : Int} (hi' : 0 ≤ i ∧ i < s.chips.length) (h : ¬ (-100000000 ≤ lo ∧ lo ≤ hi ∧ hi ≤ 100000000)) : step s (.bound i lo hi) = (s, [-2]) := by
  simp [step, change, place_ok hi', bounds_no h, bind, Except.bind]
theorem step_bound_ok {i lo hi : Int} (hi' : 0 ≤ i ∧ i < s.chips.length) (h : -100000000 ≤ lo ∧ lo ≤ hi ∧ hi ≤ 100000000) : step s (.bound i lo hi) = ({ s with chips := s.chips.set i.toNat ⟨lo, hi⟩ }, [0]) := by
  simp [step, change, place_ok hi', bounds_ok h, bind, Except.bind, pure, Except.pure]
theorem step_delay_k {k d e : Int} (h : ¬ (0 ≤ k ∧ k < s.paths.length)) : step s (.delay k d e) = (s, [-5]) := by
  simp [step, change, place_no h, bind, Except.bind]
theorem step_delay_no {k d e : Int} (hk : 0 ≤ k ∧ k < s.paths.length) (h : ¬ (0 ≤ d ∧ d ≤ e ∧ e ≤ 100000000)) : step s (.delay k d e) = (s, [-2]) := by
  simp [step, change, place_ok hk, delays_no h, bind, Except.bind]
theorem modify_at : ∀ (l : List Path) (k : Nat) (q : Path) (f : Path → Path), l[k]? = some q → l.modify k f = l.set k (f q)
  | [], k, q, f, h => by simp at h
  | a :: l, 0, q, f, h => by
    have e : a = q := Option.some.inj h
    subst e
    rfl
  | a :: l, k + 1, q, f, h => by
    have := modify_at l k q f h
    simp [List.modify_succ_cons, this]
theorem step_delay_ok {k d e : Int} {q : Path} (hk : 0 ≤ k ∧ k < s.paths.length) (h : 0 ≤ d ∧ d ≤ e ∧ e ≤ 100000000) (hq : s.paths[k.toNat]? = some q) : step s (.delay k d e) = ({ s with paths := s.paths.set k.toNat { q with d := d.toNat, e := e.toNat } }, [0]) := by
  simp [step, change, place_ok hk, delays_ok h, bind, Except.bind, pure, Except.pure, modify_at _ _ _ _ hq]
theorem step_away_k {k : Int} (h : ¬ (0 ≤ k ∧ k < s.paths.length)) : step s (.away k) = (s, [-5]) := by
  simp [step, change, place_no h, bind, Except.bind]
theorem step_away_ok {k : Int} (hk : 0 ≤ k ∧ k < s.paths.length) : step s (.away k) = ({ s with paths := s.paths.eraseIdx k.toNat }, [0]) := by
  simp [step, change, place_ok hk, bind, Except.bind, pure, Except.pure]
theorem step_clear : step s .clear = (Vbpcas.start, [0]) := rfl
theorem period_ok {p : Int} (h : 0 ≤ p ∧ p ≤ 2000000000) : period p = .ok p := by
  unfold period
  rw [if_pos (within_iff.mpr h)]
theorem period_no {p : Int} (h : ¬ (0 ≤ p ∧ p ≤ 2000000000)) : period p = .error (-2) := by
  unfold period
  rw [if_neg (fun q => h (within_iff.mp q))]
theorem row_ok {r : List Int} (h : r.length = s.chips.length) : rowGot s r = .ok r := if_pos h
theorem row_no {r : List Int} (h : ¬ r.length = s.chips.length) : rowGot s r = .error (-3) := if_neg h
theorem step_check_p {p : Int} {r : List Int} (h : ¬ (0 ≤ p ∧ p ≤ 2000000000)) : step s (.check p r) = (s, [-2]) := by
  simp [step, ask, period_no h, bind, Except.bind]
theorem step_check_r {p : Int} {r : List Int} (h : 0 ≤ p ∧ p ≤ 2000000000) (n : ¬ r.length = s.chips.length) : step s (.check p r) = (s, [-3]) := by
  simp [step, ask, period_ok h, row_no n, bind, Except.bind]
theorem step_check_ok {p : Int} {r : List Int} (h : 0 ≤ p ∧ p ≤ 2000000000) (n : r.length = s.chips.length) : step s (.check p r) = (s, counted (ruleNums s) (broken s p r)) := by
  simp [step, ask, period_ok h, row_ok n, bind, Except.bind, pure, Except.pure]
theorem step_slacks_p {p : Int} {r : List Int} (h : ¬ (0 ≤ p ∧ p ≤ 2000000000)) : step s (.slacks p r) = (s, [-2]) := by
  simp [step, ask, period_no h, bind, Except.bind]
theorem step_slacks_r {p : Int} {r : List Int} (h : 0 ≤ p ∧ p ≤ 2000000000) (n : ¬ r.length = s.chips.length) : step s (.slacks p r) = (s, [-3]) := by
  simp [step, ask, period_ok h, row_no n, bind, Except.bind]
theorem step_slacks_ok {p : Int} {r : List Int} (h : 0 ≤ p ∧ p ≤ 2000000000) (n : r.length = s.chips.length) : step s (.slacks p r) = (s, counted one (slacks s p r)) := by
  simp [step, ask, period_ok h, row_ok n, bind, Except.bind, pure, Except.pure]
end
end Ck

set_option linter.all false
namespace Ck
open Vbpcas
def num {α : Type} : Nat → List α → List (Nat × α)
  | _, [] => []
  | k, a :: l => (k, a) :: num (k + 1) l
theorem zip_range' {α : Type} : ∀ (l : List α) (k : Nat), (List.range' k l.length).zip l = num k l
  | [], k => rfl
  | a :: l, k => by
    rw [List.length_cons, List.range'_succ, List.zip_cons_cons, zip_range' l (k + 1)]
    rfl
theorem zip_range {α : Type} (l : List α) : (List.range l.length).zip l = num 0 l := by
  rw [List.range_eq_range']
  exact zip_range' l 0
theorem num_append {α : Type} : ∀ (l m : List α) (k : Nat), num k (l ++ m) = num k l ++ num (k + l.length) m
  | [], m, k => rfl
  | a :: l, m, k => by
    show (k, a) :: num (k + 1) (l ++ m) = (k, a) :: (num (k + 1) l ++ num (k + (l.length + 1)) m)
    rw [num_append l m (k + 1), show k + 1 + l.length = k + (l.length + 1) by omega]
theorem num_two {α : Type} {β : Type} {f g : Nat × α → β} : ∀ (l : List α) (k j : Nat), num (j + 2 * k) ((num k l).flatMap fun t => [f t, g t]) = (num k l).flatMap fun t => [(j + 2 * t.1, f t), (j + 2 * t.1 + 1, g t)]
  | [], k, j => rfl
  | a :: l, k, j => by
    have ih := num_two (f := f) (g := g) l (k + 1) j
    show (j + 2 * k, f (k, a)) :: (j + 2 * k + 1, g (k, a)) :: num (j + 2 * k + 1 + 1) ((num (k + 1) l).flatMap fun t => [f t, g t]) = (j + 2 * k, f (k, a)) :: (j + 2 * k + 1, g (k, a)) :: ((num (k + 1) l).flatMap fun t => [(j + 2 * t.1, f t), (j + 2 * t.1 + 1, g t)])
    rw [show j + 2 * k + 1 + 1 = j + 2 * (k + 1) by omega, ih]
theorem num_length {α : Type} : ∀ (l : List α) (k : Nat), (num k l).length = l.length
  | [], _ => rfl
  | a :: l, k => congrArg (· + 1) (num_length l (k + 1))
theorem num_at {α : Type} : ∀ (l : List α) (k i : Nat), (num k l)[i]? = (l[i]?).map fun a => (k + i, a)
  | [], k, i => by simp [num]
  | a :: l, k, 0 => rfl
  | a :: l, k, i + 1 => by
    show (num (k + 1) l)[i]? = (l[i]?).map fun a => (k + (i + 1), a)
    rw [num_at l (k + 1) i, show k + 1 + i = k + (i + 1) by omega]
theorem num_flat {α β : Type} (f : α → List β) : ∀ (l : List α) (k : Nat), (num k l).flatMap (fun t => f t.2) = l.flatMap f
  | [], _ => rfl
  | a :: l, k => by
    show f a ++ (num (k + 1) l).flatMap (fun t => f t.2) = f a ++ l.flatMap f
    rw [num_flat f l (k + 1)]
theorem num_lt {α : Type} : ∀ (l : List α) (k : Nat), ∀ t ∈ num k l, k ≤ t.1 ∧ t.1 < k + l.length
  | [], _, _, h => by cases h
  | a :: l, k, t, h => by
    rcases List.mem_cons.mp h with rfl | h
    · exact ⟨Nat.le_refl _, by simp⟩
    · have := num_lt l (k + 1) t h
      simp only [List.length_cons]
      omega
theorem nums_chip (s : State) {i : Nat} (h : i < s.chips.length) : ruleNums s (0 + 2 * i) = [0, (i : Int)] ∧ ruleNums s (0 + 2 * i + 1) = [1, (i : Int)] := by
  unfold ruleNums
  constructor
  · simp only
    rw [if_pos (by omega), show (0 + 2 * i) % 2 = 0 by omega, show (0 + 2 * i) / 2 = i by omega]
    rfl
  · simp only
    rw [if_pos (by omega), show (0 + 2 * i + 1) % 2 = 1 by omega, show (0 + 2 * i + 1) / 2 = i by omega]
    rfl
theorem nums_path (s : State) (k : Nat) : ruleNums s (2 * s.chips.length + 2 * k) = [2, (k : Int)] ∧ ruleNums s (2 * s.chips.length + 2 * k + 1) = [3, (k : Int)] := by
  unfold ruleNums
  constructor
  · simp only
    rw [if_neg (by omega), show (2 * s.chips.length + 2 * k - 2 * s.chips.length) % 2 = 0 by omega, show (2 * s.chips.length + 2 * k - 2 * s.chips.length) / 2 = k by omega]
    rfl
  · simp only
    rw [if_neg (by omega), show (2 * s.chips.length + 2 * k + 1 - 2 * s.chips.length) % 2 = 1 by omega, show (2 * s.chips.length + 2 * k + 1 - 2 * s.chips.length) / 2 = k by omega]
    rfl
theorem rules_num (s : State) (p : Int) : (List.range (rules s p).length).zip (rules s p) =
    (num 0 s.chips).flatMap (fun t => [(0 + 2 * t.1, (⟨0, t.1 + 1, t.2.hi⟩ : Rule)), (0 + 2 * t.1 + 1, ⟨t.1 + 1, 0, -t.2.lo⟩)]) ++
    (num 0 s.paths).flatMap (fun t => [(2 * s.chips.length + 2 * t.1, (⟨t.2.j + 1, t.2.i + 1, p - (s.setup : Int) - (t.2.e : Int)⟩ : Rule)), (2 * s.chips.length + 2 * t.1 + 1, ⟨t.2.i + 1, t.2.j + 1, (t.2.d : Int) - (s.hold : Int)⟩)]) := by
  rw [zip_range]
  unfold rules
  rw [zip_range, num_append, ← num_flat (pathRules s p) s.paths 0]
  have l1 : ((num 0 s.chips).flatMap fun t => chipRules t.1 t.2).length = 2 * s.chips.length := by
    have : ∀ (l : List Chip) (k : Nat), ((num k l).flatMap fun t => chipRules t.1 t.2).length = 2 * l.length := by
      intro l
      induction l with
      | nil => intro k; rfl
      | cons a l ih =>
        intro k
        show (chipRules k a ++ (num (k + 1) l).flatMap fun t => chipRules t.1 t.2).length = _
        rw [List.length_append, ih (k + 1)]
        simp [chipRules]
        omega
    exact this _ _
  rw [l1]
  have a1 := num_two (f := fun t : Nat × Chip => (⟨0, t.1 + 1, t.2.hi⟩ : Rule)) (g := fun t => (⟨t.1 + 1, 0, -t.2.lo⟩ : Rule)) s.chips 0 0
  have a2 := num_two (f := fun t : Nat × Path => (⟨t.2.j + 1, t.2.i + 1, p - (s.setup : Int) - (t.2.e : Int)⟩ : Rule)) (g := fun t => (⟨t.2.i + 1, t.2.j + 1, (t.2.d : Int) - (s.hold : Int)⟩ : Rule)) s.paths 0 (2 * s.chips.length)
  rw [show 0 + 2 * 0 = 0 by omega] at a1
  rw [show 2 * s.chips.length + 2 * 0 = 0 + 2 * s.chips.length by omega] at a2
  exact congr (congrArg _ a1) a2
end Ck

set_option linter.all false
namespace Ck
open Vbpcas
structure Ru where
  kind : Nat
  num : Nat
  b : Nat
  e : Nat
  w : Int
def Ru.rule (r : Ru) : Rule := ⟨r.b, r.e, r.w⟩
abbrev wl (rs : List Ru) : List Rule := rs.map Ru.rule
abbrev Sums := List (Option Int)
def less (t : Int) : Option Int → Bool
  | none => true
  | some z => decide (t < z)
def lessen1 (x : Sums × Bool) (r : Ru) : Sums × Bool := match x.1.getD r.b none with
  | none => x
  | some y => if less (y + r.w) (x.1.getD r.e none) = true then (x.1.set r.e (some (y + r.w)), true) else x
def lessen (rs : List Ru) (d : Sums) : Sums × Bool := rs.foldl lessen1 (d, false)
def rounds (rs : List Ru) : Nat → Sums → Option Sums
  | 0, _ => none
  | k + 1, d => if (lessen rs d).2 = true then rounds rs k (lessen rs d).1 else some (lessen rs d).1
def seedC (n u : Nat) : Sums := (List.replicate n none).set u (some 0)
def leastSums (rs : List Ru) (zero u : Nat) : Option Sums := rounds rs (zero + 1) (seedC (zero + 1) u)
theorem getD_set {d : Sums} {i j : Nat} {x : Option Int} (h : i < d.length) : (d.set i x).getD j none = if j = i then x else d.getD j none := by
  rw [List.getD_eq_getElem?_getD, List.getD_eq_getElem?_getD, List.getElem?_set]
  by_cases e : i = j
  · subst e
    simp [h]
  · rw [if_neg e, if_neg (Ne.symm e)]
def Le (d d' : Sums) : Prop := d'.length = d.length ∧ ∀ v x, d.getD v none = some x → ∃ y, d'.getD v none = some y ∧ y ≤ x
theorem Le.refl (d : Sums) : Le d d := ⟨rfl, fun v x h => ⟨x, h, Int.le_refl _⟩⟩
theorem Le.trans {a b c : Sums} (h : Le a b) (k : Le b c) : Le a c := ⟨k.1.trans h.1, fun v x e => by
  obtain ⟨y, e1, h1⟩ := h.2 v x e
  obtain ⟨z, e2, h2⟩ := k.2 v y e1
  exact ⟨z, e2, by omega⟩⟩
theorem less_iff {t : Int} {o : Option Int} : less t o = true ↔ ∀ z, o = some z → t < z := by
  cases o with
  | none => simp [less]
  | some z => simp [less]
theorem not_less {t : Int} {o : Option Int} (h : ¬ less t o = true) : ∃ z, o = some z ∧ z ≤ t := by
  cases o with
  | none => exact absurd rfl h
  | some z => exact ⟨z, rfl, by simp [less] at h; omega⟩
theorem lessen1_or (x : Sums × Bool) (r : Ru) : (lessen1 x r = x ∧ ∀ y, x.1.getD r.b none = some y → ∃ z, x.1.getD r.e none = some z ∧ z ≤ y + r.w) ∨
    ∃ y, x.1.getD r.b none = some y ∧ less (y + r.w) (x.1.getD r.e none) = true ∧ lessen1 x r = (x.1.set r.e (some (y + r.w)), true) := by
  unfold lessen1
  cases h : x.1.getD r.b none with
  | none => exact .inl ⟨rfl, fun y q => by cases q⟩
  | some y =>
    by_cases k : less (y + r.w) (x.1.getD r.e none) = true
    · exact .inr ⟨y, rfl, k, if_pos k⟩
    · refine .inl ⟨if_neg k, fun y' q => ?_⟩
      cases q
      exact not_less k
theorem lessen1_le {n : Nat} (x : Sums × Bool) (r : Ru) (hl : x.1.length = n) (he : r.e < n) : Le x.1 (lessen1 x r).1 ∧ ∀ y, x.1.getD r.b none = some y → ∃ z, (lessen1 x r).1.getD r.e none = some z ∧ z ≤ y + r.w := by
  rcases lessen1_or x r with ⟨e, h⟩ | ⟨y, h1, h2, e⟩
  · rw [e]
    exact ⟨Le.refl _, h⟩
  · rw [e]
    refine ⟨⟨by simp, fun v z q => ?_⟩, fun y' q => ?_⟩
    · show ∃ y', (x.1.set r.e (some (y + r.w))).getD v none = some y' ∧ _
      rw [getD_set (by omega)]
      by_cases ev : v = r.e
      · rw [if_pos ev]
        subst ev
        exact ⟨_, rfl, Int.le_of_lt (less_iff.mp h2 z q)⟩
      · rw [if_neg ev]
        exact ⟨z, q, Int.le_refl _⟩
    · rw [h1] at q
      cases q
      refine ⟨_, ?_, Int.le_refl _⟩
      show (x.1.set r.e (some (y + r.w))).getD r.e none = _
      rw [getD_set (by omega), if_pos rfl]
theorem fold_le' {n : Nat} : ∀ (rs : List Ru) (x : Sums × Bool), x.1.length = n → (∀ r ∈ rs, r.e < n) → Le x.1 (rs.foldl lessen1 x).1 ∧ ∀ r ∈ rs, ∀ y, x.1.getD r.b none = some y → ∃ z, (rs.foldl lessen1 x).1.getD r.e none = some z ∧ z ≤ y + r.w
  | [], x, hl, hi => ⟨Le.refl _, fun r h => by cases h⟩
  | a :: rs, x, hl, hi => by
    have h1 := lessen1_le x a hl (hi a List.mem_cons_self)
    have h2 := fold_le' rs (lessen1 x a) (h1.1.1.trans hl) (fun r h => hi r (List.mem_cons_of_mem _ h))
    refine ⟨h1.1.trans h2.1, fun r hr y hy => ?_⟩
    show ∃ z, (rs.foldl lessen1 (lessen1 x a)).1.getD r.e none = some z ∧ _
    rcases List.mem_cons.mp hr with rfl | hr
    · obtain ⟨z, e1, k1⟩ := h1.2 y hy
      obtain ⟨z2, e2, k2⟩ := h2.1.2 _ _ e1
      exact ⟨z2, e2, by omega⟩
    · obtain ⟨y2, e1, k1⟩ := h1.1.2 _ _ hy
      obtain ⟨z, e2, k2⟩ := h2.2 r hr y2 e1
      exact ⟨z, e2, by omega⟩
def Closed (rs : List Ru) (d : Sums) : Prop := ∀ r ∈ rs, ∀ y, d.getD r.b none = some y → ∃ z, d.getD r.e none = some z ∧ z ≤ y + r.w
theorem fold_true : ∀ (rs : List Ru) (x : Sums × Bool), x.2 = true → (rs.foldl lessen1 x).2 = true
  | [], x, h => h
  | a :: rs, x, h => by
    refine fold_true rs (lessen1 x a) ?_
    rcases lessen1_or x a with ⟨e, _⟩ | ⟨y, _, _, e⟩
    · rw [e]; exact h
    · rw [e]
theorem fold_closed : ∀ (rs : List Ru) (x : Sums × Bool), (rs.foldl lessen1 x).2 = false → rs.foldl lessen1 x = x ∧ Closed rs x.1
  | [], x, h => ⟨rfl, fun r h => by cases h⟩
  | a :: rs, x, h => by
    have h : (rs.foldl lessen1 (lessen1 x a)).2 = false := h
    rcases lessen1_or x a with ⟨e, hc⟩ | ⟨y, _, _, e⟩
    · rw [e] at h
      have ih := fold_closed rs x h
      refine ⟨?_, fun r hr => ?_⟩
      · show rs.foldl lessen1 (lessen1 x a) = x
        rw [e]
        exact ih.1
      · rcases List.mem_cons.mp hr with rfl | hr
        · exact hc
        · exact ih.2 r hr
    · have := fold_true rs (lessen1 x a) (by rw [e])
      rw [this] at h
      cases h
theorem closed_fold : ∀ (rs : List Ru) (x : Sums × Bool), Closed rs x.1 → rs.foldl lessen1 x = x
  | [], x, h => rfl
  | a :: rs, x, h => by
    show rs.foldl lessen1 (lessen1 x a) = x
    rcases lessen1_or x a with ⟨e, hc⟩ | ⟨y, h1, h2, e⟩
    · rw [e]
      exact closed_fold rs x fun r hr => h r (List.mem_cons_of_mem _ hr)
    · obtain ⟨z, e1, k1⟩ := h a List.mem_cons_self y h1
      have := less_iff.mp h2 z e1
      omega
structure Sound (l : List Rule) (n u : Nat) (d : Sums) : Prop where
  len : d.length = n
  way : ∀ v x, d.getD v none = some x → ∃ r, Way l u r v ∧ wsum r = x
  zero : ∃ y, d.getD u none = some y ∧ y ≤ 0
theorem Sound.turn {rs : List Ru} {n u : Nat} {x : Sums × Bool} (h : Sound (wl rs) n u x.1) (hi : ∀ r ∈ rs, r.e < n) {r : Ru} (hr : r ∈ rs) : Sound (wl rs) n u (lessen1 x r).1 := by
  have h1 := (lessen1_le x r h.len (hi r hr)).1
  refine ⟨h1.1.trans h.len, fun v z q => ?_, ?_⟩
  · rcases lessen1_or x r with ⟨e, _⟩ | ⟨y, k1, _, e⟩
    · rw [e] at q
      exact h.way v z q
    · rw [e] at q
      have q : (x.1.set r.e (some (y + r.w))).getD v none = some z := q
      rw [getD_set (by rw [h.len]; exact hi r hr)] at q
      split at q
      · rename_i ev
        obtain ⟨p, w, s⟩ := h.way _ _ k1
        refine ⟨p ++ [r.rule], way_append.mpr ⟨r.b, w, List.mem_map_of_mem hr, rfl, ev.symm⟩, ?_⟩
        rw [wsum_append, s]
        have := Option.some.inj q
        simp only [wsum, Ru.rule]
        omega
      · exact h.way v z q
  · obtain ⟨y, e, k⟩ := h.zero
    obtain ⟨z, e2, k2⟩ := h1.2 _ _ e
    exact ⟨z, e2, by omega⟩
theorem Sound.fold {rs : List Ru} {n u : Nat} (hi : ∀ r ∈ rs, r.e < n) : ∀ (qs : List Ru) (x : Sums × Bool), (∀ r ∈ qs, r ∈ rs) → Sound (wl rs) n u x.1 → Sound (wl rs) n u (qs.foldl lessen1 x).1
  | [], x, hq, h => h
  | a :: qs, x, hq, h => Sound.fold hi qs (lessen1 x a) (fun r hr => hq r (List.mem_cons_of_mem _ hr)) (h.turn hi (hq a List.mem_cons_self))
def Complete (l : List Rule) (u k : Nat) (d : Sums) : Prop := ∀ r v, Way l u r v → r.length ≤ k → ∃ y, d.getD v none = some y ∧ y ≤ wsum r
theorem mem_wl {rs : List Ru} {q : Rule} (h : q ∈ wl rs) : ∃ r ∈ rs, r.b = q.u ∧ r.e = q.v ∧ r.w = q.w := by
  obtain ⟨r, hr, e⟩ := List.mem_map.mp h
  subst e
  exact ⟨r, hr, rfl, rfl, rfl⟩
theorem Complete.round {rs : List Ru} {n u k : Nat} {d : Sums} (hl : d.length = n) (hi : ∀ r ∈ rs, r.e < n) (h : Complete (wl rs) u k d) : Complete (wl rs) u (k + 1) (lessen rs d).1 := by
  have F := fold_le' rs (d, false) hl hi
  intro p v w hp
  by_cases hk : p.length ≤ k
  · obtain ⟨y, e, hy⟩ := h p v w hk
    obtain ⟨z, e2, hz⟩ := F.1.2 _ _ e
    exact ⟨z, e2, by omega⟩
  · obtain ⟨a, q, rfl⟩ : ∃ a q, p = a ++ [q] := ⟨p.dropLast, p.getLast (by intro e; subst e; simp at hk), (List.dropLast_concat_getLast _).symm⟩
    obtain ⟨m, w1, hq, hm, hv⟩ := way_append.mp w
    have hv : q.v = v := hv
    obtain ⟨y, e, hy⟩ := h a m w1 (by simp at hp; omega)
    obtain ⟨r, hr, e1, e2, e3⟩ := mem_wl hq
    rw [← hm, ← e1] at e
    obtain ⟨z, ez, hz⟩ := F.2 r hr y e
    rw [e2, hv] at ez
    refine ⟨z, ez, ?_⟩
    rw [wsum_append]
    simp only [wsum]
    omega
theorem closed_way {rs : List Ru} {d : Sums} (hc : Closed rs d) : ∀ {p : List Rule} {u v : Nat} {x : Int}, Way (wl rs) u p v → d.getD u none = some x → ∃ y, d.getD v none = some y ∧ y ≤ x + wsum p
  | [], u, v, x, w, h => by
    have e : u = v := w
    subst e
    exact ⟨x, h, by simp [wsum]⟩
  | q :: p, u, v, x, ⟨hq, hu, w⟩, h => by
    obtain ⟨r, hr, e1, e2, e3⟩ := mem_wl hq
    rw [← hu, ← e1] at h
    obtain ⟨z, ez, hz⟩ := hc r hr x h
    rw [e2] at ez
    obtain ⟨y, ey, hy⟩ := closed_way hc w ez
    refine ⟨y, ey, ?_⟩
    simp only [wsum]
    omega
structure Dist (l : List Rule) (n u : Nat) (d : Sums) : Prop where
  len : d.length = n
  least : ∀ v, v < n → ∃ x, d.getD v none = some x ∧ Least l u v x
theorem closed_least {rs : List Ru} {n u : Nat} {d : Sums} (hs : Sound (wl rs) n u d) (hc : Closed rs d) (hreach : ∀ v, v < n → ∃ p, Way (wl rs) u p v) : Dist (wl rs) n u d ∧ NoNeg (wl rs) n := by
  obtain ⟨y0, e0, h0⟩ := hs.zero
  refine ⟨⟨hs.len, fun v hv => ?_⟩, fun v p hv w _ _ => ?_⟩
  · obtain ⟨p, w⟩ := hreach v hv
    obtain ⟨y, e, _⟩ := closed_way hc w e0
    refine ⟨y, e, hs.way v y e, fun p' w' => ?_⟩
    obtain ⟨y', e', h'⟩ := closed_way hc w' e0
    rw [e] at e'
    cases e'
    omega
  · obtain ⟨p0, w0⟩ := hreach v hv
    obtain ⟨y, e, _⟩ := closed_way hc w0 e0
    obtain ⟨y', e', h'⟩ := closed_way hc w e
    rw [e] at e'
    cases e'
    omega
theorem rounds_some {rs : List Ru} {n u : Nat} (hi : ∀ r ∈ rs, r.e < n) : ∀ (k : Nat) (d d' : Sums), Sound (wl rs) n u d → rounds rs k d = some d' → Sound (wl rs) n u d' ∧ Closed rs d'
  | 0, d, d', hs, h => by cases h
  | k + 1, d, d', hs, h => by
    unfold rounds at h
    have hs' : Sound (wl rs) n u (lessen rs d).1 := Sound.fold hi rs (d, false) (fun r hr => hr) hs
    split at h
    · exact rounds_some hi k _ _ hs' h
    · rename_i hc
      have e := Option.some.inj h
      subst e
      have := fold_closed rs (d, false) (by simpa [lessen] using hc)
      refine ⟨hs', ?_⟩
      unfold lessen
      rw [this.1]
      exact this.2
theorem rounds_noneg {rs : List Ru} {n u : Nat} (hin : Inside (wl rs) n) (hi : ∀ r ∈ rs, r.e < n) (hu : u < n) (h0 : NoNeg (wl rs) n) : ∀ (m k : Nat) (d : Sums), k + (m + 1) = n → Sound (wl rs) n u d → Complete (wl rs) u k d → ∃ d', rounds rs (m + 1) d = some d'
  | m, k, d, hk, hs, hc => by
    unfold rounds
    by_cases h : (lessen rs d).2 = true
    · rw [if_pos h]
      have hs' : Sound (wl rs) n u (lessen rs d).1 := Sound.fold hi rs (d, false) (fun r hr => hr) hs
      have hc' := hc.round hs.len hi
      cases m with
      | succ m => exact rounds_noneg hin hi hu h0 m (k + 1) _ (by omega) hs' hc'
      | zero =>
        exfalso
        have hcl : Closed rs d := fun r hr y hy => by
          obtain ⟨p, w, e⟩ := hs.way _ _ hy
          have w' : Way (wl rs) u (p ++ [r.rule]) r.e := way_append.mpr ⟨r.b, w, List.mem_map_of_mem hr, rfl, rfl⟩
          obtain ⟨p2, w2, l2, s2⟩ := way_short hin h0 _ (Nat.le_refl _) hu w'
          obtain ⟨z, ez, hz⟩ := hc p2 r.e w2 (by omega)
          refine ⟨z, ez, ?_⟩
          rw [wsum_append] at s2
          simp only [wsum, Ru.rule] at s2
          omega
        have := closed_fold rs (d, false) hcl
        unfold lessen at h
        rw [this] at h
        cases h
    · rw [if_neg h]
      exact ⟨_, rfl⟩
theorem seedC_at {n u v : Nat} (hu : u < n) : (seedC n u).getD v none = if v = u then some 0 else none := by
  unfold seedC
  rw [getD_set (by simpa using hu)]
  split
  · rfl
  · rw [List.getD_eq_getElem?_getD, List.getElem?_replicate]
    split <;> rfl
theorem seedC_len {n u : Nat} : (seedC n u).length = n := by simp [seedC]
theorem leastSums_is {rs : List Ru} {zero u : Nat} (hin : Inside (wl rs) (zero + 1)) (hu : u < zero + 1) (hreach : ∀ v, v < zero + 1 → ∃ p, Way (wl rs) u p v) :
    (NoNeg (wl rs) (zero + 1) ∧ ∃ d, leastSums rs zero u = some d ∧ Dist (wl rs) (zero + 1) u d) ∨ (¬ NoNeg (wl rs) (zero + 1) ∧ leastSums rs zero u = none) := by
  have hi : ∀ r ∈ rs, r.e < zero + 1 := fun r hr => (hin r.rule (List.mem_map_of_mem hr)).2
  have hs : Sound (wl rs) (zero + 1) u (seedC (zero + 1) u) := ⟨seedC_len, fun v x h => by
    rw [seedC_at hu] at h
    split at h
    · rename_i e
      exact ⟨[], e.symm, by simp [wsum]; exact Option.some.inj h⟩
    · exact absurd h (by simp), ⟨0, by rw [seedC_at hu, if_pos rfl], Int.le_refl _⟩⟩
  have hc : Complete (wl rs) u 0 (seedC (zero + 1) u) := fun p v w hp => by
    have e : p = [] := List.eq_nil_of_length_eq_zero (by omega)
    subst e
    have e : u = v := w
    subst e
    exact ⟨0, by rw [seedC_at hu, if_pos rfl], by simp [wsum]⟩
  unfold leastSums
  cases h : rounds rs (zero + 1) (seedC (zero + 1) u) with
  | some d =>
    have := rounds_some hi _ _ _ hs h
    have := closed_least this.1 this.2 hreach
    exact .inl ⟨this.2, d, rfl, this.1⟩
  | none =>
    refine .inr ⟨fun h0 => ?_, rfl⟩
    obtain ⟨d, e⟩ := rounds_noneg hin hi hu h0 zero 0 _ (by omega) hs hc
    rw [e] at h
    cases h
end Ck

set_option linter.all false
namespace Ck
open Vbpcas
def ren (f : Nat → Nat) (q : Rule) : Rule := ⟨f q.u, f q.v, q.w⟩
theorem way_ren {l : List Rule} (f : Nat → Nat) : ∀ {p : List Rule} {u v : Nat}, Way l u p v → Way (l.map (ren f)) (f u) (p.map (ren f)) (f v)
  | [], u, v, w => congrArg f w
  | q :: p, u, v, ⟨h1, h2, w⟩ => ⟨List.mem_map_of_mem h1, congrArg f h2, way_ren f w⟩
theorem wsum_ren (f : Nat → Nat) : ∀ p : List Rule, wsum (p.map (ren f)) = wsum p
  | [] => rfl
  | q :: p => by
    show q.w + wsum (p.map (ren f)) = q.w + wsum p
    rw [wsum_ren f p]
def pl (n : Nat) : Nat → Nat
  | 0 => n
  | i + 1 => i
def lp (n v : Nat) : Nat := if v = n then 0 else v + 1
theorem pl_lt {n u : Nat} (h : u < n + 1) : pl n u < n + 1 := by cases u <;> simp [pl] <;> omega
theorem lp_lt {n u : Nat} (h : u < n + 1) : lp n u < n + 1 := by unfold lp; split <;> omega
theorem lp_pl {n u : Nat} (h : u < n + 1) : lp n (pl n u) = u := by
  cases u with
  | zero => simp [lp, pl]
  | succ i =>
    show (if i = n then 0 else i + 1) = i + 1
    rw [if_neg (by omega)]
theorem ren_back {l : List Rule} {n : Nat} (hi : Inside l (n + 1)) : (l.map (ren (pl n))).map (ren (lp n)) = l := by
  rw [List.map_map]
  conv => rhs; rw [← List.map_id l]
  refine List.map_congr_left fun q hq => ?_
  have ⟨h1, h2⟩ := hi q hq
  show (⟨lp n (pl n q.u), lp n (pl n q.v), q.w⟩ : Rule) = q
  rw [lp_pl h1, lp_pl h2]
theorem ren_inside {l : List Rule} {n : Nat} (hi : Inside l (n + 1)) : Inside (l.map (ren (pl n))) (n + 1) := fun q hq => by
  obtain ⟨q0, h0, rfl⟩ := List.mem_map.mp hq
  have ⟨h1, h2⟩ := hi q0 h0
  exact ⟨pl_lt h1, pl_lt h2⟩
theorem noneg_ren {l : List Rule} {n : Nat} (hi : Inside l (n + 1)) : NoNeg (l.map (ren (pl n))) (n + 1) ↔ NoNeg l (n + 1) := by
  constructor
  · intro h u p hu w h1 h2
    have := h (pl n u) (p.map (ren (pl n))) (pl_lt hu) (way_ren _ w) (by simpa using h1) (by simpa using h2)
    rwa [wsum_ren] at this
  · intro h u p hu w h1 h2
    have w := way_ren (lp n) w
    rw [ren_back hi] at w
    have := h (lp n u) (p.map (ren (lp n))) (lp_lt hu) w (by simpa using h1) (by simpa using h2)
    rwa [wsum_ren] at this
theorem way_back {l : List Rule} {n u v : Nat} (hi : Inside l (n + 1)) (hu : u < n + 1) (hv : v < n + 1) {p : List Rule} (w : Way (l.map (ren (pl n))) (pl n u) p (pl n v)) : ∃ p', Way l u p' v ∧ p'.length = p.length ∧ wsum p' = wsum p := by
  have w := way_ren (lp n) w
  rw [ren_back hi, lp_pl hu, lp_pl hv] at w
  exact ⟨_, w, by simp, wsum_ren _ _⟩
theorem least_ren {l : List Rule} {n u v : Nat} {x : Int} (hi : Inside l (n + 1)) (hu : u < n + 1) (hv : v < n + 1) (h : Least (l.map (ren (pl n))) (pl n u) (pl n v) x) : Least l u v x := by
  obtain ⟨⟨p, w, e⟩, k⟩ := h
  obtain ⟨p', w', _, e'⟩ := way_back hi hu hv w
  refine ⟨⟨p', w', by omega⟩, fun p2 w2 => ?_⟩
  have := k _ (way_ren (pl n) w2)
  rwa [wsum_ren] at this
def tq (q : Rule) : Rule := ⟨q.v, q.u, q.w⟩
theorem way_turn {l : List Rule} : ∀ {p : List Rule} {u v : Nat}, Way l u p v → Way (l.map tq) v (p.reverse.map tq) u
  | [], u, v, w => Eq.symm w
  | q :: p, u, v, ⟨h1, h2, w⟩ => by
    rw [List.reverse_cons, List.map_append]
    exact way_append.mpr ⟨q.v, way_turn w, List.mem_map_of_mem h1, rfl, h2⟩
theorem wsum_turn : ∀ p : List Rule, wsum (p.reverse.map tq) = wsum p
  | [] => rfl
  | q :: p => by
    rw [List.reverse_cons, List.map_append, wsum_append, wsum_turn p]
    show wsum p + (q.w + 0) = q.w + wsum p
    omega
theorem turn_back (l : List Rule) : (l.map tq).map tq = l := by
  rw [List.map_map]
  conv => rhs; rw [← List.map_id l]
  rfl
theorem noneg_turn {l : List Rule} {n : Nat} : NoNeg (l.map tq) n ↔ NoNeg l n := by
  have key : ∀ {l : List Rule}, NoNeg l n → NoNeg (l.map tq) n := fun {l} h u p hu w h1 h2 => by
    have w := way_turn w
    rw [turn_back] at w
    have := h u _ hu w (by simpa using h1) (by simpa using h2)
    rwa [wsum_turn] at this
  exact ⟨fun h => by have := key h; rwa [turn_back] at this, key⟩
theorem least_turn {l : List Rule} {u v : Nat} {x : Int} (h : Least (l.map tq) u v x) : Least l v u x := by
  obtain ⟨⟨p, w, e⟩, k⟩ := h
  have w := way_turn w
  rw [turn_back] at w
  refine ⟨⟨_, w, by rw [wsum_turn]; exact e⟩, fun p2 w2 => ?_⟩
  have := k _ (way_turn w2)
  rwa [wsum_turn] at this
def chipRu (n : Nat) (t : Nat × Chip) : List Ru := [⟨0, t.1, n, t.1, t.2.hi⟩, ⟨1, t.1, t.1, n, -t.2.lo⟩]
def pathRu (s : State) (p : Int) (g : Nat) (t : Nat × Path) : List Ru := [⟨2, t.1, t.2.j, t.2.i, p - ((s.setup : Int) + (g : Int)) - (t.2.e : Int)⟩, ⟨3, t.1, t.2.i, t.2.j, (t.2.d : Int) - ((s.hold : Int) + (g : Int))⟩]
def chipRus (s : State) : List Ru := (num 0 s.chips).flatMap (chipRu s.chips.length)
def pathRus (s : State) (p : Int) (g : Nat) : List Ru := (num 0 s.paths).flatMap (pathRu s p g)
def cru (s : State) (p : Int) (g : Nat) : List Ru := chipRus s ++ pathRus s p g
def kindOf (s : State) (k : Nat) : Nat := if k < 2 * s.chips.length then k % 2 else (k - 2 * s.chips.length) % 2 + 2
def numOf (s : State) (k : Nat) : Nat := if k < 2 * s.chips.length then k / 2 else (k - 2 * s.chips.length) / 2
theorem ruleNums_is (s : State) (k : Nat) : ruleNums s k = [(kindOf s k : Int), (numOf s k : Int)] := by
  unfold ruleNums kindOf numOf
  simp only
  split <;> rfl
def ruOf (s : State) (t : Nat × Rule) : Ru := ⟨kindOf s t.1, numOf s t.1, pl s.chips.length t.2.u, pl s.chips.length t.2.v, t.2.w⟩
def numbered (s : State) (p : Int) : List (Nat × Rule) := (List.range (rules s p).length).zip (rules s p)
theorem map_flat' {α β γ : Type} (f : β → γ) (g : α → List β) : ∀ l : List α, (l.flatMap g).map f = l.flatMap fun a => (g a).map f
  | [] => rfl
  | a :: l => by
    rw [List.flatMap_cons, List.map_append, map_flat' f g l, List.flatMap_cons]
theorem flat_congr' {α β : Type} {f g : α → List β} : ∀ {l : List α}, (∀ a ∈ l, f a = g a) → l.flatMap f = l.flatMap g
  | [], _ => rfl
  | a :: l, h => by
    rw [List.flatMap_cons, List.flatMap_cons, h a List.mem_cons_self, flat_congr' fun b hb => h b (List.mem_cons_of_mem _ hb)]
theorem cru_is (s : State) (p : Int) (g : Nat) : cru s p g = (numbered (withReserve s g) p).map (ruOf s) := by
  unfold numbered
  rw [rules_num, List.map_append, map_flat', map_flat']
  unfold cru chipRus pathRus
  congr 1
  · refine flat_congr' fun t ht => ?_
    have h := num_lt _ _ t ht
    have h : t.1 < s.chips.length := by omega
    have ⟨k1, k2⟩ := nums_chip s h
    rw [ruleNums_is] at k1 k2
    have a1 : kindOf s (0 + 2 * t.1) = 0 := by injection k1 with a b; omega
    have a2 : numOf s (0 + 2 * t.1) = t.1 := by injection k1 with a b; injection b with b; omega
    have b1 : kindOf s (0 + 2 * t.1 + 1) = 1 := by injection k2 with a b; omega
    have b2 : numOf s (0 + 2 * t.1 + 1) = t.1 := by injection k2 with a b; injection b with b; omega
    simp only [List.map_cons, List.map_nil, ruOf, chipRu, a1, a2, b1, b2, pl]
  · refine flat_congr' fun t ht => ?_
    have ⟨k1, k2⟩ := nums_path s t.1
    rw [ruleNums_is] at k1 k2
    have a1 : kindOf s (2 * s.chips.length + 2 * t.1) = 2 := by injection k1 with a b; omega
    have a2 : numOf s (2 * s.chips.length + 2 * t.1) = t.1 := by injection k1 with a b; injection b with b; omega
    have b1 : kindOf s (2 * s.chips.length + 2 * t.1 + 1) = 3 := by injection k2 with a b; omega
    have b2 : numOf s (2 * s.chips.length + 2 * t.1 + 1) = t.1 := by injection k2 with a b; injection b with b; omega
    have e1 : (withReserve s g).chips = s.chips := rfl
    have e2 : (((withReserve s g).setup : Nat) : Int) = (s.setup : Int) + (g : Int) := by show ((s.setup + g : Nat) : Int) = _; omega
    have e3 : (((withReserve s g).hold : Nat) : Int) = (s.hold : Int) + (g : Int) := by show ((s.hold + g : Nat) : Int) = _; omega
    simp only [List.map_cons, List.map_nil, ruOf, pathRu, e1, a1, a2, b1, b2, pl, e2, e3]
theorem wl_cru (s : State) (p : Int) (g : Nat) : wl (cru s p g) = (rules (withReserve s g) p).map (ren (pl s.chips.length)) := by
  rw [cru_is]
  unfold wl numbered
  rw [List.map_map]
  have : ∀ (l : List Rule) (k : Nat), (num k l).map (Ru.rule ∘ ruOf s) = l.map (ren (pl s.chips.length)) := by
    intro l
    induction l with
    | nil => intro k; rfl
    | cons a l ih => intro k; exact congrArg (ren (pl s.chips.length) a :: ·) (ih (k + 1))
  rw [zip_range]
  exact this _ _
theorem reserve0 (s : State) : withReserve s 0 = s := rfl
theorem paths_reserve {s : State} (g : Nat) (h : PathsIn s) : PathsIn (withReserve s g) := h
theorem cru_inside {s : State} {p : Int} {g : Nat} (h : PathsIn s) : Inside (wl (cru s p g)) (s.chips.length + 1) := by
  rw [wl_cru]
  exact ren_inside (rules_inside (s := withReserve s g) (paths_reserve g h))
theorem cru_noneg {s : State} {p : Int} {g : Nat} (h : PathsIn s) : NoNeg (wl (cru s p g)) (s.chips.length + 1) ↔ feasible (withReserve s g) p = true := by
  rw [wl_cru, feasible_iff (s := withReserve s g) (paths_reserve g h)]
  exact noneg_ren (rules_inside (s := withReserve s g) (paths_reserve g h))
theorem num_mem {α : Type} : ∀ (l : List α) (k i : Nat) (a : α), l[i]? = some a → (k + i, a) ∈ num k l
  | [], k, i, a, h => by simp at h
  | b :: l, k, 0, a, h => by cases h; exact List.mem_cons_self
  | b :: l, k, i + 1, a, h => by
    have := num_mem l (k + 1) i a h
    rw [show k + 1 + i = k + (i + 1) by omega] at this
    exact List.mem_cons_of_mem _ this
theorem cru_to {s : State} {p : Int} {g : Nat} {i : Nat} (h : i < s.chips.length) : (∃ r, Way (wl (cru s p g)) s.chips.length r i) ∧ ∃ r, Way (wl (cru s p g)) i r s.chips.length := by
  obtain ⟨c, hc⟩ : ∃ c, s.chips[i]? = some c := ⟨_, List.getElem?_eq_getElem h⟩
  have hm := num_mem s.chips 0 i c hc
  rw [Nat.zero_add] at hm
  have m : ∀ r ∈ chipRu s.chips.length (i, c), r.rule ∈ wl (cru s p g) := fun r hr => List.mem_map_of_mem (List.mem_append_left _ (List.mem_flatMap.mpr ⟨_, hm, hr⟩))
  refine ⟨⟨[⟨s.chips.length, i, c.hi⟩], ?_, rfl, rfl⟩, ⟨[⟨i, s.chips.length, -c.lo⟩], ?_, rfl, rfl⟩⟩
  · exact m ⟨0, i, s.chips.length, i, c.hi⟩ (by simp [chipRu])
  · exact m ⟨1, i, i, s.chips.length, -c.lo⟩ (by simp [chipRu])
theorem cru_reach {s : State} {p : Int} {g : Nat} {u v : Nat} (hu : u < s.chips.length + 1) (hv : v < s.chips.length + 1) : ∃ r, Way (wl (cru s p g)) u r v := by
  have a : ∃ r, Way (wl (cru s p g)) u r s.chips.length := by
    by_cases h : u < s.chips.length
    · exact (cru_to h).2
    · exact ⟨[], by show u = _; omega⟩
  have b : ∃ r, Way (wl (cru s p g)) s.chips.length r v := by
    by_cases h : v < s.chips.length
    · exact (cru_to h).1
    · exact ⟨[], by show _ = v; omega⟩
  obtain ⟨r1, w1⟩ := a
  obtain ⟨r2, w2⟩ := b
  exact ⟨r1 ++ r2, way_append.mpr ⟨_, w1, w2⟩⟩
theorem sums_is {s : State} {p : Int} {g : Nat} {u : Nat} (h : PathsIn s) (hu : u < s.chips.length + 1) :
    (feasible (withReserve s g) p = true ∧ ∃ d, leastSums (cru s p g) s.chips.length u = some d ∧ Dist (wl (cru s p g)) (s.chips.length + 1) u d) ∨ (feasible (withReserve s g) p = false ∧ leastSums (cru s p g) s.chips.length u = none) := by
  rcases leastSums_is (cru_inside (p := p) (g := g) h) hu (fun v hv => cru_reach hu hv) with ⟨a, b⟩ | ⟨a, b⟩
  · exact .inl ⟨(cru_noneg h).mp a, b⟩
  · rw [cru_noneg h] at a
    exact .inr ⟨by simpa using a, b⟩
theorem dist_at {s : State} {p : Int} {u v : Nat} {d : Sums} (h : PathsIn s) (hf : feasible s p = true) (hu : u < s.chips.length + 1) (hv : v < s.chips.length + 1) (D : Dist (wl (cru s p 0)) (s.chips.length + 1) (pl s.chips.length u) d) :
    d.getD (pl s.chips.length v) none = some ((dist s (table s p) u v).getD 0) := by
  obtain ⟨x, e, l⟩ := D.least _ (pl_lt hv)
  rw [wl_cru] at l
  have l := least_ren (rules_inside (s := s) h) hu hv l
  rw [dist_is h hf hu l, e]
  rfl
def turnRu (r : Ru) : Ru := ⟨r.kind, r.num, r.e, r.b, r.w⟩
theorem wl_turn (rs : List Ru) : wl (rs.map turnRu) = (wl rs).map tq := by
  unfold wl
  rw [List.map_map, List.map_map]
  rfl
theorem sums_turned {s : State} {p : Int} {u : Nat} (h : PathsIn s) (hu : u < s.chips.length + 1) :
    (feasible s p = true ∧ ∃ d, leastSums ((cru s p 0).map turnRu) s.chips.length u = some d ∧ Dist (wl ((cru s p 0).map turnRu)) (s.chips.length + 1) u d) ∨ (feasible s p = false ∧ leastSums ((cru s p 0).map turnRu) s.chips.length u = none) := by
  have hin : Inside (wl ((cru s p 0).map turnRu)) (s.chips.length + 1) := by
    rw [wl_turn]
    intro q hq
    obtain ⟨q0, h0, rfl⟩ := List.mem_map.mp hq
    have := cru_inside (p := p) (g := 0) h q0 h0
    exact ⟨this.2, this.1⟩
  have hre : ∀ v, v < s.chips.length + 1 → ∃ r, Way (wl ((cru s p 0).map turnRu)) u r v := fun v hv => by
    obtain ⟨r, w⟩ := cru_reach (s := s) (p := p) (g := 0) hv hu
    rw [wl_turn]
    exact ⟨_, way_turn w⟩
  have e := cru_noneg (p := p) (g := 0) h
  rcases leastSums_is hin hu hre with ⟨a, b⟩ | ⟨a, b⟩
  · rw [wl_turn, noneg_turn, e] at a
    exact .inl ⟨a, b⟩
  · rw [wl_turn, noneg_turn, e] at a
    exact .inr ⟨by simpa [reserve0] using a, b⟩
theorem dist_turned {s : State} {p : Int} {u v : Nat} {d : Sums} (h : PathsIn s) (hf : feasible s p = true) (hu : u < s.chips.length + 1) (hv : v < s.chips.length + 1) (D : Dist (wl ((cru s p 0).map turnRu)) (s.chips.length + 1) (pl s.chips.length u) d) :
    d.getD (pl s.chips.length v) none = some ((dist s (table s p) v u).getD 0) := by
  obtain ⟨x, e, l⟩ := D.least _ (pl_lt hv)
  rw [wl_turn] at l
  have l := least_turn l
  rw [wl_cru] at l
  have l := least_ren (rules_inside (s := s) h) hv hu l
  rw [dist_is h hf hv l, e]
  rfl
theorem take_some {d : Sums} {n : Nat} {f : Nat → Int} (hl : d.length = n + 1) (h : ∀ i, i < n → d.getD i none = some (f i)) : d.take n = ((List.range n).map f).map some := by
  refine List.ext_getElem? fun i => ?_
  by_cases hi : i < n
  · rw [List.getElem?_take_of_lt hi, List.map_map, List.getElem?_map, List.getElem?_range hi]
    have := h i hi
    rw [List.getD_eq_getElem?_getD, List.getElem?_eq_getElem (by omega)] at this
    rw [List.getElem?_eq_getElem (by omega)]
    exact congrArg some this
  · rw [List.getElem?_eq_none (by simp; omega), List.getElem?_eq_none (by simp; omega)]
theorem late_is {s : State} {p : Int} {d : Sums} (h : PathsIn s) (hf : feasible s p = true) (D : Dist (wl (cru s p 0)) (s.chips.length + 1) s.chips.length d) : d.take s.chips.length = (late s p).map some := by
  unfold late
  refine take_some D.len fun i hi => ?_
  exact dist_at h hf (u := 0) (v := i + 1) (by omega) (by omega) D
theorem early_is {s : State} {p : Int} {d : Sums} (h : PathsIn s) (hf : feasible s p = true) (D : Dist (wl ((cru s p 0).map turnRu)) (s.chips.length + 1) s.chips.length d) : ∃ l : List Int, d.take s.chips.length = l.map some ∧ l.map (fun x => -x) = early s p := by
  refine ⟨_, take_some D.len fun i hi => dist_turned h hf (u := 0) (v := i + 1) (by omega) (by omega) D, ?_⟩
  unfold early
  rw [List.map_map]
  rfl
end Ck

set_option linter.all false
namespace Ck
open Vbpcas
theorem chip_rule {s : State} {p : Int} {i : Nat} {c : Chip} (h : s.chips[i]? = some c) : (⟨0, i + 1, c.hi⟩ : Rule) ∈ rules s p ∧ (⟨i + 1, 0, -c.lo⟩ : Rule) ∈ rules s p := by
  have hm := num_mem s.chips 0 i c h
  rw [Nat.zero_add] at hm
  unfold rules
  rw [zip_range]
  exact ⟨List.mem_append_left _ (List.mem_flatMap.mpr ⟨_, hm, by simp [chipRules]⟩), List.mem_append_left _ (List.mem_flatMap.mpr ⟨_, hm, by simp [chipRules]⟩)⟩
theorem right_of_feasible {s : State} {p : Int} (h : PathsIn s) (hf : feasible s p = true) : ∃ r : Row, r.length = s.chips.length ∧ Right s p r := by
  have hin := rules_inside (p := p) h
  have h0 := (feasible_iff h).mp hf
  have reach : ∀ v, v < nodes s → ∃ x, Least (rules s p) 0 v x := fun v hv => by
    cases v with
    | zero => exact least_of h hf (by unfold nodes; omega) (r := []) rfl
    | succ i =>
      unfold nodes at hv
      obtain ⟨c, hc⟩ : ∃ c, s.chips[i]? = some c := ⟨_, List.getElem?_eq_getElem (by omega)⟩
      exact least_of h hf (by unfold nodes; omega) (r := [⟨0, i + 1, c.hi⟩]) ⟨(chip_rule hc).1, rfl, rfl⟩
  have t0 : ∀ v, v < nodes s → ∃ x, Least (rules s p) 0 v x ∧ (dist s (table s p) 0 v).getD 0 = x := fun v hv => by
    obtain ⟨x, l⟩ := reach v hv
    exact ⟨x, l, by rw [dist_is h hf (by unfold nodes; omega) l]; rfl⟩
  refine ⟨late s p, by simp [late], fun q hq => ?_⟩
  have ⟨hu, hv⟩ := hin q hq
  have tm : ∀ v, v < nodes s → ∃ x, Least (rules s p) 0 v x ∧ timeOf (late s p) v = x := fun v hv => by
    obtain ⟨x, l, e⟩ := t0 v hv
    refine ⟨x, l, ?_⟩
    cases v with
    | zero =>
      obtain ⟨⟨r, w, ew⟩, k⟩ := l
      have a := k [] rfl
      have b := noneg_all hin h0 (by unfold nodes; omega) w
      show 0 = x
      simp [wsum] at a
      omega
    | succ i =>
      unfold nodes at hv
      show (late s p).getD i 0 = x
      unfold late
      rw [getD_map_range, if_pos (by omega)]
      exact e
  obtain ⟨x, lx, ex⟩ := tm q.u hu
  obtain ⟨y, ly, ey⟩ := tm q.v hv
  obtain ⟨⟨r, w, e⟩, _⟩ := lx
  have := ly.2 (r ++ [q]) (way_append.mpr ⟨q.u, w, hq, rfl, rfl⟩)
  rw [wsum_append] at this
  simp only [wsum] at this
  omega
theorem feasible_right {s : State} {p : Int} (h : PathsIn s) : feasible s p = true ↔ ∃ r : Row, Right s p r :=
  ⟨fun hf => let ⟨r, _, k⟩ := right_of_feasible h hf; ⟨r, k⟩, fun ⟨_, k⟩ => feasible_of_right h k⟩
theorem right_iff {s : State} {p : Int} {r : Row} : Right s p r ↔ (∀ i c, s.chips[i]? = some c → c.lo ≤ r.getD i 0 ∧ r.getD i 0 ≤ c.hi) ∧ ∀ q ∈ s.paths, r.getD q.i 0 - r.getD q.j 0 ≤ p - s.setup - q.e ∧ r.getD q.j 0 - r.getD q.i 0 ≤ q.d - s.hold := by
  constructor
  · intro h
    refine ⟨fun i c hc => ?_, fun q hq => ?_⟩
    · have a := h _ (chip_rule (p := p) hc).1
      have b := h _ (chip_rule (p := p) hc).2
      simp only [timeOf] at a b
      omega
    · have hm : ∀ x ∈ pathRules s p q, x ∈ rules s p := fun x hx => List.mem_append_right _ (List.mem_flatMap.mpr ⟨q, hq, hx⟩)
      have a := h ⟨q.j + 1, q.i + 1, p - (s.setup : Int) - (q.e : Int)⟩ (hm _ (by simp [pathRules]))
      have b := h ⟨q.i + 1, q.j + 1, (q.d : Int) - (s.hold : Int)⟩ (hm _ (by simp [pathRules]))
      exact ⟨a, b⟩
  · rintro ⟨h1, h2⟩ q hq
    unfold rules at hq
    rw [zip_range] at hq
    rcases List.mem_append.mp hq with hq | hq
    · obtain ⟨t, ht, hq⟩ := List.mem_flatMap.mp hq
      obtain ⟨i, e⟩ := List.getElem?_of_mem ht
      rw [num_at] at e
      cases hc : s.chips[i]? with
      | none => rw [hc] at e; cases e
      | some c =>
        rw [hc] at e
        have e : (0 + i, c) = t := Option.some.inj e
        subst e
        have ⟨a, b⟩ := h1 i c hc
        simp [chipRules] at hq
        rcases hq with rfl | rfl
        · show r.getD i 0 - 0 ≤ c.hi; omega
        · show 0 - r.getD i 0 ≤ -c.lo; omega
    · obtain ⟨t, ht, hq⟩ := List.mem_flatMap.mp hq
      have ⟨a, b⟩ := h2 t ht
      simp [pathRules] at hq
      rcases hq with rfl | rfl
      · exact a
      · exact b
theorem feasible_mono {s : State} {p p' : Int} (h : PathsIn s) (hp : p ≤ p') (hf : feasible s p = true) : feasible s p' = true := by
  obtain ⟨r, k⟩ := (feasible_right h).mp hf
  refine feasible_of_right h (r := r) ?_
  rw [right_iff] at k ⊢
  refine ⟨k.1, fun q hq => ?_⟩
  have := k.2 q hq
  exact ⟨by omega, this.2⟩
theorem reserve_anti {s : State} {p : Int} {a b : Nat} (h : PathsIn s) (hab : a ≤ b) (hf : feasible (withReserve s b) p = true) : feasible (withReserve s a) p = true := by
  obtain ⟨r, k⟩ := (feasible_right (s := withReserve s b) (paths_reserve b h)).mp hf
  refine feasible_of_right (s := withReserve s a) (paths_reserve a h) (r := r) ?_
  rw [right_iff] at k ⊢
  refine ⟨k.1, fun q hq => ?_⟩
  have := k.2 q hq
  simp only [withReserve] at this ⊢
  omega
theorem le_foldl_max : ∀ (l : List Nat) (a : Nat), a ≤ l.foldl max a ∧ ∀ x ∈ l, x ≤ l.foldl max a
  | [], a => ⟨Nat.le_refl _, fun x h => by cases h⟩
  | b :: l, a => by
    have := le_foldl_max l (max a b)
    refine ⟨Nat.le_trans (Nat.le_max_left a b) this.1, fun x h => ?_⟩
    rcases List.mem_cons.mp h with rfl | h
    · exact Nat.le_trans (Nat.le_max_right a x) this.1
    · exact this.2 x h
theorem foldl_max_le : ∀ (l : List Nat) (a m : Nat), a ≤ m → (∀ x ∈ l, x ≤ m) → l.foldl max a ≤ m
  | [], a, m, h, _ => h
  | b :: l, a, m, h, k => foldl_max_le l (max a b) m (Nat.max_le.mpr ⟨h, k b List.mem_cons_self⟩) fun x hx => k x (List.mem_cons_of_mem _ hx)
theorem getD_mem {α : Type} {l : List α} {i : Nat} {d a : α} (h : l[i]? = some a) : l.getD i d = a := by
  rw [List.getD_eq_getElem?_getD, h]; rfl
theorem ample_le {s : State} (G : Good s) : ample s ≤ 2000000000 := by
  unfold ample
  refine foldl_max_le _ _ _ (by omega) fun x hx => ?_
  obtain ⟨q, hq, rfl⟩ := List.mem_map.mp hx
  have ⟨hi, hj⟩ := G.inn q hq
  obtain ⟨ci, ei⟩ : ∃ c, s.chips[q.i]? = some c := ⟨_, List.getElem?_eq_getElem hi⟩
  obtain ⟨cj, ej⟩ : ∃ c, s.chips[q.j]? = some c := ⟨_, List.getElem?_eq_getElem hj⟩
  rw [getD_mem ei, getD_mem ej]
  have := G.bounds ci (List.mem_of_getElem? ei)
  have := G.bounds cj (List.mem_of_getElem? ej)
  have := G.delays q hq
  have := G.setup
  omega
theorem ample_feasible {s : State} {p : Int} (h : PathsIn s) (hf : feasible s p = true) : feasible s (ample s : Int) = true := by
  obtain ⟨r, k⟩ := (feasible_right h).mp hf
  refine feasible_of_right h (r := r) ?_
  rw [right_iff] at k ⊢
  refine ⟨k.1, fun q hq => ⟨?_, (k.2 q hq).2⟩⟩
  have ⟨hi, hj⟩ := h q hq
  obtain ⟨ci, ei⟩ : ∃ c, s.chips[q.i]? = some c := ⟨_, List.getElem?_eq_getElem hi⟩
  obtain ⟨cj, ej⟩ : ∃ c, s.chips[q.j]? = some c := ⟨_, List.getElem?_eq_getElem hj⟩
  have a := k.1 _ _ ei
  have b := k.1 _ _ ej
  have := (le_foldl_max (s.paths.map fun q => ((q.e : Int) + (s.setup : Int) + (s.chips.getD q.i ⟨0, 0⟩).hi - (s.chips.getD q.j ⟨0, 0⟩).lo).toNat) 0).2 _ (List.mem_map_of_mem hq)
  rw [getD_mem ei, getD_mem ej] at this
  unfold ample
  omega
theorem leastFrom_is {f : Nat → Bool} (hf : ∀ a b, a ≤ b → f a = true → f b = true) : ∀ (k a n : Nat), n < 2 ^ k → (leastFrom f k a n < a + n → f (leastFrom f k a n) = true) ∧ a ≤ leastFrom f k a n ∧ leastFrom f k a n ≤ a + n ∧ ∀ x, a ≤ x → x < leastFrom f k a n → f x = false
  | 0, a, n, h => by
    have e : n = 0 := by simpa using h
    subst e
    exact ⟨fun h => absurd h (Nat.lt_irrefl _), Nat.le_refl _, Nat.le_refl _, fun x h1 h2 => absurd h2 (Nat.not_lt.mpr h1)⟩
  | k + 1, a, n, h => by
    unfold leastFrom
    by_cases e : n = 0
    · rw [if_pos e]
      subst e
      exact ⟨fun h => by omega, Nat.le_refl _, Nat.le_refl _, fun x h1 h2 => by omega⟩
    · rw [if_neg e]
      rw [Nat.pow_succ] at h
      simp only
      by_cases c : f (a + n / 2) = true
      · rw [if_pos c]
        have ih := leastFrom_is hf k a (n / 2) (by omega)
        refine ⟨fun _ => ?_, ih.2.1, by omega, ih.2.2.2⟩
        rcases Nat.lt_or_ge (leastFrom f k a (n / 2)) (a + n / 2) with q | q
        · exact ih.1 q
        · rw [Nat.le_antisymm ih.2.2.1 q]
          exact c
      · rw [if_neg c]
        have ih := leastFrom_is hf k (a + n / 2 + 1) (n - n / 2 - 1) (by omega)
        rw [show a + n / 2 + 1 + (n - n / 2 - 1) = a + n by omega] at ih
        refine ⟨ih.1, by omega, ih.2.2.1, fun x h1 h2 => ?_⟩
        by_cases hx : a + n / 2 + 1 ≤ x
        · exact ih.2.2.2 x hx h2
        · cases q : f x with
          | false => rfl
          | true => exact absurd (hf x (a + n / 2) (by omega) q) c
theorem least_is {s : State} (G : Good s) {m : Nat} (h1 : feasible s (m : Int) = true) (h2 : ∀ x : Nat, x < m → feasible s (x : Int) = false) : least s = some m := by
  have ha := ample_feasible G.inn h1
  have key := leastFrom_is (f := fun p => feasible s (p : Int)) (fun a b hab h => feasible_mono G.inn (by omega) h) 64 0 (ample s) (Nat.lt_of_le_of_lt (ample_le G) (by decide))
  rw [Nat.zero_add] at key
  unfold least
  rw [if_pos ha]
  congr 1
  generalize leastFrom (fun p => feasible s (p : Int)) 64 0 (ample s) = x at key ⊢
  obtain ⟨k1, _, k3, k2⟩ := key
  have k1 : feasible s (x : Int) = true := by
    rcases Nat.lt_or_ge x (ample s) with q | q
    · exact k1 q
    · rw [Nat.le_antisymm k3 q]
      exact ha
  rcases Nat.lt_trichotomy x m with h | h | h
  · have := h2 x h
    rw [this] at k1
    cases k1
  · exact h
  · have := k2 m (Nat.zero_le _) h
    rw [h1] at this
    cases this
theorem least_none {s : State} (G : Good s) (h : feasible s 2000000000 = false) : least s = none := by
  unfold least
  rw [if_neg]
  intro ha
  have := feasible_mono G.inn (p' := 2000000000) (by have := ample_le G; omega) ha
  rw [h] at this
  cases this
theorem reserve_is {s : State} {p : Int} {most m : Nat} (h : PathsIn s) (hmost : most ≤ 100000000) (hm : m ≤ most) (h1 : feasible (withReserve s m) p = true) (h2 : m = most ∨ feasible (withReserve s (m + 1)) p = false) : reserve s p most = m := by
  have key := leastFrom_is (f := fun m => !feasible (withReserve s (m + 1)) p) (fun a b hab q => by
    cases e : feasible (withReserve s (b + 1)) p with
    | false => rfl
    | true =>
      have := reserve_anti h (show a + 1 ≤ b + 1 by omega) e
      simp [this] at q) 64 0 most (Nat.lt_of_le_of_lt hmost (by decide))
  rw [Nat.zero_add] at key
  unfold reserve
  generalize leastFrom (fun m => !feasible (withReserve s (m + 1)) p) 64 0 most = x at key ⊢
  obtain ⟨k1, _, k3, k2⟩ := key
  rcases Nat.lt_trichotomy x m with hx | hx | hx
  · exfalso
    have fx := reserve_anti h (show x + 1 ≤ m by omega) h1
    have := k1 (by omega)
    simp [fx] at this
  · exact hx
  · exfalso
    rcases h2 with e | e
    · omega
    · have := k2 m (Nat.zero_le _) hx
      simp [e] at this
end Ck

set_option linter.all false
namespace Ck
open Vbpcas
def more1 (d : Sums) (x : Sums) (r : Ru) : Sums := match d.getD r.e none with
  | none => x
  | some y => if less (r.w + y) (x.getD r.b none) = true then x.set r.b (some (r.w + y)) else x
def more (rs : List Ru) (d : Sums) : Sums := rs.foldl (more1 d) (List.replicate d.length none)
def back (rs : List Ru) (n goal : Nat) : Nat → Sums
  | 0 => seedC n goal
  | k + 1 => more rs (back rs n goal k)
theorem more1_len (d x : Sums) (r : Ru) : (more1 d x r).length = x.length := by
  unfold more1
  split
  · rfl
  · split
    · simp
    · rfl
theorem fold_len (d : Sums) : ∀ (rs : List Ru) (x : Sums), (rs.foldl (more1 d) x).length = x.length
  | [], x => rfl
  | r :: rs, x => (fold_len d rs (more1 d x r)).trans (more1_len d x r)
theorem more_len (rs : List Ru) (d : Sums) : (more rs d).length = d.length := by
  unfold more
  rw [fold_len]
  simp
theorem back_len (rs : List Ru) (n goal : Nat) : ∀ k, (back rs n goal k).length = n
  | 0 => seedC_len
  | k + 1 => (more_len _ _).trans (back_len rs n goal k)
theorem more1_or (d x : Sums) (r : Ru) : (more1 d x r = x ∧ ∀ y, d.getD r.e none = some y → ∃ z, x.getD r.b none = some z ∧ z ≤ r.w + y) ∨
    ∃ y, d.getD r.e none = some y ∧ less (r.w + y) (x.getD r.b none) = true ∧ more1 d x r = x.set r.b (some (r.w + y)) := by
  unfold more1
  cases h : d.getD r.e none with
  | none => exact .inl ⟨rfl, fun y q => by cases q⟩
  | some y =>
    by_cases k : less (r.w + y) (x.getD r.b none) = true
    · exact .inr ⟨y, rfl, k, if_pos k⟩
    · refine .inl ⟨if_neg k, fun y' q => ?_⟩
      cases q
      exact not_less k
theorem more1_le {n : Nat} (d x : Sums) (r : Ru) (hl : x.length = n) (hb : r.b < n) : Le x (more1 d x r) ∧ ∀ y, d.getD r.e none = some y → ∃ z, (more1 d x r).getD r.b none = some z ∧ z ≤ r.w + y := by
  rcases more1_or d x r with ⟨e, h⟩ | ⟨y, h1, h2, e⟩
  · rw [e]
    exact ⟨Le.refl _, h⟩
  · rw [e]
    refine ⟨⟨by simp, fun v z q => ?_⟩, fun y' q => ?_⟩
    · rw [getD_set (by omega)]
      by_cases ev : v = r.b
      · rw [if_pos ev]
        subst ev
        exact ⟨_, rfl, Int.le_of_lt (less_iff.mp h2 z q)⟩
      · rw [if_neg ev]
        exact ⟨z, q, Int.le_refl _⟩
    · rw [h1] at q
      cases q
      exact ⟨_, by rw [getD_set (by omega), if_pos rfl], Int.le_refl _⟩
theorem mfold_le {n : Nat} (d : Sums) : ∀ (rs : List Ru) (x : Sums), x.length = n → (∀ r ∈ rs, r.b < n) → Le x (rs.foldl (more1 d) x) ∧ ∀ r ∈ rs, ∀ y, d.getD r.e none = some y → ∃ z, (rs.foldl (more1 d) x).getD r.b none = some z ∧ z ≤ r.w + y
  | [], x, hl, hi => ⟨Le.refl _, fun r h => by cases h⟩
  | a :: rs, x, hl, hi => by
    have h1 := more1_le d x a hl (hi a List.mem_cons_self)
    have h2 := mfold_le d rs (more1 d x a) (h1.1.1.trans hl) (fun r h => hi r (List.mem_cons_of_mem _ h))
    refine ⟨h1.1.trans h2.1, fun r hr y hy => ?_⟩
    rcases List.mem_cons.mp hr with rfl | hr
    · obtain ⟨z, e1, k1⟩ := h1.2 y hy
      obtain ⟨z2, e2, k2⟩ := h2.1.2 _ _ e1
      exact ⟨z2, e2, by omega⟩
    · exact h2.2 r hr y hy
theorem mfold_is {n : Nat} (d : Sums) : ∀ (rs : List Ru) (x : Sums) (v : Nat) (z : Int), x.length = n → (∀ r ∈ rs, r.b < n) → (rs.foldl (more1 d) x).getD v none = some z → x.getD v none = some z ∨ ∃ r ∈ rs, r.b = v ∧ ∃ y, d.getD r.e none = some y ∧ z = r.w + y
  | [], x, v, z, hl, hi, h => .inl h
  | a :: rs, x, v, z, hl, hi, h => by
    rcases mfold_is d rs (more1 d x a) v z ((more1_len d x a).trans hl) (fun r h => hi r (List.mem_cons_of_mem _ h)) h with h | ⟨r, hr, e, y, h1, h2⟩
    · rcases more1_or d x a with ⟨e, _⟩ | ⟨y, h1, _, e⟩
      · rw [e] at h
        exact .inl h
      · rw [e, getD_set (by rw [hl]; exact hi a List.mem_cons_self)] at h
        split at h
        · rename_i ev
          exact .inr ⟨a, List.mem_cons_self, ev.symm, y, h1, (Option.some.inj h).symm⟩
        · exact .inl h
    · exact .inr ⟨r, List.mem_cons_of_mem _ hr, e, y, h1, h2⟩
theorem none_at {n v : Nat} : (List.replicate n (none : Option Int)).getD v none = none := by
  rw [List.getD_eq_getElem?_getD, List.getElem?_replicate]
  split <;> rfl
theorem back_is {rs : List Ru} {n goal : Nat} (hin : Inside (wl rs) n) (hg : goal < n) : ∀ (k v : Nat) (x : Int), (back rs n goal k).getD v none = some x → ∃ r, Way (wl rs) v r goal ∧ r.length = k ∧ wsum r = x
  | 0, v, x, h => by
    have h : (seedC n goal).getD v none = some x := h
    rw [seedC_at hg] at h
    split at h
    · rename_i e
      exact ⟨[], e, rfl, by simp [wsum]; exact Option.some.inj h⟩
    · cases h
  | k + 1, v, x, h => by
    have h : (more rs (back rs n goal k)).getD v none = some x := h
    unfold more at h
    rcases mfold_is (n := n) _ rs _ v x (by simp [back_len]) (fun r hr => (hin r.rule (List.mem_map_of_mem hr)).1) h with h | ⟨r, hr, e, y, h1, h2⟩
    · rw [none_at] at h
      cases h
    · obtain ⟨p, w, hl, hs⟩ := back_is hin hg k _ _ h1
      exact ⟨r.rule :: p, ⟨List.mem_map_of_mem hr, e, w⟩, by simp [hl], by simp only [wsum, Ru.rule]; omega⟩
theorem back_le {rs : List Ru} {n goal : Nat} (hin : Inside (wl rs) n) (hg : goal < n) : ∀ (p : List Rule) (v : Nat), Way (wl rs) v p goal → ∃ x, (back rs n goal p.length).getD v none = some x ∧ x ≤ wsum p
  | [], v, w => by
    have e : v = goal := w
    subst e
    exact ⟨0, by show (seedC n v).getD v none = _; rw [seedC_at hg, if_pos rfl], by simp [wsum]⟩
  | q :: p, v, ⟨hq, hv, w⟩ => by
    obtain ⟨x, e, hx⟩ := back_le hin hg p q.v w
    obtain ⟨r, hr, e1, e2, e3⟩ := mem_wl hq
    have F := (mfold_le (n := n) (back rs n goal p.length) rs (List.replicate (back rs n goal p.length).length none) (by simp [back_len]) (fun r hr => (hin r.rule (List.mem_map_of_mem hr)).1)).2 r hr x (by rw [e2]; exact e)
    obtain ⟨z, ez, hz⟩ := F
    refine ⟨z, ?_, ?_⟩
    · rw [← hv, ← e1]
      exact ez
    · simp only [wsum]
      omega
theorem back_lay {s : State} {p : Int} {u v k : Nat} (h : PathsIn s) (hu : u < nodes s) (hv : v < nodes s) : (back (cru s p 0) (s.chips.length + 1) (pl s.chips.length v) k).getD (pl s.chips.length u) none = (lay (nodes s) (rules s p) u k).getD v none := by
  have hin := cru_inside (p := p) (g := 0) h
  have hin' := rules_inside (p := p) h
  have hpv := pl_lt (n := s.chips.length) hv
  have hw := wl_cru s p 0
  rw [reserve0] at hw
  cases e1 : (back (cru s p 0) (s.chips.length + 1) (pl s.chips.length v) k).getD (pl s.chips.length u) none with
  | some x =>
    obtain ⟨r, w, hl, hs⟩ := back_is hin hpv _ _ _ e1
    rw [hw] at w
    obtain ⟨r', w', hl', hs'⟩ := way_back hin' hu hv w
    obtain ⟨y, ey, hy⟩ := lay_le hin' hu (k := k) (by omega) w'
    obtain ⟨r2, w2, hl2, hs2⟩ := lay_is ey
    have w3 := way_ren (pl s.chips.length) w2
    rw [← hw] at w3
    obtain ⟨z, ez, hz⟩ := back_le hin hpv _ _ w3
    rw [List.length_map, hl2, e1] at ez
    cases ez
    rw [wsum_ren] at hz
    rw [ey]
    congr 1
    omega
  | none =>
    cases e2 : (lay (nodes s) (rules s p) u k).getD v none with
    | none => rfl
    | some y =>
      obtain ⟨r2, w2, hl2, hs2⟩ := lay_is e2
      have w3 := way_ren (pl s.chips.length) w2
      rw [← hw] at w3
      obtain ⟨z, ez, hz⟩ := back_le hin hpv _ _ w3
      rw [List.length_map, hl2, e1] at ez
      cases ez
def closes (r : Ru) (d : Sums) (x : Int) : Bool := match d.getD r.e none with
  | none => false
  | some y => decide (x + r.w + y < 0)
def beg (rs : List Ru) (n k : Nat) (r : Ru) : Bool := closes r (back rs n r.b k) 0
def onto (rs : List Ru) (n goal k u : Nat) (x : Int) (r : Ru) : Bool := decide (r.b = u) && closes r (back rs n goal k) x
def ringGo (rs : List Ru) (n goal : Nat) : Nat → Nat → Int → List Ru
  | 0, _, _ => []
  | k + 1, u, x => match rs.find? (onto rs n goal k u x) with
    | some r => r :: ringGo rs n goal k r.e (x + r.w)
    | none => []
def ringLoop (rs : List Ru) (n : Nat) : Nat → Nat → List Ru
  | 0, _ => []
  | m + 1, k => match rs.find? (beg rs n k) with
    | some r => r :: ringGo rs n r.b k r.e r.w
    | none => ringLoop rs n m (k + 1)
def leastRing (rs : List Ru) (n : Nat) : List Ru := ringLoop rs n n 0
theorem find_map {α β : Type} (f : α → β) (P : β → Bool) : ∀ l : List α, (l.map f).find? P = (l.find? fun a => P (f a)).map f
  | [] => rfl
  | a :: l => by
    rw [List.map_cons, List.find?_cons, List.find?_cons]
    cases h : P (f a) with
    | true => rfl
    | false => exact find_map f P l
theorem find_congr {α : Type} {P Q : α → Bool} : ∀ {l : List α}, (∀ a ∈ l, P a = Q a) → l.find? P = l.find? Q
  | [], _ => rfl
  | a :: l, h => by
    rw [List.find?_cons, List.find?_cons, h a List.mem_cons_self, find_congr fun b hb => h b (List.mem_cons_of_mem _ hb)]
section
variable {s : State} {p : Int}
theorem numbered_in (h : PathsIn s) {t : Nat × Rule} (ht : t ∈ numbered s p) : t.2 ∈ rules s p ∧ t.2.u < nodes s ∧ t.2.v < nodes s := by
  have := (List.of_mem_zip ht).2
  exact ⟨this, rules_inside h t.2 this⟩
theorem closes_is (h : PathsIn s) {t : Nat × Rule} (ht : t ∈ numbered s p) {a k : Nat} (ha : a < nodes s) (hk : k ≤ nodes s) (x : Int) :
    closes (ruOf s t) (back (cru s p 0) (s.chips.length + 1) (pl s.chips.length a) k) x = below ((sumAt (table s p) t.2.v k a).map fun y => x + t.2.w + y) := by
  obtain ⟨_, hu, hv⟩ := numbered_in h ht
  unfold closes
  show (match (back (cru s p 0) (s.chips.length + 1) (pl s.chips.length a) k).getD (pl s.chips.length t.2.v) none with | none => false | some y => decide (x + t.2.w + y < 0)) = _
  rw [back_lay h hv ha, sumAt_is hv hk]
  cases (lay (nodes s) (rules s p) t.2.v k).getD a none with
  | none => rfl
  | some y => rfl
theorem pl_inj {n u v : Nat} (hu : u < n + 1) (hv : v < n + 1) (e : pl n u = pl n v) : u = v := by
  have := congrArg (lp n) e
  rwa [lp_pl hu, lp_pl hv] at this
theorem onto_is (h : PathsIn s) {t : Nat × Rule} (ht : t ∈ numbered s p) {a k u : Nat} (ha : a < nodes s) (hu : u < nodes s) (hk : k ≤ nodes s) (x : Int) :
    onto (cru s p 0) (s.chips.length + 1) (pl s.chips.length a) k (pl s.chips.length u) x (ruOf s t) = (t.2.u == u && below ((sumAt (table s p) t.2.v k a).map fun y => x + t.2.w + y)) := by
  unfold onto
  rw [closes_is h ht ha hk]
  congr 1
  obtain ⟨_, h1, h2⟩ := numbered_in h ht
  show decide (pl s.chips.length t.2.u = pl s.chips.length u) = _
  by_cases e : t.2.u = u
  · simp [e]
  · rw [decide_eq_false (fun q => e (pl_inj h1 hu q))]
    simp [e]
theorem cru0 : cru s p 0 = (numbered s p).map (ruOf s) := cru_is s p 0
theorem ringGo_is (h : PathsIn s) {a : Nat} (ha : a < nodes s) : ∀ (k u : Nat) (x : Int), u < nodes s → k ≤ nodes s →
    ∃ ts : List (Nat × Rule), (∀ t ∈ ts, t ∈ numbered s p) ∧ ringGo (cru s p 0) (s.chips.length + 1) (pl s.chips.length a) k (pl s.chips.length u) x = ts.map (ruOf s) ∧ ringFrom (numbered s p) (table s p) a k u x = ts.map (·.1)
  | 0, u, x, hu, hk => ⟨[], by simp, rfl, rfl⟩
  | k + 1, u, x, hu, hk => by
    unfold ringGo ringFrom
    have e : (cru s p 0).find? (onto (cru s p 0) (s.chips.length + 1) (pl s.chips.length a) k (pl s.chips.length u) x) =
        ((numbered s p).find? fun q => q.2.u == u && below ((sumAt (table s p) q.2.v k a).map fun y => x + q.2.w + y)).map (ruOf s) := by
      conv => lhs; rw [cru0 (s := s) (p := p)]
      rw [find_map, ← cru0]
      rw [find_congr fun t ht => onto_is h ht ha hu (by omega) x]
    rw [e]
    cases q : (numbered s p).find? fun q => q.2.u == u && below ((sumAt (table s p) q.2.v k a).map fun y => x + q.2.w + y) with
    | none => exact ⟨[], by simp, rfl, rfl⟩
    | some t =>
      have ht := List.mem_of_find?_eq_some q
      obtain ⟨ts, h1, h2, h3⟩ := ringGo_is h ha k t.2.v (x + t.2.w) (numbered_in h ht).2.2 (by omega)
      refine ⟨t :: ts, ?_, ?_, ?_⟩
      · intro t' h'
        rcases List.mem_cons.mp h' with rfl | h'
        · exact ht
        · exact h1 t' h'
      · show ruOf s t :: _ = ruOf s t :: ts.map (ruOf s)
        rw [← h2]
        rfl
      · show t.1 :: _ = t.1 :: ts.map (·.1)
        rw [← h3]
theorem beg_is (h : PathsIn s) {k : Nat} (hk : k ≤ nodes s) : (cru s p 0).find? (beg (cru s p 0) (s.chips.length + 1) k) = ((numbered s p).find? fun q => below ((sumAt (table s p) q.2.v k q.2.u).map fun y => q.2.w + y)).map (ruOf s) := by
  conv => lhs; rw [cru0 (s := s) (p := p)]
  rw [find_map, ← cru0]
  rw [find_congr fun t ht => ?_]
  unfold beg
  obtain ⟨_, h1, h2⟩ := numbered_in h ht
  have := closes_is h ht h1 hk 0
  show closes (ruOf s t) (back (cru s p 0) (s.chips.length + 1) (pl s.chips.length t.2.u) k) 0 = _
  rw [this]
  simp only [Int.zero_add]
theorem any_iff (h : PathsIn s) {k : Nat} (hk : k + 1 ≤ nodes s) : ((List.range (nodes s)).any fun u => below (sumAt (table s p) u (k + 1) u)) = ((numbered s p).find? fun q => below ((sumAt (table s p) q.2.v k q.2.u).map fun y => q.2.w + y)).isSome := by
  have hin := rules_inside (p := p) h
  rw [Bool.eq_iff_iff, List.any_eq_true, List.find?_isSome]
  constructor
  · rintro ⟨u, hu, hb⟩
    have hu : u < nodes s := by simpa using hu
    obtain ⟨x, hx, hneg⟩ := below_iff.mp hb
    rw [sumAt_is hu hk] at hx
    obtain ⟨r, w, hl, hs⟩ := lay_is hx
    cases r with
    | nil => simp at hl
    | cons q r =>
      obtain ⟨hq, hqu, w⟩ := w
      obtain ⟨i, hi⟩ := List.getElem?_of_mem hq
      have hm : (i, q) ∈ numbered s p := by
        have := num_mem (rules s p) 0 i q hi
        rw [Nat.zero_add] at this
        unfold numbered
        rw [zip_range]
        exact this
      refine ⟨(i, q), hm, below_iff.mpr ?_⟩
      obtain ⟨y, hy, hle⟩ := lay_le hin (hin q hq).2 (k := k) (by simpa using hl) w
      refine ⟨q.w + y, ?_, ?_⟩
      · rw [sumAt_is (hin q hq).2 (by omega), hqu, hy]
        rfl
      · simp only [wsum] at hs
        omega
  · rintro ⟨t, ht, hb⟩
    obtain ⟨hq, h1, h2⟩ := numbered_in h ht
    obtain ⟨x, hx, hneg⟩ := below_iff.mp hb
    rw [sumAt_is h2 (by omega)] at hx
    cases e : (lay (nodes s) (rules s p) t.2.v k).getD t.2.u none with
    | none => rw [e] at hx; cases hx
    | some y =>
      rw [e] at hx
      have hx : t.2.w + y = x := Option.some.inj hx
      obtain ⟨r, w, hl, hs⟩ := lay_is e
      obtain ⟨z, hz, hle⟩ := lay_le hin h1 (k := k + 1) (r := t.2 :: r) (v := t.2.u) (by simp [hl]) ⟨hq, rfl, w⟩
      refine ⟨t.2.u, by simpa using h1, below_iff.mpr ⟨z, ?_, ?_⟩⟩
      · rw [sumAt_is h1 hk]
        exact hz
      · simp only [wsum] at hle
        omega
def ringOf (s : State) (p : Int) (o : Option Nat) : List Nat := match o with
  | none => []
  | some k => match (numbered s p).find? fun q => below ((sumAt (table s p) q.2.v (k - 1) q.2.u).map fun y => q.2.w + y) with
    | some q => q.1 :: ringFrom (numbered s p) (table s p) q.2.u (k - 1) q.2.v q.2.w
    | none => []
theorem ring_of : ring s p = ringOf s p (fewest s (table s p)) := rfl
theorem loop_is (h : PathsIn s) : ∀ (m k : Nat), k + m = nodes s →
    ∃ ts : List (Nat × Rule), (∀ t ∈ ts, t ∈ numbered s p) ∧ ringLoop (cru s p 0) (s.chips.length + 1) m k = ts.map (ruOf s) ∧ ringOf s p (((List.range' k m).map fun k => k + 1).find? fun k => (List.range (nodes s)).any fun u => below (sumAt (table s p) u k u)) = ts.map (·.1)
  | 0, k, hk => ⟨[], by simp, rfl, rfl⟩
  | m + 1, k, hk => by
    unfold ringLoop
    rw [List.range'_succ, List.map_cons, List.find?_cons, any_iff h (by omega), beg_is h (by omega)]
    cases q : (numbered s p).find? fun q => below ((sumAt (table s p) q.2.v k q.2.u).map fun y => q.2.w + y) with
    | none => exact loop_is h m (k + 1) (by omega)
    | some t =>
      have ht := List.mem_of_find?_eq_some q
      obtain ⟨hq, h1, h2⟩ := numbered_in h ht
      obtain ⟨ts, k1, k2, k3⟩ := ringGo_is h h1 k t.2.v t.2.w h2 (by omega)
      refine ⟨t :: ts, ?_, ?_, ?_⟩
      · intro t' h'
        rcases List.mem_cons.mp h' with rfl | h'
        · exact ht
        · exact k1 t' h'
      · show ruOf s t :: _ = ruOf s t :: ts.map (ruOf s)
        rw [← k2]
        rfl
      · show ringOf s p (some (k + 1)) = t.1 :: ts.map (·.1)
        unfold ringOf
        simp only [Nat.add_sub_cancel]
        rw [q]
        show t.1 :: _ = t.1 :: ts.map (·.1)
        rw [← k3]
theorem leastRing_is (h : PathsIn s) : ∃ ts : List (Nat × Rule), (∀ t ∈ ts, t ∈ numbered s p) ∧ leastRing (cru s p 0) (s.chips.length + 1) = ts.map (ruOf s) ∧ ring s p = ts.map (·.1) := by
  obtain ⟨ts, h1, h2, h3⟩ := loop_is (p := p) h (nodes s) 0 (by omega)
  refine ⟨ts, h1, h2, ?_⟩
  rw [ring_of]
  unfold fewest
  rw [List.range_eq_range'] at h3 ⊢
  exact h3
theorem ring_answer (h : PathsIn s) : ∃ rs : List Ru, leastRing (cru s p 0) (s.chips.length + 1) = rs ∧ counted (ruleNums s) (ring s p) ++ [sumOf (rules s p) (ring s p)] = ((rs.length : Int) :: rs.flatMap fun r => [(r.kind : Int), (r.num : Int)]) ++ [(rs.map fun r => r.w).sum] := by
  obtain ⟨ts, h1, h2, h3⟩ := leastRing_is (p := p) h
  refine ⟨ts.map (ruOf s), h2, ?_⟩
  rw [h3]
  unfold counted sumOf
  rw [List.length_map, List.length_map, List.map_map, List.map_map]
  congr 1
  · congr 1
    clear h1 h2 h3
    induction ts with
    | nil => rfl
    | cons t ts ih =>
      rw [List.map_cons, List.map_cons, List.flatMap_cons, List.flatMap_cons, ih, ruleNums_is]
      rfl
  · congr 2
    refine List.map_congr_left fun t ht => ?_
    obtain ⟨i, e⟩ := List.getElem?_of_mem (h1 t ht)
    unfold numbered at e
    rw [zip_range, num_at] at e
    cases q : (rules s p)[i]? with
    | none => rw [q] at e; cases e
    | some z =>
      rw [q] at e
      have e : (0 + i, z) = t := Option.some.inj e
      subst e
      show ((rules s p)[0 + i]?.map fun q => q.w).getD 0 = z.w
      rw [Nat.zero_add, q]
      rfl
theorem go_some {rs : List Ru} {n goal k u : Nat} {x : Int} (hin : Inside (wl rs) n) (hg : goal < n) (h : ∃ w, Way (wl rs) u w goal ∧ w.length = k + 1 ∧ x + wsum w < 0) : ∃ r, rs.find? (onto rs n goal k u x) = some r ∧ r ∈ rs ∧ ∃ w, Way (wl rs) r.e w goal ∧ w.length = k ∧ x + r.w + wsum w < 0 := by
  obtain ⟨w, hw, hl, hx⟩ := h
  cases w with
  | nil => simp at hl
  | cons q w =>
    obtain ⟨hq, hu, hw⟩ := hw
    obtain ⟨r0, hr0, e1, e2, e3⟩ := mem_wl hq
    have hl : w.length = k := by simpa using hl
    obtain ⟨y, ey, hy⟩ := back_le hin hg w q.v hw
    rw [hl] at ey
    have hb : onto rs n goal k u x r0 = true := by
      unfold onto closes
      rw [e2, ey, decide_eq_true (by rw [e1]; exact hu), Bool.true_and]
      simp only [wsum] at hx
      exact decide_eq_true (by omega)
    cases f : rs.find? (onto rs n goal k u x) with
    | none => exact absurd hb (by have := List.find?_eq_none.mp f r0 hr0; simpa using this)
    | some r =>
      have hm := List.mem_of_find?_eq_some f
      have hp := List.find?_some f
      refine ⟨r, rfl, hm, ?_⟩
      unfold onto closes at hp
      rw [Bool.and_eq_true] at hp
      obtain ⟨_, hp⟩ := hp
      cases q2 : (back rs n goal k).getD r.e none with
      | none => rw [q2] at hp; cases hp
      | some z =>
        rw [q2] at hp
        have hp : x + r.w + z < 0 := by simpa using hp
        obtain ⟨w2, hw2, hl2, hs2⟩ := back_is hin hg _ _ _ q2
        exact ⟨w2, hw2, hl2, by omega⟩
theorem beg_way {rs : List Ru} {n k : Nat} {r : Ru} (hin : Inside (wl rs) n) (hr : r ∈ rs) (h : beg rs n k r = true) : ∃ w, Way (wl rs) r.e w r.b ∧ w.length = k ∧ r.w + wsum w < 0 := by
  have hb := (hin r.rule (List.mem_map_of_mem hr)).1
  unfold beg closes at h
  cases q2 : (back rs n r.b k).getD r.e none with
  | none => rw [q2] at h; cases h
  | some z =>
    rw [q2] at h
    have h : 0 + r.w + z < 0 := by simpa using h
    obtain ⟨w2, hw2, hl2, hs2⟩ := back_is hin hb _ _ _ q2
    exact ⟨w2, hw2, hl2, by omega⟩
end
end Ck

set_option linter.all false
namespace Ck
open Vbpcas
section
variable {s : State}
theorem step_feasible_p {p : Int} (h : ¬ (0 ≤ p ∧ p ≤ 2000000000)) : step s (.feasible p) = (s, [-2]) := by
  simp [step, ask, period_no h, bind, Except.bind]
theorem step_feasible_ok {p : Int} (h : 0 ≤ p ∧ p ≤ 2000000000) : step s (.feasible p) = (s, [if feasible s p = true then 1 else 0]) := by
  simp [step, ask, period_ok h, bind, Except.bind, pure, Except.pure]
theorem timely_p {p : Int} (h : ¬ (0 ≤ p ∧ p ≤ 2000000000)) : timely s p = .error (-2) := by
  simp [timely, period_no h, bind, Except.bind]
theorem timely_no {p : Int} (h : 0 ≤ p ∧ p ≤ 2000000000) (f : feasible s p = false) : timely s p = .error (-8) := by
  simp [timely, period_ok h, must, f, bind, Except.bind]
theorem timely_ok {p : Int} (h : 0 ≤ p ∧ p ≤ 2000000000) (f : feasible s p = true) : timely s p = .ok p := by
  simp [timely, period_ok h, must, f, bind, Except.bind, pure, Except.pure]
theorem flat_one : ∀ l : List Int, l.flatMap one = l
  | [] => rfl
  | a :: l => congrArg (a :: ·) (flat_one l)
theorem counted_one (l : List Int) : counted one l = (l.length : Int) :: l := by
  unfold counted
  rw [flat_one]
theorem early_len {p : Int} : (early s p).length = s.chips.length := by simp [early]
theorem late_len {p : Int} : (late s p).length = s.chips.length := by simp [late]
theorem step_early_p {p : Int} (h : ¬ (0 ≤ p ∧ p ≤ 2000000000)) : step s (.early p) = (s, [-2]) := by
  simp [step, ask, timely_p h, bind, Except.bind]
theorem step_early_no {p : Int} (h : 0 ≤ p ∧ p ≤ 2000000000) (f : feasible s p = false) : step s (.early p) = (s, [-8]) := by
  simp [step, ask, timely_no h f, bind, Except.bind]
theorem step_early_ok {p : Int} (h : 0 ≤ p ∧ p ≤ 2000000000) (f : feasible s p = true) : step s (.early p) = (s, (s.chips.length : Int) :: early s p) := by
  simp [step, ask, timely_ok h f, bind, Except.bind, pure, Except.pure, counted_one, early_len]
theorem step_late_p {p : Int} (h : ¬ (0 ≤ p ∧ p ≤ 2000000000)) : step s (.late p) = (s, [-2]) := by
  simp [step, ask, timely_p h, bind, Except.bind]
theorem step_late_no {p : Int} (h : 0 ≤ p ∧ p ≤ 2000000000) (f : feasible s p = false) : step s (.late p) = (s, [-8]) := by
  simp [step, ask, timely_no h f, bind, Except.bind]
theorem step_late_ok {p : Int} (h : 0 ≤ p ∧ p ≤ 2000000000) (f : feasible s p = true) : step s (.late p) = (s, (s.chips.length : Int) :: late s p) := by
  simp [step, ask, timely_ok h f, bind, Except.bind, pure, Except.pure, counted_one, late_len]
theorem step_apart_p {p i j : Int} (h : ¬ (0 ≤ p ∧ p ≤ 2000000000)) : step s (.apart p i j) = (s, [-2]) := by
  simp [step, ask, period_no h, bind, Except.bind]
theorem step_apart_c {p i j : Int} (h : 0 ≤ p ∧ p ≤ 2000000000) (k : ¬ ((0 ≤ i ∧ i < s.chips.length) ∧ (0 ≤ j ∧ j < s.chips.length))) : step s (.apart p i j) = (s, [-1]) := by
  by_cases hi : 0 ≤ i ∧ i < s.chips.length
  · have hj : ¬ (0 ≤ j ∧ j < s.chips.length) := fun q => k ⟨hi, q⟩
    simp [step, ask, period_ok h, place_ok hi, place_no hj, bind, Except.bind]
  · simp [step, ask, period_ok h, place_no hi, bind, Except.bind]
theorem step_apart_no {p i j : Int} (h : 0 ≤ p ∧ p ≤ 2000000000) (hi : 0 ≤ i ∧ i < s.chips.length) (hj : 0 ≤ j ∧ j < s.chips.length) (f : feasible s p = false) : step s (.apart p i j) = (s, [-8]) := by
  simp [step, ask, period_ok h, place_ok hi, place_ok hj, must, f, bind, Except.bind]
theorem step_apart_ok {p i j : Int} (h : 0 ≤ p ∧ p ≤ 2000000000) (hi : 0 ≤ i ∧ i < s.chips.length) (hj : 0 ≤ j ∧ j < s.chips.length) (f : feasible s p = true) :
    step s (.apart p i j) = (s, [-((dist s (table s p) (j.toNat + 1) (i.toNat + 1)).getD 0), (dist s (table s p) (i.toNat + 1) (j.toNat + 1)).getD 0]) := by
  simp [step, ask, period_ok h, place_ok hi, place_ok hj, must, f, bind, Except.bind, pure, Except.pure, apart]
theorem step_ring_p {p : Int} (h : ¬ (0 ≤ p ∧ p ≤ 2000000000)) : step s (.ring p) = (s, [-2]) := by
  simp [step, ask, period_no h, bind, Except.bind]
theorem step_ring_ok {p : Int} (h : 0 ≤ p ∧ p ≤ 2000000000) : step s (.ring p) = (s, counted (ruleNums s) (ring s p) ++ [sumOf (rules s p) (ring s p)]) := by
  simp [step, ask, period_ok h, bind, Except.bind, pure, Except.pure]
theorem step_least_no (h : least s = none) : step s .least = (s, [-9]) := by
  simp [step, ask, h, found, bind, Except.bind]
theorem step_least_ok {m : Nat} (h : least s = some m) : step s .least = (s, [(m : Int)]) := by
  simp [step, ask, h, found, bind, Except.bind, pure, Except.pure, one]
theorem step_reserve_p {p m : Int} (h : ¬ ((0 ≤ p ∧ p ≤ 2000000000) ∧ (0 ≤ m ∧ m ≤ 100000000))) : step s (.reserve p m) = (s, [-2]) := by
  by_cases hp : 0 ≤ p ∧ p ≤ 2000000000
  · have hm : within m 0 WIDE = false := within_no.mpr (by rw [wide_eq]; exact fun q => h ⟨hp, q⟩)
    simp [step, ask, period_ok hp, must, hm, bind, Except.bind]
  · simp [step, ask, period_no hp, bind, Except.bind]
theorem step_reserve_no {p m : Int} (hp : 0 ≤ p ∧ p ≤ 2000000000) (h : 0 ≤ m ∧ m ≤ 100000000) (f : feasible s p = false) : step s (.reserve p m) = (s, [-8]) := by
  have hm : within m 0 WIDE = true := within_iff.mpr (by rw [wide_eq]; exact h)
  simp [step, ask, period_ok hp, must, hm, f, bind, Except.bind]
theorem step_reserve_ok {p m : Int} (hp : 0 ≤ p ∧ p ≤ 2000000000) (h : 0 ≤ m ∧ m ≤ 100000000) (f : feasible s p = true) : step s (.reserve p m) = (s, [(reserve s p m.toNat : Int)]) := by
  have hm : within m 0 WIDE = true := within_iff.mpr (by rw [wide_eq]; exact h)
  simp [step, ask, period_ok hp, must, hm, f, bind, Except.bind, pure, Except.pure, one]
theorem zip_len {f : Int → Int → Int} {a b : List Int} {n : Nat} (ha : a.length = n) (hb : b.length = n) : (zipBy f a b).length = n := by
  simp [zipBy, ha, hb]
theorem step_sooner_no {a b : List Int} (h : ¬ (a.length = s.chips.length ∧ b.length = s.chips.length)) : step s (.sooner a b) = (s, [-3]) := by
  by_cases ha : a.length = s.chips.length
  · have hb : ¬ b.length = s.chips.length := fun q => h ⟨ha, q⟩
    simp [step, ask, row_ok ha, row_no hb, bind, Except.bind]
  · simp [step, ask, row_no ha, bind, Except.bind]
theorem step_sooner_ok {a b : List Int} (ha : a.length = s.chips.length) (hb : b.length = s.chips.length) : step s (.sooner a b) = (s, (a.length : Int) :: zipBy min a b) := by
  simp [step, ask, row_ok ha, row_ok hb, bind, Except.bind, pure, Except.pure, counted_one, zip_len ha hb, ha]
theorem step_later_no {a b : List Int} (h : ¬ (a.length = s.chips.length ∧ b.length = s.chips.length)) : step s (.later a b) = (s, [-3]) := by
  by_cases ha : a.length = s.chips.length
  · have hb : ¬ b.length = s.chips.length := fun q => h ⟨ha, q⟩
    simp [step, ask, row_ok ha, row_no hb, bind, Except.bind]
  · simp [step, ask, row_no ha, bind, Except.bind]
theorem step_later_ok {a b : List Int} (ha : a.length = s.chips.length) (hb : b.length = s.chips.length) : step s (.later a b) = (s, (a.length : Int) :: zipBy max a b) := by
  simp [step, ask, row_ok ha, row_ok hb, bind, Except.bind, pure, Except.pure, counted_one, zip_len ha hb, ha]
def moved (c : Int) (x : Chip) : Chip := ⟨x.lo + c, x.hi + c⟩
def inB (x : Chip) : Bool := decide (-100000000 ≤ x.lo ∧ x.lo ≤ x.hi ∧ x.hi ≤ 100000000)
theorem shift_all (G : Good s) (c : Int) : ((shifted s c).chips.all fun x => within x.lo (-WIDE) WIDE && within x.hi (-WIDE) WIDE) = (s.chips.map (moved c)).all inB := by
  show ((s.chips.map (moved c)).all fun x => within x.lo (-WIDE) WIDE && within x.hi (-WIDE) WIDE) = _
  rw [List.all_map, List.all_map, Bool.eq_iff_iff, List.all_eq_true, List.all_eq_true]
  have key : ∀ x ∈ s.chips, ((fun x => within x.lo (-WIDE) WIDE && within x.hi (-WIDE) WIDE) ∘ moved c) x = (inB ∘ moved c) x := fun x hx => by
    have := (G.bounds x hx).2.1
    show (within (x.lo + c) (-WIDE) WIDE && within (x.hi + c) (-WIDE) WIDE) = decide (-100000000 ≤ x.lo + c ∧ x.lo + c ≤ x.hi + c ∧ x.hi + c ≤ 100000000)
    rw [Bool.eq_iff_iff, Bool.and_eq_true, within_iff, within_iff, decide_eq_true_iff, wide_eq]
    omega
  exact ⟨fun h x hx => (key x hx) ▸ h x hx, fun h x hx => (key x hx).symm ▸ h x hx⟩
theorem step_shift_no (G : Good s) {c : Int} (h : (s.chips.map (moved c)).all inB = false) : step s (.shift c) = (s, [-2]) := by
  rw [← shift_all G] at h
  simp only [step, change, must, h, bind, Except.bind]
  rfl
theorem step_shift_ok (G : Good s) {c : Int} (h : (s.chips.map (moved c)).all inB = true) : step s (.shift c) = ({ s with chips := s.chips.map (moved c) }, [0]) := by
  rw [← shift_all G] at h
  simp only [step, change, must, h, bind, Except.bind, pure, Except.pure, if_true]
  rfl
theorem step_list_is : step s .list = (s, ((s.setup : Int) :: (s.hold : Int) :: (counted (fun (c : Chip) => [c.lo, c.hi]) s.chips ++ counted (fun (q : Path) => [(q.i : Int), (q.j : Int), (q.d : Int), (q.e : Int)]) s.paths))) := rfl
theorem good_step (G : Good s) (d : Call) : Good (step s d).1 := by
  cases d with
  | margins a b =>
    rw [step_margins]
    split
    · rename_i h
      exact ⟨G.chips, G.paths, G.inn, G.bounds, G.delays, by show a.toNat ≤ _; omega, by show b.toNat ≤ _; omega⟩
    · exact G
  | chip lo hi =>
    by_cases h : -100000000 ≤ lo ∧ lo ≤ hi ∧ hi ≤ 100000000
    · by_cases n : s.chips.length < 16
      · rw [step_chip_ok h n]
        refine ⟨by simp; omega, G.paths, fun q hq => ?_, fun c hc => ?_, G.delays, G.setup, G.hold⟩
        · have := G.inn q hq
          simp only [List.length_append]
          omega
        · rcases List.mem_append.mp hc with hc | hc
          · exact G.bounds c hc
          · simp at hc
            subst hc
            exact h
      · rw [step_chip_full h n]; exact G
    · rw [step_chip_no h]; exact G
  | path i j d e =>
    by_cases hi : 0 ≤ i ∧ i < s.chips.length
    · by_cases hj : 0 ≤ j ∧ j < s.chips.length
      · by_cases h : 0 ≤ d ∧ d ≤ e ∧ e ≤ 100000000
        · by_cases n : s.paths.length < 48
          · rw [step_path_ok hi hj h n]
            refine ⟨G.chips, by simp; omega, fun q hq => ?_, G.bounds, fun q hq => ?_, G.setup, G.hold⟩
            · rcases List.mem_append.mp hq with hq | hq
              · exact G.inn q hq
              · simp at hq
                subst hq
                exact ⟨by show i.toNat < s.chips.length; omega, by show j.toNat < s.chips.length; omega⟩
            · rcases List.mem_append.mp hq with hq | hq
              · exact G.delays q hq
              · simp at hq
                subst hq
                exact ⟨by show d.toNat ≤ e.toNat; omega, by show e.toNat ≤ _; omega⟩
          · rw [step_path_full hi hj h n]; exact G
        · rw [step_path_no hi hj h]; exact G
      · rw [step_path_j hi hj]; exact G
    · rw [step_path_i hi]; exact G
  | bound i lo hi =>
    by_cases k : 0 ≤ i ∧ i < s.chips.length
    · by_cases h : -100000000 ≤ lo ∧ lo ≤ hi ∧ hi ≤ 100000000
      · rw [step_bound_ok k h]
        refine ⟨by simpa using G.chips, G.paths, fun q hq => ?_, fun c hc => ?_, G.delays, G.setup, G.hold⟩
        · have := G.inn q hq
          simpa using this
        · rcases List.mem_or_eq_of_mem_set hc with hc | hc
          · exact G.bounds c hc
          · subst hc
            exact h
      · rw [step_bound_no k h]; exact G
    · rw [step_bound_i k]; exact G
  | delay k d e =>
    by_cases hk : 0 ≤ k ∧ k < s.paths.length
    · by_cases h : 0 ≤ d ∧ d ≤ e ∧ e ≤ 100000000
      · obtain ⟨q0, hq0⟩ : ∃ q0, s.paths[k.toNat]? = some q0 := ⟨_, List.getElem?_eq_getElem (by omega)⟩
        rw [step_delay_ok hk h hq0]
        have hm := List.mem_of_getElem? hq0
        refine ⟨G.chips, by simpa using G.paths, fun q hq => ?_, G.bounds, fun q hq => ?_, G.setup, G.hold⟩
        · rcases List.mem_or_eq_of_mem_set hq with hq | hq
          · exact G.inn q hq
          · subst hq
            exact G.inn q0 hm
        · rcases List.mem_or_eq_of_mem_set hq with hq | hq
          · exact G.delays q hq
          · subst hq
            exact ⟨by show d.toNat ≤ e.toNat; omega, by show e.toNat ≤ _; omega⟩
      · rw [step_delay_no hk h]; exact G
    · rw [step_delay_k hk]; exact G
  | away k =>
    by_cases hk : 0 ≤ k ∧ k < s.paths.length
    · rw [step_away_ok hk]
      refine ⟨G.chips, ?_, fun q hq => G.inn q (List.mem_of_mem_eraseIdx hq), G.bounds, fun q hq => G.delays q (List.mem_of_mem_eraseIdx hq), G.setup, G.hold⟩
      have := G.paths
      show (s.paths.eraseIdx k.toNat).length ≤ 48
      have := List.length_eraseIdx_le s.paths k.toNat
      omega
    · rw [step_away_k hk]; exact G
  | clear => exact good_start
  | shift c =>
    cases h : (s.chips.map (moved c)).all inB with
    | false => rw [step_shift_no G h]; exact G
    | true =>
      rw [step_shift_ok G h]
      refine ⟨by simpa using G.chips, G.paths, fun q hq => ?_, fun x hx => ?_, G.delays, G.setup, G.hold⟩
      · have := G.inn q hq
        simpa using this
      · have := List.all_eq_true.mp h x hx
        simpa [inB] using this
  | list => exact G
  | check p r => exact G
  | slacks p r => exact G
  | feasible p => exact G
  | early p => exact G
  | late p => exact G
  | apart p i j => exact G
  | ring p => exact G
  | least => exact G
  | reserve p m => exact G
  | sooner a b => exact G
  | later a b => exact G
def leftOf (row : List Int) (r : Ru) : Int := r.w - ((row ++ [0]).getD r.e 0 - (row ++ [0]).getD r.b 0)
def missedRu (rs : List Ru) (row : List Int) : List Ru := rs.filter fun r => decide (leftOf row r < 0)
def toldRu (rs : List Ru) : List Int := (rs.length : Int) :: rs.flatMap fun r => [(r.kind : Int), (r.num : Int)]
theorem time_at {row : List Int} {n v : Nat} (hr : row.length = n) (hv : v < n + 1) : (row ++ [0]).getD (pl n v) 0 = timeOf row v := by
  cases v with
  | zero =>
    show (row ++ [0]).getD n 0 = 0
    rw [List.getD_eq_getElem?_getD, List.getElem?_append_right (by omega), hr, Nat.sub_self]
    rfl
  | succ i =>
    show (row ++ [0]).getD i 0 = row.getD i 0
    rw [List.getD_eq_getElem?_getD, List.getElem?_append_left (by omega), List.getD_eq_getElem?_getD]
theorem filter_map' {α β : Type} (f : α → β) (P : β → Bool) : ∀ l : List α, (l.map f).filter P = (l.filter fun a => P (f a)).map f
  | [] => rfl
  | a :: l => by
    rw [List.map_cons, List.filter_cons, List.filter_cons, filter_map' f P l]
    split <;> rfl
theorem filter_congr' {α : Type} {P Q : α → Bool} : ∀ {l : List α}, (∀ a ∈ l, P a = Q a) → l.filter P = l.filter Q
  | [], _ => rfl
  | a :: l, h => by
    rw [List.filter_cons, List.filter_cons, h a List.mem_cons_self, filter_congr' fun b hb => h b (List.mem_cons_of_mem _ hb)]
theorem check_ru {p : Int} {row : List Int} (h : PathsIn s) (hr : row.length = s.chips.length) : counted (ruleNums s) (broken s p row) = toldRu (missedRu (cru s p 0) row) := by
  have e : missedRu (cru s p 0) row = ((numbered s p).filter fun t => !keeps row t.2).map (ruOf s) := by
    unfold missedRu
    rw [cru0, filter_map']
    congr 1
    refine filter_congr' fun t ht => ?_
    obtain ⟨_, h1, h2⟩ := numbered_in h ht
    show decide (t.2.w - ((row ++ [0]).getD (pl s.chips.length t.2.v) 0 - (row ++ [0]).getD (pl s.chips.length t.2.u) 0) < 0) = !keeps row t.2
    rw [time_at hr h2, time_at hr h1]
    unfold keeps
    rw [← decide_not]
    congr 1
    apply propext
    omega
  rw [e]
  unfold counted toldRu broken
  show (((((numbered s p).filter fun t => !keeps row t.2).map fun t => t.1).length : Nat) : Int) :: _ = _
  rw [List.length_map, List.length_map]
  congr 1
  show (((numbered s p).filter fun t => !keeps row t.2).map fun t => t.1).flatMap (ruleNums s) = _
  generalize (numbered s p).filter (fun t => !keeps row t.2) = ts
  induction ts with
  | nil => rfl
  | cons t ts ih =>
    rw [List.map_cons, List.map_cons, List.flatMap_cons, List.flatMap_cons, ih, ruleNums_is]
    rfl
theorem slacks_ru {p : Int} {row : List Int} (h : PathsIn s) (hr : row.length = s.chips.length) : slacks s p row = (pathRus s p 0).map (leftOf row) := by
  unfold slacks pathRus
  rw [map_flat', map_flat']
  have : ∀ (l : List Path) (k : Nat), (∀ q ∈ l, q ∈ s.paths) → (l.flatMap fun q => (pathRules s p q).map fun q => q.w - (timeOf row q.v - timeOf row q.u)) = (num k l).flatMap fun t => (pathRu s p 0 t).map (leftOf row) := by
    intro l
    induction l with
    | nil => intro k _; rfl
    | cons q l ih =>
      intro k hl
      obtain ⟨h1, h2⟩ := h q (hl q List.mem_cons_self)
      rw [List.flatMap_cons, ih (k + 1) fun x hx => hl x (List.mem_cons_of_mem _ hx)]
      show _ = (pathRu s p 0 (k, q)).map (leftOf row) ++ _
      congr 1
      have t1 := time_at (v := q.i + 1) hr (by omega)
      have t2 := time_at (v := q.j + 1) hr (by omega)
      have t1 : (row ++ [0]).getD q.i 0 = timeOf row (q.i + 1) := t1
      have t2 : (row ++ [0]).getD q.j 0 = timeOf row (q.j + 1) := t2
      simp only [pathRules, pathRu, leftOf, List.map_cons, List.map_nil, t1, t2]
      rw [show p - ((s.setup : Int) + ((0 : Nat) : Int)) - (q.e : Int) = p - (s.setup : Int) - (q.e : Int) by omega, show (q.d : Int) - ((s.hold : Int) + ((0 : Nat) : Int)) = (q.d : Int) - (s.hold : Int) by omega]
  exact this s.paths 0 fun q hq => hq
theorem ring_told {p : Int} (h : PathsIn s) : counted (ruleNums s) (ring s p) ++ [sumOf (rules s p) (ring s p)] = toldRu (leastRing (cru s p 0) (s.chips.length + 1)) ++ [((leastRing (cru s p 0) (s.chips.length + 1)).map fun r => r.w).sum] := by
  obtain ⟨rs, e, k⟩ := ring_answer (p := p) h
  rw [k, e]
  rfl
theorem flat_len_le {α β : Type} (f : α → List β) (k : Nat) (h : ∀ a, (f a).length ≤ k) : ∀ l : List α, (l.flatMap f).length ≤ k * l.length
  | [] => by simp
  | a :: l => by
    rw [List.flatMap_cons, List.length_append, List.length_cons, Nat.mul_succ]
    have := h a
    have := flat_len_le f k h l
    omega
theorem chipRus_len : (chipRus s).length ≤ 2 * s.chips.length := by
  have := flat_len_le (chipRu s.chips.length) 2 (fun _ => Nat.le_refl _) (num 0 s.chips)
  rwa [num_length] at this
theorem pathRus_len {p : Int} {g : Nat} : (pathRus s p g).length ≤ 2 * s.paths.length := by
  have := flat_len_le (pathRu s p g) 2 (fun _ => Nat.le_refl _) (num 0 s.paths)
  rwa [num_length] at this
theorem cru_len {p : Int} {g : Nat} (G : Good s) : (cru s p g).length ≤ 128 := by
  have h1 := chipRus_len (s := s)
  have h2 := pathRus_len (s := s) (p := p) (g := g)
  have := G.chips
  have := G.paths
  unfold cru
  rw [List.length_append]
  omega
theorem ringGo_len (rs : List Ru) (n goal : Nat) : ∀ (k u : Nat) (x : Int), (ringGo rs n goal k u x).length ≤ k
  | 0, _, _ => Nat.le_refl _
  | k + 1, u, x => by
    unfold ringGo
    split
    · have := ringGo_len rs n goal k (by assumption : Ru).e (x + (by assumption : Ru).w)
      rename_i r _
      have := ringGo_len rs n goal k r.e (x + r.w)
      simp only [List.length_cons]
      omega
    · simp
theorem ringLoop_len (rs : List Ru) (n : Nat) : ∀ (m k : Nat), (ringLoop rs n m k).length ≤ m + k
  | 0, _ => by simp [ringLoop]
  | m + 1, k => by
    unfold ringLoop
    split
    · rename_i r _
      have := ringGo_len rs n r.b k r.e r.w
      simp only [List.length_cons]
      omega
    · have := ringLoop_len rs n m (k + 1)
      omega
theorem told_len (rs : List Ru) : (toldRu rs).length = 1 + 2 * rs.length := by
  unfold toldRu
  rw [List.length_cons]
  have : ∀ l : List Ru, (l.flatMap fun r => [(r.kind : Int), (r.num : Int)]).length = 2 * l.length := by
    intro l
    induction l with
    | nil => rfl
    | cons a l ih =>
      rw [List.flatMap_cons, List.length_append, ih]
      show 2 + _ = 2 * (l.length + 1)
      omega
  rw [this]
  omega
theorem step_len (G : Good s) (d : Call) : (step s d).2.length ≤ 300 := by
  have g1 := G.chips
  have g2 := G.paths
  have chg : ∀ r : Got (State × Answer), (∀ a, r = .ok a → a.2.length ≤ 300) → (change s r).2.length ≤ 300 := fun r h => by
    unfold change
    cases r with
    | ok a => exact h a rfl
    | error e => simp
  cases d with
  | margins a b => rw [step_margins]; split <;> simp
  | chip lo hi =>
    by_cases h : -100000000 ≤ lo ∧ lo ≤ hi ∧ hi ≤ 100000000
    · by_cases n : s.chips.length < 16
      · rw [step_chip_ok h n]; simp
      · rw [step_chip_full h n]; simp
    · rw [step_chip_no h]; simp
  | path i j d e =>
    by_cases hi : 0 ≤ i ∧ i < s.chips.length
    · by_cases hj : 0 ≤ j ∧ j < s.chips.length
      · by_cases h : 0 ≤ d ∧ d ≤ e ∧ e ≤ 100000000
        · by_cases n : s.paths.length < 48
          · rw [step_path_ok hi hj h n]; simp
          · rw [step_path_full hi hj h n]; simp
        · rw [step_path_no hi hj h]; simp
      · rw [step_path_j hi hj]; simp
    · rw [step_path_i hi]; simp
  | bound i lo hi =>
    by_cases k : 0 ≤ i ∧ i < s.chips.length
    · by_cases h : -100000000 ≤ lo ∧ lo ≤ hi ∧ hi ≤ 100000000
      · rw [step_bound_ok k h]; simp
      · rw [step_bound_no k h]; simp
    · rw [step_bound_i k]; simp
  | delay k d e =>
    by_cases hk : 0 ≤ k ∧ k < s.paths.length
    · by_cases h : 0 ≤ d ∧ d ≤ e ∧ e ≤ 100000000
      · obtain ⟨q0, hq0⟩ : ∃ q0, s.paths[k.toNat]? = some q0 := ⟨_, List.getElem?_eq_getElem (by omega)⟩
        rw [step_delay_ok hk h hq0]; simp
      · rw [step_delay_no hk h]; simp
    · rw [step_delay_k hk]; simp
  | away k =>
    by_cases hk : 0 ≤ k ∧ k < s.paths.length
    · rw [step_away_ok hk]; simp
    · rw [step_away_k hk]; simp
  | clear => rw [step_clear]; simp
  | shift c =>
    cases h : (s.chips.map (moved c)).all inB with
    | false => rw [step_shift_no G h]; simp
    | true => rw [step_shift_ok G h]; simp
  | list =>
    rw [step_list_is]
    have h1 := flat_len_le (fun (c : Chip) => [c.lo, c.hi]) 2 (fun _ => Nat.le_refl _) s.chips
    have h2 := flat_len_le (fun (q : Path) => [(q.i : Int), (q.j : Int), (q.d : Int), (q.e : Int)]) 4 (fun _ => Nat.le_refl _) s.paths
    simp only [counted, List.length_cons, List.length_append]
    omega
  | check p r =>
    by_cases h : 0 ≤ p ∧ p ≤ 2000000000
    · by_cases n : r.length = s.chips.length
      · rw [step_check_ok h n, check_ru G.inn n]
        show (toldRu _).length ≤ 300
        rw [told_len]
        have h1 : (missedRu (cru s p 0) r).length ≤ (cru s p 0).length := List.length_filter_le _ _
        have h2 := cru_len (p := p) (g := 0) G
        omega
      · rw [step_check_r h n]; simp
    · rw [step_check_p h]; simp
  | slacks p r =>
    by_cases h : 0 ≤ p ∧ p ≤ 2000000000
    · by_cases n : r.length = s.chips.length
      · rw [step_slacks_ok h n, counted_one, slacks_ru G.inn n]
        have := pathRus_len (s := s) (p := p) (g := 0)
        simp only [List.length_cons, List.length_map]
        omega
      · rw [step_slacks_r h n]; simp
    · rw [step_slacks_p h]; simp
  | feasible p =>
    by_cases h : 0 ≤ p ∧ p ≤ 2000000000
    · rw [step_feasible_ok h]; simp
    · rw [step_feasible_p h]; simp
  | early p =>
    by_cases h : 0 ≤ p ∧ p ≤ 2000000000
    · cases f : feasible s p with
      | true => rw [step_early_ok h f]; simp [early_len]; omega
      | false => rw [step_early_no h f]; simp
    · rw [step_early_p h]; simp
  | late p =>
    by_cases h : 0 ≤ p ∧ p ≤ 2000000000
    · cases f : feasible s p with
      | true => rw [step_late_ok h f]; simp [late_len]; omega
      | false => rw [step_late_no h f]; simp
    · rw [step_late_p h]; simp
  | apart p i j =>
    by_cases h : 0 ≤ p ∧ p ≤ 2000000000
    · by_cases k : (0 ≤ i ∧ i < s.chips.length) ∧ (0 ≤ j ∧ j < s.chips.length)
      · cases f : feasible s p with
        | true => rw [step_apart_ok h k.1 k.2 f]; simp
        | false => rw [step_apart_no h k.1 k.2 f]; simp
      · rw [step_apart_c h k]; simp
    · rw [step_apart_p h]; simp
  | ring p =>
    by_cases h : 0 ≤ p ∧ p ≤ 2000000000
    · rw [step_ring_ok h, ring_told G.inn]
      have := ringLoop_len (cru s p 0) (s.chips.length + 1) (s.chips.length + 1) 0
      show (toldRu (ringLoop _ _ _ _) ++ _).length ≤ 300
      rw [List.length_append, told_len]
      simp only [List.length_cons, List.length_nil]
      omega
    · rw [step_ring_p h]; simp
  | least =>
    cases h : least s with
    | none => rw [step_least_no h]; simp
    | some m => rw [step_least_ok h]; simp
  | reserve p m =>
    by_cases h : (0 ≤ p ∧ p ≤ 2000000000) ∧ (0 ≤ m ∧ m ≤ 100000000)
    · cases f : feasible s p with
      | true => rw [step_reserve_ok h.1 h.2 f]; simp
      | false => rw [step_reserve_no h.1 h.2 f]; simp
    · rw [step_reserve_p h]; simp
  | sooner a b =>
    by_cases h : a.length = s.chips.length ∧ b.length = s.chips.length
    · rw [step_sooner_ok h.1 h.2]
      have := zip_len (f := min) h.1 h.2
      simp only [List.length_cons]
      omega
    · rw [step_sooner_no h]; simp
  | later a b =>
    by_cases h : a.length = s.chips.length ∧ b.length = s.chips.length
    · rw [step_later_ok h.1 h.2]
      have := zip_len (f := max) h.1 h.2
      simp only [List.length_cons]
      omega
    · rw [step_later_no h]; simp
end
end Ck

set_option linter.all false
namespace Ck
open Vbpcas
def tabN : List Int := [2, 2, 4, 3, 3, 1, 0, 0, 1, 1, 1, 1, 1, 3, 1, 0, 2, 0, 0, 1]
def tabR : List Int := [0, 0, 0, 0, 0, 0, 0, 0, 1, 1, 0, 0, 0, 0, 0, 0, 0, 2, 2, 0]
theorem shape_tab {p : Int} {n k : Nat} (h : PyVbpcas.shape p = some (n, k)) : ∃ j : Nat, p = (j : Int) ∧ j < 20 ∧ tabN[j]? = some (n : Int) ∧ tabR[j]? = some (k : Int) := by
  unfold PyVbpcas.shape at h
  by_cases e : p = 0
  · rw [if_pos e] at h; cases h; exact ⟨0, e, by omega, rfl, rfl⟩
  rw [if_neg e] at h; clear e
  by_cases e : p = 1
  · rw [if_pos e] at h; cases h; exact ⟨1, e, by omega, rfl, rfl⟩
  rw [if_neg e] at h; clear e
  by_cases e : p = 2
  · rw [if_pos e] at h; cases h; exact ⟨2, e, by omega, rfl, rfl⟩
  rw [if_neg e] at h; clear e
  by_cases e : p = 3
  · rw [if_pos e] at h; cases h; exact ⟨3, e, by omega, rfl, rfl⟩
  rw [if_neg e] at h; clear e
  by_cases e : p = 4
  · rw [if_pos e] at h; cases h; exact ⟨4, e, by omega, rfl, rfl⟩
  rw [if_neg e] at h; clear e
  by_cases e : p = 5
  · rw [if_pos e] at h; cases h; exact ⟨5, e, by omega, rfl, rfl⟩
  rw [if_neg e] at h; clear e
  by_cases e : p = 6
  · rw [if_pos e] at h; cases h; exact ⟨6, e, by omega, rfl, rfl⟩
  rw [if_neg e] at h; clear e
  by_cases e : p = 7
  · rw [if_pos e] at h; cases h; exact ⟨7, e, by omega, rfl, rfl⟩
  rw [if_neg e] at h; clear e
  by_cases e : p = 8
  · rw [if_pos e] at h; cases h; exact ⟨8, e, by omega, rfl, rfl⟩
  rw [if_neg e] at h; clear e
  by_cases e : p = 9
  · rw [if_pos e] at h; cases h; exact ⟨9, e, by omega, rfl, rfl⟩
  rw [if_neg e] at h; clear e
  by_cases e : p = 10
  · rw [if_pos e] at h; cases h; exact ⟨10, e, by omega, rfl, rfl⟩
  rw [if_neg e] at h; clear e
  by_cases e : p = 11
  · rw [if_pos e] at h; cases h; exact ⟨11, e, by omega, rfl, rfl⟩
  rw [if_neg e] at h; clear e
  by_cases e : p = 12
  · rw [if_pos e] at h; cases h; exact ⟨12, e, by omega, rfl, rfl⟩
  rw [if_neg e] at h; clear e
  by_cases e : p = 13
  · rw [if_pos e] at h; cases h; exact ⟨13, e, by omega, rfl, rfl⟩
  rw [if_neg e] at h; clear e
  by_cases e : p = 14
  · rw [if_pos e] at h; cases h; exact ⟨14, e, by omega, rfl, rfl⟩
  rw [if_neg e] at h; clear e
  by_cases e : p = 15
  · rw [if_pos e] at h; cases h; exact ⟨15, e, by omega, rfl, rfl⟩
  rw [if_neg e] at h; clear e
  by_cases e : p = 16
  · rw [if_pos e] at h; cases h; exact ⟨16, e, by omega, rfl, rfl⟩
  rw [if_neg e] at h; clear e
  by_cases e : p = 17
  · rw [if_pos e] at h; cases h; exact ⟨17, e, by omega, rfl, rfl⟩
  rw [if_neg e] at h; clear e
  by_cases e : p = 18
  · rw [if_pos e] at h; cases h; exact ⟨18, e, by omega, rfl, rfl⟩
  rw [if_neg e] at h; clear e
  by_cases e : p = 19
  · rw [if_pos e] at h; cases h; exact ⟨19, e, by omega, rfl, rfl⟩
  rw [if_neg e] at h
  cases h
theorem call_is {p : Int} {r : List Int} {c : List (List Int)} {t : List Int} (h : PyFlat.call PyVbpcas.shape (p :: r) = some (c, t)) :
    ∃ n k xs, PyVbpcas.shape p = some (n, k) ∧ n ≤ r.length ∧ PyFlat.rows k (r.drop n) = some (xs, t) ∧ c = (p :: r.take n) :: xs := by
  unfold PyFlat.call at h
  simp only at h
  cases e : PyVbpcas.shape p with
  | none => rw [e] at h; cases h
  | some x =>
    obtain ⟨n, k⟩ := x
    rw [e] at h
    simp only at h
    split at h
    · cases h
    · rename_i hn
      cases e2 : PyFlat.rows k (r.drop n) with
      | none => rw [e2] at h; cases h
      | some y =>
        obtain ⟨xs, t'⟩ := y
        rw [e2] at h
        simp only at h
        cases h
        exact ⟨n, k, xs, rfl, by omega, e2, rfl⟩
theorem row_is {l x t : List Int} (h : PyFlat.row l = some (x, t)) : ∃ n : Nat, ∃ r, l = (n : Int) :: r ∧ n ≤ r.length ∧ x = r.take n ∧ t = r.drop n := by
  cases l with
  | nil => cases h
  | cons n r =>
    unfold PyFlat.row at h
    simp only at h
    by_cases k : 0 ≤ n ∧ n.toNat ≤ r.length
    · rw [if_pos k] at h
      cases h
      exact ⟨n.toNat, r, by rw [Int.toNat_of_nonneg k.1], k.2, rfl, rfl⟩
    · rw [if_neg k] at h
      cases h
theorem rows_succ {k : Nat} {l t : List Int} {xs : List (List Int)} (h : PyFlat.rows (k + 1) l = some (xs, t)) : ∃ x t1 ys, PyFlat.row l = some (x, t1) ∧ PyFlat.rows k t1 = some (ys, t) ∧ xs = x :: ys := by
  unfold PyFlat.rows at h
  cases e : PyFlat.row l with
  | none => rw [e] at h; cases h
  | some y =>
    obtain ⟨x, t1⟩ := y
    rw [e] at h
    simp only at h
    cases e2 : PyFlat.rows k t1 with
    | none => rw [e2] at h; cases h
    | some z =>
      obtain ⟨ys, t2⟩ := z
      rw [e2] at h
      simp only at h
      cases h
      exact ⟨x, t1, ys, rfl, e2, rfl⟩
theorem calls_cons {f : Nat} {p : Int} {r : List Int} {cs : List (List (List Int))} (h : PyFlat.calls PyVbpcas.shape f (p :: r) = some cs) : ∃ g c t ds, f = g + 1 ∧ PyFlat.call PyVbpcas.shape (p :: r) = some (c, t) ∧ PyFlat.calls PyVbpcas.shape g t = some ds ∧ cs = c :: ds := by
  cases f with
  | zero => cases h
  | succ g =>
    unfold PyFlat.calls at h
    cases e : PyFlat.call PyVbpcas.shape (p :: r) with
    | none => rw [e] at h; cases h
    | some y =>
      obtain ⟨c, t⟩ := y
      rw [e] at h
      simp only at h
      cases e2 : PyFlat.calls PyVbpcas.shape g t with
      | none => rw [e2] at h; cases h
      | some ds =>
        rw [e2] at h
        simp only at h
        cases h
        exact ⟨g, c, t, ds, rfl, rfl, e2, rfl⟩
theorem calls_nil {f : Nat} {cs : List (List (List Int))} (h : PyFlat.calls PyVbpcas.shape f [] = some cs) : cs = [] := by
  unfold PyFlat.calls at h
  cases h
  rfl
def chForm (c : Int) (nums : List Int) (d : Vbpcas.Call) : Prop := (c = 0 ∧ ∃ a b, nums = [a, b] ∧ d = .margins a b) ∨ (c = 1 ∧ ∃ a b, nums = [a, b] ∧ d = .chip a b) ∨ (c = 2 ∧ ∃ a b x y, nums = [a, b, x, y] ∧ d = .path a b x y) ∨ (c = 3 ∧ ∃ a b x, nums = [a, b, x] ∧ d = .bound a b x) ∨ (c = 4 ∧ ∃ a b x, nums = [a, b, x] ∧ d = .delay a b x) ∨ (c = 5 ∧ ∃ a, nums = [a] ∧ d = .away a) ∨ (c = 6 ∧ nums = [] ∧ d = .clear) ∨ (c = 19 ∧ ∃ a, nums = [a] ∧ d = .shift a)
def fiForm (c : Int) (nums : List Int) (d : Vbpcas.Call) : Prop := (c = 10 ∧ ∃ a, nums = [a] ∧ d = .feasible a) ∨ (c = 11 ∧ ∃ a, nums = [a] ∧ d = .early a) ∨ (c = 12 ∧ ∃ a, nums = [a] ∧ d = .late a) ∨ (c = 13 ∧ ∃ a b x, nums = [a, b, x] ∧ d = .apart a b x) ∨ (c = 14 ∧ ∃ a, nums = [a] ∧ d = .ring a) ∨ (c = 15 ∧ nums = [] ∧ d = .least) ∨ (c = 16 ∧ ∃ a b, nums = [a, b] ∧ d = .reserve a b)
def loForm (c : Int) (nums : List Int) (rows : List (List Int)) (d : Vbpcas.Call) : Prop := (c = 7 ∧ nums = [] ∧ rows = [] ∧ d = .list) ∨ (c = 8 ∧ ∃ p r, nums = [p] ∧ rows = [r] ∧ d = .check p r) ∨ (c = 9 ∧ ∃ p r, nums = [p] ∧ rows = [r] ∧ d = .slacks p r)
def coForm (c : Int) (rows : List (List Int)) (d : Vbpcas.Call) : Prop := (c = 17 ∧ ∃ x y, rows = [x, y] ∧ d = .sooner x y) ∨ (c = 18 ∧ ∃ x y, rows = [x, y] ∧ d = .later x y)
def aForm (c : Int) (nums : List Int) (rows : List (List Int)) (d : Vbpcas.Call) : Prop := chForm c nums d ∨ loForm c nums rows d ∨ fiForm c nums d ∨ coForm c rows d
theorem nat_is {o : Option Int} {a n : Nat} (h : o = some (n : Int)) (e : o = some (a : Int)) : n = a := by
  rw [e] at h
  have := Option.some.inj h
  omega
theorem len0 {α : Type} {l : List α} (h : l.length = 0) : l = [] := List.eq_nil_of_length_eq_zero h
theorem len1 {α : Type} {l : List α} (h : l.length = 1) : ∃ a, l = [a] := List.length_eq_one_iff.mp h
theorem lenS {α : Type} {l : List α} {n : Nat} (h : l.length = n + 1) : ∃ a m, l = a :: m ∧ m.length = n := by
  cases l with
  | nil => cases h
  | cons a m => exact ⟨a, m, rfl, by simpa using h⟩
theorem len2 {α : Type} {l : List α} (h : l.length = 2) : ∃ a b, l = [a, b] := by
  obtain ⟨a, m, rfl, g⟩ := lenS h
  obtain ⟨b, rfl⟩ := len1 g
  exact ⟨a, b, rfl⟩
theorem len3 {α : Type} {l : List α} (h : l.length = 3) : ∃ a b c, l = [a, b, c] := by
  obtain ⟨a, m, rfl, g⟩ := lenS h
  obtain ⟨b, c, rfl⟩ := len2 g
  exact ⟨a, b, c, rfl⟩
theorem len4 {α : Type} {l : List α} (h : l.length = 4) : ∃ a b c d, l = [a, b, c, d] := by
  obtain ⟨a, m, rfl, g⟩ := lenS h
  obtain ⟨b, c, d, rfl⟩ := len3 g
  exact ⟨a, b, c, d, rfl⟩
theorem call_form {p : Int} {nums : List Int} {rows : List (List Int)} {n k : Nat} (h : PyVbpcas.shape p = some (n, k)) (hn : nums.length = n) (hk : rows.length = k) : ∃ d, aForm p nums rows d ∧ VbpcasNeutral.callOf (PyVbpcas.whole ((p :: nums) :: rows)) = some d := by
  obtain ⟨j, rfl, hj, tn, tr⟩ := shape_tab h
  clear h
  match j, hj with
  | 0, _ =>
    have e1 : n = 2 := nat_is tn rfl
    have e2 : k = 0 := nat_is tr rfl
    subst e1 e2
    obtain ⟨a, b, rfl⟩ := len2 hn
    have q2 := len0 hk
    subst q2
    exact ⟨_, .inl (.inl ⟨rfl, _, _, rfl, rfl⟩), rfl⟩
  | 1, _ =>
    have e1 : n = 2 := nat_is tn rfl
    have e2 : k = 0 := nat_is tr rfl
    subst e1 e2
    obtain ⟨a, b, rfl⟩ := len2 hn
    have q2 := len0 hk
    subst q2
    exact ⟨_, .inl (.inr (.inl ⟨rfl, _, _, rfl, rfl⟩)), rfl⟩
  | 2, _ =>
    have e1 : n = 4 := nat_is tn rfl
    have e2 : k = 0 := nat_is tr rfl
    subst e1 e2
    obtain ⟨a, b, x, y, rfl⟩ := len4 hn
    have q2 := len0 hk
    subst q2
    exact ⟨_, .inl (.inr (.inr (.inl ⟨rfl, _, _, _, _, rfl, rfl⟩))), rfl⟩
  | 3, _ =>
    have e1 : n = 3 := nat_is tn rfl
    have e2 : k = 0 := nat_is tr rfl
    subst e1 e2
    obtain ⟨a, b, x, rfl⟩ := len3 hn
    have q2 := len0 hk
    subst q2
    exact ⟨_, .inl (.inr (.inr (.inr (.inl ⟨rfl, _, _, _, rfl, rfl⟩)))), rfl⟩
  | 4, _ =>
    have e1 : n = 3 := nat_is tn rfl
    have e2 : k = 0 := nat_is tr rfl
    subst e1 e2
    obtain ⟨a, b, x, rfl⟩ := len3 hn
    have q2 := len0 hk
    subst q2
    exact ⟨_, .inl (.inr (.inr (.inr (.inr (.inl ⟨rfl, _, _, _, rfl, rfl⟩))))), rfl⟩
  | 5, _ =>
    have e1 : n = 1 := nat_is tn rfl
    have e2 : k = 0 := nat_is tr rfl
    subst e1 e2
    obtain ⟨a, rfl⟩ := len1 hn
    have q2 := len0 hk
    subst q2
    exact ⟨_, .inl (.inr (.inr (.inr (.inr (.inr (.inl ⟨rfl, _, rfl, rfl⟩)))))), rfl⟩
  | 6, _ =>
    have e1 : n = 0 := nat_is tn rfl
    have e2 : k = 0 := nat_is tr rfl
    subst e1 e2
    have q := len0 hn
    subst q
    have q2 := len0 hk
    subst q2
    exact ⟨_, .inl (.inr (.inr (.inr (.inr (.inr (.inr (.inl ⟨rfl, rfl, rfl⟩))))))), rfl⟩
  | 7, _ =>
    have e1 : n = 0 := nat_is tn rfl
    have e2 : k = 0 := nat_is tr rfl
    subst e1 e2
    have q := len0 hn
    subst q
    have q2 := len0 hk
    subst q2
    exact ⟨_, .inr (.inl (.inl ⟨rfl, rfl, rfl, rfl⟩)), rfl⟩
  | 8, _ =>
    have e1 : n = 1 := nat_is tn rfl
    have e2 : k = 1 := nat_is tr rfl
    subst e1 e2
    obtain ⟨a, rfl⟩ := len1 hn
    obtain ⟨r, rfl⟩ := len1 hk
    exact ⟨_, .inr (.inl (.inr (.inl ⟨rfl, _, _, rfl, rfl, rfl⟩))), rfl⟩
  | 9, _ =>
    have e1 : n = 1 := nat_is tn rfl
    have e2 : k = 1 := nat_is tr rfl
    subst e1 e2
    obtain ⟨a, rfl⟩ := len1 hn
    obtain ⟨r, rfl⟩ := len1 hk
    exact ⟨_, .inr (.inl (.inr (.inr (⟨rfl, _, _, rfl, rfl, rfl⟩)))), rfl⟩
  | 10, _ =>
    have e1 : n = 1 := nat_is tn rfl
    have e2 : k = 0 := nat_is tr rfl
    subst e1 e2
    obtain ⟨a, rfl⟩ := len1 hn
    have q2 := len0 hk
    subst q2
    exact ⟨_, .inr (.inr (.inl (.inl ⟨rfl, _, rfl, rfl⟩))), rfl⟩
  | 11, _ =>
    have e1 : n = 1 := nat_is tn rfl
    have e2 : k = 0 := nat_is tr rfl
    subst e1 e2
    obtain ⟨a, rfl⟩ := len1 hn
    have q2 := len0 hk
    subst q2
    exact ⟨_, .inr (.inr (.inl (.inr (.inl ⟨rfl, _, rfl, rfl⟩)))), rfl⟩
  | 12, _ =>
    have e1 : n = 1 := nat_is tn rfl
    have e2 : k = 0 := nat_is tr rfl
    subst e1 e2
    obtain ⟨a, rfl⟩ := len1 hn
    have q2 := len0 hk
    subst q2
    exact ⟨_, .inr (.inr (.inl (.inr (.inr (.inl ⟨rfl, _, rfl, rfl⟩))))), rfl⟩
  | 13, _ =>
    have e1 : n = 3 := nat_is tn rfl
    have e2 : k = 0 := nat_is tr rfl
    subst e1 e2
    obtain ⟨a, b, x, rfl⟩ := len3 hn
    have q2 := len0 hk
    subst q2
    exact ⟨_, .inr (.inr (.inl (.inr (.inr (.inr (.inl ⟨rfl, _, _, _, rfl, rfl⟩)))))), rfl⟩
  | 14, _ =>
    have e1 : n = 1 := nat_is tn rfl
    have e2 : k = 0 := nat_is tr rfl
    subst e1 e2
    obtain ⟨a, rfl⟩ := len1 hn
    have q2 := len0 hk
    subst q2
    exact ⟨_, .inr (.inr (.inl (.inr (.inr (.inr (.inr (.inl ⟨rfl, _, rfl, rfl⟩))))))), rfl⟩
  | 15, _ =>
    have e1 : n = 0 := nat_is tn rfl
    have e2 : k = 0 := nat_is tr rfl
    subst e1 e2
    have q := len0 hn
    subst q
    have q2 := len0 hk
    subst q2
    exact ⟨_, .inr (.inr (.inl (.inr (.inr (.inr (.inr (.inr (.inl ⟨rfl, rfl, rfl⟩)))))))), rfl⟩
  | 16, _ =>
    have e1 : n = 2 := nat_is tn rfl
    have e2 : k = 0 := nat_is tr rfl
    subst e1 e2
    obtain ⟨a, b, rfl⟩ := len2 hn
    have q2 := len0 hk
    subst q2
    exact ⟨_, .inr (.inr (.inl (.inr (.inr (.inr (.inr (.inr (.inr (⟨rfl, _, _, rfl, rfl⟩))))))))), rfl⟩
  | 17, _ =>
    have e1 : n = 0 := nat_is tn rfl
    have e2 : k = 2 := nat_is tr rfl
    subst e1 e2
    have q := len0 hn
    subst q
    obtain ⟨r, s, rfl⟩ := len2 hk
    exact ⟨_, .inr (.inr (.inr ((.inl ⟨rfl, _, _, rfl, rfl⟩)))), rfl⟩
  | 18, _ =>
    have e1 : n = 0 := nat_is tn rfl
    have e2 : k = 2 := nat_is tr rfl
    subst e1 e2
    have q := len0 hn
    subst q
    obtain ⟨r, s, rfl⟩ := len2 hk
    exact ⟨_, .inr (.inr (.inr ((.inr (⟨rfl, _, _, rfl, rfl⟩))))), rfl⟩
  | 19, _ =>
    have e1 : n = 1 := nat_is tn rfl
    have e2 : k = 0 := nat_is tr rfl
    subst e1 e2
    obtain ⟨a, rfl⟩ := len1 hn
    have q2 := len0 hk
    subst q2
    exact ⟨_, .inl (.inr (.inr (.inr (.inr (.inr (.inr (.inr (⟨rfl, _, rfl, rfl⟩)))))))), rfl⟩
  | j + 20, h => exact absurd h (by omega)
structure Req (l : List Int) (cs : List (List (List Int))) : Prop where
  calls : PyFlat.calls PyVbpcas.shape l.length l = some cs
  len : cs.length ≤ 400
theorem req_of {l : List Int} (h : PyVbpcas.answers_asked l = true) : ∃ cs, Req l cs ∧ PyVbpcas.answers l = PyFlat.told (PyFlat.played VbpcasNeutral.step VbpcasNeutral.start (cs.map PyVbpcas.whole)) := by
  unfold PyVbpcas.answers_asked at h
  unfold PyVbpcas.answers
  unfold PyVbpcas.calls at h ⊢
  cases e : PyFlat.calls PyVbpcas.shape l.length l with
  | none => rw [e] at h; cases h
  | some cs =>
    rw [e] at h
    have h : (PyFlat.atMost 400 (cs.map PyVbpcas.whole) && VbpcasNeutral.asked (cs.map PyVbpcas.whole)) = true := h
    rw [Bool.and_eq_true] at h
    have h1 := of_decide_eq_true h.1
    rw [List.length_map] at h1
    exact ⟨cs, ⟨e, h1⟩, rfl⟩
theorem step_made {s : State} {c : List (List Int)} {d : Call} (h : VbpcasNeutral.callOf c = some d) : VbpcasNeutral.step s c = Vbpcas.step s d := by
  unfold VbpcasNeutral.step
  rw [h]
theorem rows_len : ∀ {k : Nat} {l t : List Int} {xs : List (List Int)}, PyFlat.rows k l = some (xs, t) → xs.length = k
  | 0, l, t, xs, h => by
    have e : (([] : List (List Int)), l) = (xs, t) := Option.some.inj h
    injection e with e1 e2
    subst e1
    rfl
  | k + 1, l, t, xs, h => by
    obtain ⟨x, t1, ys, _, h2, rfl⟩ := rows_succ h
    exact congrArg (· + 1) (rows_len h2)
end Ck

set_option Elab.async false
set_option linter.all false
set_option maxRecDepth 100000
namespace L2
open PySem PySem.Spec PyProof.Rows
abbrev Key := Sum Int Str
def keyIs : Key → Value → Bool
  | .inl k, v => Value.isInt k v
  | .inr x, v => Value.isStrOf x v
def keyH (w : World) : Key → Int
  | .inl k => hashInt k
  | .inr x => hashStr w x
theorem keyIs_shape : ∀ {k : Key} {v : Value}, keyIs k v = true → (∃ i t, k = Sum.inl i ∧ v = Value.int i t) ∨ (∃ x t, k = Sum.inr x ∧ v = Value.str x t)
  | .inl i, v, h => by
    obtain ⟨t, e⟩ := Value.isInt_shape (k := i) (v := v) h
    exact .inl ⟨i, t, rfl, e⟩
  | .inr x, v, h => by
    obtain ⟨t, e⟩ := Value.isStrOf_shape (x := x) (v := v) h
    exact .inr ⟨x, t, rfl, e⟩
theorem key_ll (a b : Int) : decide ((Sum.inl a : Key) = Sum.inl b) = (a == b) := by
  by_cases e : a = b
  · subst e; simp
  · have h : ¬ (Sum.inl a : Key) = Sum.inl b := fun q => e (Sum.inl.inj q)
    rw [decide_eq_false h]
    exact (beq_eq_false_iff_ne.mpr e).symm
theorem key_rr (a b : Str) : decide ((Sum.inr a : Key) = Sum.inr b) = decide (a = b) := by
  by_cases e : a = b
  · subst e; simp
  · have h : ¬ (Sum.inr a : Key) = Sum.inr b := fun q => e (Sum.inr.inj q)
    rw [decide_eq_false h, decide_eq_false e]
theorem key_lr (a : Int) (b : Str) : decide ((Sum.inl a : Key) = Sum.inr b) = false := decide_eq_false (fun q => nomatch q)
theorem key_rl (a : Str) (b : Int) : decide ((Sum.inr a : Key) = Sum.inl b) = false := decide_eq_false (fun q => nomatch q)
def mixKind (prog : Program) (w : World) : PySem.KeyKind prog w Key where
  is := keyIs
  hash := keyH w
  inj := fun v a b ha hb => by
    rcases keyIs_shape ha with ⟨i, t, rfl, rfl⟩ | ⟨x, t, rfl, rfl⟩
    · rcases keyIs_shape hb with ⟨j, u, rfl, e⟩ | ⟨y, u, rfl, e⟩
      · injection e with e1 _; rw [e1]
      · exact nomatch e
    · rcases keyIs_shape hb with ⟨j, u, rfl, e⟩ | ⟨y, u, rfl, e⟩
      · exact nomatch e
      · injection e with e1 _; rw [e1]
  byValue := fun k v h => by
    rcases keyIs_shape h with ⟨i, t, rfl, rfl⟩ | ⟨x, t, rfl, rfl⟩ <;> rfl
  pyHash := fun hv h => by
    rcases keyIs_shape hv with ⟨i, t, rfl, rfl⟩ | ⟨x, t, rfl, rfl⟩
    · exact wpAny_pyHash_int h
    · exact wpAny_pyHash_str h
  eqBool := fun hu hv h => by
    rcases keyIs_shape hu with ⟨i, t, rfl, rfl⟩ | ⟨x, t, rfl, rfl⟩
    · rcases keyIs_shape hv with ⟨j, u, rfl, rfl⟩ | ⟨y, u, rfl, rfl⟩
      · rw [key_ll] at h; exact wpAny_eqBool_int h
      · rw [key_lr] at h; exact SeqAt.EqAt.int_str i t y u _ _ _ _ h
    · rcases keyIs_shape hv with ⟨j, u, rfl, rfl⟩ | ⟨y, u, rfl, rfl⟩
      · rw [key_rl] at h; exact SeqAt.EqAt.str_int x t j u _ _ _ _ h
      · rw [key_rr] at h; exact wpAny_eqBool_str h
  «strs» := fun k x t v h => by
    rcases keyIs_shape h with ⟨i, u, rfl, e⟩ | ⟨y, u, rfl, e⟩
    · exact nomatch e
    · injection e with e1 _
      subst e1
      cases v <;> rfl
end L2
namespace L2
open PySem PySem.Spec PyProof.Rows
inductive V where
  | non | bl (b : Bool) | int (i : Int) | str (x : Str) | byt (b : Array UInt8) | flt (b : UInt64) | ref (a : Addr) | ty (n : String)
  deriving DecidableEq
def RelV : V → Value → Prop
  | .non, u => u = Value.none
  | .bl b, u => u = Value.bool b
  | .int i, u => ∃ t, u = Value.int i t
  | .str x, u => ∃ t, u = Value.str x t
  | .byt b, u => ∃ t, u = Value.bytes b t
  | .flt b, u => ∃ t, u = Value.float b t
  | .ref a, u => u = Value.ref a
  | .ty n, u => u = Value.type n
abbrev Vals : List V → List Value → Prop := Paired RelV
theorem Vals.length {xs : List V} {us : List Value} (r : Vals xs us) : xs.length = us.length := Paired.length r
theorem Vals.get : ∀ {xs : List V} {us : List Value} {i : Nat} {x : V}, Vals xs us → xs[i]? = some x → ∃ u, us[i]? = some u ∧ RelV x u
  | _, _, _, _, .nil, e => by simp at e
  | _, _, 0, _, .cons r _, e => by simp at e; subst e; exact ⟨_, rfl, r⟩
  | _, _, i + 1, x, .cons _ t, e => by
    obtain ⟨u, h1, h2⟩ := Vals.get (i := i) (x := x) t (by simpa using e)
    exact ⟨u, by simpa using h1, h2⟩
theorem Vals.set {x : V} {u : Value} (r : RelV x u) : ∀ {xs : List V} {us : List Value} (i : Nat), Vals xs us → Vals (xs.set i x) (us.set i u)
  | _, _, _, .nil => .nil
  | _, _, 0, .cons _ t => .cons r t
  | _, _, i + 1, .cons q t => .cons q (Vals.set r i t)
theorem Vals.append : ∀ {xs ys : List V} {us ws : List Value}, Vals xs us → Vals ys ws → Vals (xs ++ ys) (us ++ ws)
  | _, _, _, _, .nil, s => s
  | _, _, _, _, .cons r t, s => .cons r (Vals.append t s)
theorem Vals.take : ∀ {xs : List V} {us : List Value} (n : Nat), Vals xs us → Vals (xs.take n) (us.take n)
  | _, _, 0, _ => .nil
  | _, _, _ + 1, .nil => .nil
  | _, _, n + 1, .cons r t => .cons r (Vals.take n t)
theorem Vals.drop : ∀ {xs : List V} {us : List Value} (n : Nat), Vals xs us → Vals (xs.drop n) (us.drop n)
  | _, _, 0, r => r
  | _, _, _ + 1, .nil => .nil
  | _, _, n + 1, .cons _ t => Vals.drop n t
def RelO : Option V → Option Value → Prop
  | some v, some u => RelV v u
  | none, none => True
  | _, _ => False
def KV {κ : Type} : List (κ × V) → List (κ × Value) → Prop := Paired fun (p : κ × V) (q : κ × Value) => p.1 = q.1 ∧ RelV p.2 q.2
def kV : Key → V
  | .inl i => .int i
  | .inr x => .str x
inductive HO where
  | lst (xs : List V)
  | tup (xs : List V)
  | dK (kvs : List (Key × V)) | dT (kvs : List (List Key × V))
  | set (S : Int → Bool) (n : Nat)
  | ins (C dx : Addr) (fs : List (Str × V))
  | own (x : Addr)
  | xd (fs : List (Str × V))
  | met (f x : Addr)
  | rng (lo hi : Int)
  | frz (o : Obj) (u : HO)
  | tbl (ps : Array Value)
  | ext (φ : Heap → Prop)
abbrev Hp := Addr → Option HO
def upd (H : Hp) (a : Addr) (o : HO) : Hp := fun b => if b = a then some o else H b
theorem upd_same {H : Hp} {a : Addr} {o : HO} : upd H a o a = some o := by unfold upd; rw [if_pos rfl]
theorem upd_ne {H : Hp} {a b : Addr} {o : HO} (h : b ≠ a) : upd H a o b = H b := by unfold upd; rw [if_neg h]
theorem upd_upd {H : Hp} {a : Addr} {o u : HO} : upd (upd H a o) a u = upd H a u := by
  funext b; unfold upd; split <;> rfl
theorem ne_of {H : Hp} {a b : Addr} {o u : HO} (h : H a = some o) (h' : H b = some u) (d : o ≠ u) : a ≠ b := by
  intro e; subst e; rw [h] at h'; exact d (Option.some.inj h')
theorem ne_of_none {H : Hp} {a b : Addr} {o : HO} (h : H a = some o) (h' : H b = none) : a ≠ b := by
  intro e; subst e; rw [h] at h'; cases h'
section
variable (P : Program) (w : World)
def ObjOk (H : Hp) (h : Heap) (a : Addr) : HO → Prop
  | .lst xs => xs.length ≤ sizeLine ∧ ∃ (its : List Value) (n : Nat), Vals xs its ∧ h.get? a = some { cls := .type "list", data := .seq its.toArray n }
  | .tup xs => xs.length ≤ sizeLine ∧ ∃ its : List Value, Vals xs its ∧ IsTup h a its.toArray
  | .dK kvs => kvs.length ≤ sizeLine ∧ (a == sysModules) = false ∧ ∃ vs, KV kvs vs ∧ h.DictOf (mixKind P w) a vs
  | .dT kvs => kvs.length ≤ sizeLine ∧ (a == sysModules) = false ∧ ∃ xs : List (List Key × Addr × Value),
      Paired (fun (p : List Key × V) (q : List Key × Addr × Value) => p.1 = q.1 ∧ H q.2.1 = some (.tup (p.1.map kV)) ∧ RelV p.2 q.2.2) kvs xs ∧
      ∃ o es ep, h.get? a = some o ∧ o.ExactDict ∧ o.data = .dict es ep ∧ es.toList = xs.map (entryOfKey (tupleKind (mixKind P w))) ∧ (xs.map (·.1)).Nodup
  | .set S n => h.SetOf (intKind P w) a S n
  | .ins C dx fs => H dx = some (.own a) ∧ fs.length ≤ 1000 ∧ dx ≠ a ∧ h.get? a = some (PySem.W.instObj C dx) ∧
      ∃ mA, h.Ns1 dx mA ∧ (∀ f, RelO (fs.lookup f) (mA f)) ∧ PySem.Within mA (fs.map (·.1))
  | .own _ => ∃ o, h.get? a = some o
  | .xd fs => ∃ mA, h.Ns1 a mA ∧ ∀ f, RelO (fs.lookup f) (mA f)
  | .rng lo hi => ∃ t u v, h.get? a = some { cls := .type "range", data := .fields #[.int lo t, .int hi u, .int 1 v] }
  | .frz o u => h.get? a = some o ∧ ObjOk H h a u
  | .tbl ps => h.get? a = some { cls := .none, data := .fields ps }
  | .met f x => h.get? a = some (PySem.W.methodObj (.ref f) (.ref x))
  | .ext φ => φ h ∧ (∃ o, h.get? a = some o) ∧ ∀ h1 h2 : Heap, φ h1 → (∀ o, h1.get? a = some o → h2.get? a = some o) → φ h2
def HOk (H : Hp) (h : Heap) : Prop := ∀ a o, H a = some o → ObjOk P w H h a o
end
section
variable {P : Program} {w : World} {H H' : Hp} {h h' : Heap} {a : Addr} {o : HO}
theorem ObjOk.lt (x : ObjOk P w H h a o) : a < h.objs.size := by
  cases o with
  | lst xs => obtain ⟨_, _, _, _, e⟩ := x; exact Heap.lt_size e
  | tup xs => obtain ⟨_, _, _, p⟩ := x; exact p.lt
  | dK kvs => obtain ⟨_, _, _, _, o, _, _, e, _⟩ := x; exact Heap.lt_size e
  | dT kvs => obtain ⟨_, _, _, _, o, _, _, e, _⟩ := x; exact Heap.lt_size e
  | set S n => obtain ⟨o, _, _, _, e, _⟩ := x; exact Heap.lt_size e
  | ins C dx fs => obtain ⟨_, _, _, e, _⟩ := x; exact Heap.lt_size e
  | own y => obtain ⟨_, e⟩ := x; exact Heap.lt_size e
  | xd fs => obtain ⟨_, ⟨_, _, _, e, _⟩, _⟩ := x; exact Heap.lt_size e
  | rng lo hi => obtain ⟨_, _, _, e⟩ := x; exact Heap.lt_size e
  | frz ob u => obtain ⟨e, _⟩ := x; exact Heap.lt_size e
  | tbl ps => exact Heap.lt_size (show h.get? a = some _ from x)
  | met f y => exact Heap.lt_size (show h.get? a = some _ from x)
  | ext φ => obtain ⟨_, ⟨_, e⟩, _⟩ := x; exact Heap.lt_size e
theorem Paired.mapP {α β : Type} {F G : α → β → Prop} : ∀ {l₁ : List α} {l₂ : List β}, Paired F l₁ l₂ → (∀ a b, F a b → G a b) → Paired G l₁ l₂
  | _, _, .nil, _ => .nil
  | _, _, .cons r t, f => .cons (f _ _ r) (Paired.mapP t f)
theorem Paired.imp' {α β : Type} {F G : α → β → Prop} (f : ∀ a b, F a b → G a b) {l₁ : List α} {l₂ : List β} (r : Paired F l₁ l₂) : Paired G l₁ l₂ := Paired.mapP r f
theorem ObjOk.stay (x : ObjOk P w H h a o) (k : ∀ b u, (b = a ∨ H b = some (.own a)) → h.get? b = some u → h'.get? b = some u)
    (ho : ∀ b, H b = some (.own a) → H' b = some (.own a)) (ht : ∀ b xs, H b = some (.tup xs) → H' b = some (.tup xs)) : ObjOk P w H' h' a o := by
  induction o with
  | lst xs => obtain ⟨z, its, n, r, e⟩ := x; exact ⟨z, its, n, r, k _ _ (.inl rfl) e⟩
  | tup xs => obtain ⟨z, its, r, ob, e, c⟩ := x; exact ⟨z, its, r, ob, k _ _ (.inl rfl) e, c⟩
  | dK kvs => obtain ⟨z, y, vs, r, ob, es, ep, e, c⟩ := x; exact ⟨z, y, vs, r, ob, es, ep, k _ _ (.inl rfl) e, c⟩
  | dT kvs =>
    obtain ⟨z, y, xs, r, ob, es, ep, e, c⟩ := x
    exact ⟨z, y, xs, Paired.mapP r fun p q z => ⟨z.1, ht _ _ z.2.1, z.2.2⟩, ob, es, ep, k _ _ (.inl rfl) e, c⟩
  | set S n => obtain ⟨ob, es, ep, t, e, c⟩ := x; exact ⟨ob, es, ep, t, k _ _ (.inl rfl) e, c⟩
  | ins C dx fs =>
    obtain ⟨d, z, ne, e, mA, ⟨od, es, ep, e2, c⟩, r⟩ := x
    exact ⟨ho _ d, z, ne, k _ _ (.inl rfl) e, mA, ⟨od, es, ep, k _ _ (.inr d) e2, c⟩, r⟩
  | own y => obtain ⟨ob, e⟩ := x; exact ⟨ob, k _ _ (.inl rfl) e⟩
  | xd fs => obtain ⟨mA, ⟨od, es, ep, e, c⟩, r⟩ := x; exact ⟨mA, ⟨od, es, ep, k _ _ (.inl rfl) e, c⟩, r⟩
  | rng lo hi => obtain ⟨t, u, v, e⟩ := x; exact ⟨t, u, v, k _ _ (.inl rfl) e⟩
  | frz ob u ih => obtain ⟨e, q⟩ := x; exact ⟨k _ _ (.inl rfl) e, ih q⟩
  | tbl ps =>
    have e : h.get? a = some { cls := .none, data := .fields ps } := x
    show h'.get? a = some { cls := .none, data := .fields ps }
    exact k a _ (.inl rfl) e
  | met f y =>
    have e : h.get? a = some (PySem.W.methodObj (.ref f) (.ref y)) := x
    show h'.get? a = some (PySem.W.methodObj (.ref f) (.ref y))
    exact k a _ (.inl rfl) e
  | ext φ => obtain ⟨p, ⟨o, e⟩, st⟩ := x; exact ⟨st _ _ p fun o q => k _ _ (.inl rfl) q, ⟨o, k _ _ (.inl rfl) e⟩, st⟩
theorem HOk.lt (x : HOk P w H h) (e : H a = some o) : a < h.objs.size := (x a o e).lt
theorem HOk.fresh (x : HOk P w H h) (e : h.objs.size ≤ a) : H a = none := by
  cases q : H a with
  | none => rfl
  | some u => exact absurd (Nat.lt_of_lt_of_le (x.lt q) e) (Nat.lt_irrefl _)
theorem HOk.kept (x : HOk P w H h) (k : ∀ b u, h.get? b = some u → h'.get? b = some u) : HOk P w H h' := fun a o e =>
  (x a o e).stay (fun b u _ q => k b u q) (fun _ q => q) fun _ _ q => q
theorem HOk.laid (x : HOk P w H h) (k : ∀ b u, h.get? b = some u → h'.get? b = some u) (hp : h.objs.size ≤ a) (new : ObjOk P w (upd H a o) h' a o) : HOk P w (upd H a o) h' := fun b u e => by
  have hn := x.fresh hp
  by_cases hb : b = a
  · subst hb; rw [upd_same] at e; cases e; exact new
  · rw [upd_ne hb] at e
    exact (x b u e).stay (fun c v _ q => k c v q) (fun c q => by rw [upd_ne (ne_of_none q hn)]; exact q) fun c xs q => by rw [upd_ne (ne_of_none q hn)]; exact q
end
def Rd (H : Hp) (a : Addr) (u : HO) : Prop := H a = some u ∨ ∃ o, H a = some (.frz o u)
theorem Rd.ok {P : Program} {w : World} {H : Hp} {h : Heap} {a : Addr} {u : HO} (r : Rd H a u) (x : HOk P w H h) : ObjOk P w H h a u := by
  rcases r with r | ⟨o, r⟩
  · exact x a u r
  · obtain ⟨_, q⟩ := x a _ r
    exact q
def Mut : Option HO → Prop
  | some (.lst _) => True
  | some (.dK _) => True
  | some (.dT _) => True
  | some (.set _ _) => True
  | some (.ins _ _ _) => True
  | some (.ext _) => True
  | _ => False
section
variable {P : Program} {w : World} {H : Hp} {h h' : Heap} {x e : Addr} {o' : HO}
theorem HOk.write (ok : HOk P w H h) (mu : Mut (H x)) (he : e = x ∨ H e = some (.own x)) (k : ∀ b u, b ≠ e → h.get? b = some u → h'.get? b = some u) (heo : ∃ u, h'.get? e = some u)
    (new : ObjOk P w (upd H x o') h' x o') : HOk P w (upd H x o') h' := fun b u q => by
  have nown : ∀ c y, H c = some (.own y) → c ≠ x := fun c y r z => by subst z; rw [r] at mu; exact mu
  have ntup : ∀ c xs, H c = some (.tup xs) → c ≠ x := fun c xs r z => by subst z; rw [r] at mu; exact mu
  by_cases hb : b = x
  · subst hb; rw [upd_same] at q; cases q; exact new
  · rw [upd_ne hb] at q
    by_cases hbe : b = e
    · have q' : H b = some (.own x) := by
        rcases he with z | z
        · exact absurd (hbe.trans z) hb
        · rw [hbe]; exact z
      rw [q] at q'; cases q'
      obtain ⟨v, hv⟩ := heo
      exact ⟨v, by rw [hbe]; exact hv⟩
    · refine (ok b u q).stay (fun c v hc r => k c v ?_ r) (fun c r => by rw [upd_ne (nown c b r)]; exact r) fun c xs r => by rw [upd_ne (ntup c xs r)]; exact r
      rcases hc with rfl | hc
      · exact hbe
      · rintro rfl
        rcases he with z | z
        · exact nown c b hc z
        · rw [hc] at z; cases z; exact hb rfl
end
structure Un (fs ex : List Addr) (H H' : Hp) (h h' : Heap) : Prop where
  keep : ∀ b o, h.get? b = some o → H b = none → b ∉ fs → b ∉ ex → h'.get? b = some o
  slot : ∀ b o, h.get? b = some o → H b = none → b ∈ fs → b ∉ ex → ∃ sl, h'.get? b = some { o with slots := sl }
  free : ∀ b o, h.get? b = some o → H b = none → b ∉ ex → H' b = none
  there : ∀ b o, h.get? b = some o → b ∉ ex → ∃ o', h'.get? b = some o'
  tups : ∀ b xs, H b = some (.tup xs) → H' b = some (.tup xs)
  frzs : ∀ b o u, H b = some (.frz o u) → H' b = some (.frz o u)
  tbls : ∀ b ps, H b = some (.tbl ps) → ∃ more, H' b = some (.tbl (ps ++ more))
section
variable {fs fs' ex ex' : List Addr} {H H1 H2 : Hp} {h h1 h2 h' : Heap} {a x e : Addr} {o : HO}
theorem Un.any (u : Un fs ex H H1 h h1) {b : Addr} {ob : Obj} (q : h.get? b = some ob) (n : H b = none) (hx : b ∉ ex) : ∃ sl, h1.get? b = some { ob with slots := sl } := by
  by_cases hb : b ∈ fs
  · exact u.slot b ob q n hb hx
  · exact ⟨ob.slots, u.keep b ob q n hb hx⟩
theorem Un.kept (k : ∀ b u, h.get? b = some u → h'.get? b = some u) : Un fs ex H H h h' :=
  ⟨fun b ob q _ _ _ => k b ob q, fun b ob q _ _ _ => ⟨ob.slots, k b ob q⟩, fun _ _ _ n _ => n, fun b ob q _ => ⟨ob, k b ob q⟩, fun _ _ q => q, fun _ _ _ q => q, fun _ ps q => ⟨#[], by rw [q]; simp⟩⟩
theorem Un.refl : Un fs ex H H h h := Un.kept fun _ _ q => q
theorem Un.laid (k : ∀ b u, h.get? b = some u → h'.get? b = some u) (hp : h.objs.size ≤ a) (hn : H a = none) : Un fs ex H (upd H a o) h h' where
  keep := fun b u q _ _ _ => k b u q
  slot := fun b u q _ _ _ => ⟨u.slots, k b u q⟩
  free := fun b u q n _ => by rw [upd_ne (Nat.ne_of_lt (Nat.lt_of_lt_of_le (Heap.lt_size q) hp))]; exact n
  there := fun b u q _ => ⟨u, k b u q⟩
  tups := fun b xs q => by rw [upd_ne (ne_of_none q hn)]; exact q
  frzs := fun b u xs q => by rw [upd_ne (ne_of_none q hn)]; exact q
  tbls := fun b ps q => ⟨#[], by rw [upd_ne (ne_of_none q hn), q]; simp⟩
theorem Un.write (mu : Mut (H x)) (he : e = x ∨ H e = some (.own x)) (k : ∀ b u, b ≠ e → h.get? b = some u → h'.get? b = some u) (heo : ∃ u, h'.get? e = some u) : Un fs ex H (upd H x o) h h' := by
  have hx : ∀ b, H b = none → b ≠ x := fun b n z => by subst z; rw [n] at mu; exact mu
  have hb : ∀ b, H b = none → b ≠ e := fun b n z => by
    subst z
    rcases he with r | r
    · exact hx b n r
    · rw [n] at r; cases r
  have hm : ∀ b u, H b = some u → ¬ Mut (some u) → b ≠ x := fun b u q nm z => by subst z; rw [q] at mu; exact nm mu
  refine ⟨fun b u q n _ _ => k b u (hb b n) q, fun b u q n _ _ => ⟨u.slots, k b u (hb b n) q⟩, fun b u q n _ => by rw [upd_ne (hx b n)]; exact n, fun b u q _ => ?_,
    fun b xs q => by rw [upd_ne (hm b _ q fun z => z)]; exact q, fun b u xs q => by rw [upd_ne (hm b _ q fun z => z)]; exact q, fun b ps q => ⟨#[], by rw [upd_ne (hm b _ q fun z => z), q]; simp⟩⟩
  by_cases hbe : b = e
  · subst hbe; exact heo
  · exact ⟨u, k b u hbe q⟩
end
def trk (h : Heap) (H : Hp) : List Addr := (List.range h.objs.size).filter fun a => (H a).isSome
def hidT (h : Heap) (H : Hp) : Heap := PySem.W.hideAll h (trk h H)
theorem hidT_size (h : Heap) (H : Hp) : (hidT h H).objs.size = h.objs.size := PySem.W.hideAll_size _ _
theorem hidT_get {h : Heap} {H : Hp} {b : Addr} {o : Obj} (e : h.get? b = some o) (n : H b = none) : (hidT h H).get? b = some o :=
  PySem.W.hideAll_get _ e fun hm => by
    have q : (H b).isSome = true := (List.mem_filter.mp hm).2
    rw [n] at q; simp at q
theorem of_hidT {h : Heap} {H : Hp} {b : Addr} {o : Obj} (e : (hidT h H).get? b = some o) : h.get? b = some o ∧ H b = none := by
  have e' : h.get? b = some o := PySem.W.of_hideAll (trk h H) e
  refine ⟨e', ?_⟩
  cases q : H b with
  | none => rfl
  | some x =>
    have hm : b ∈ trk h H := List.mem_filter.mpr ⟨List.mem_range.mpr (Heap.lt_size e'), by simp [q]⟩
    have z : (hidT h H).get? b = none := PySem.W.hideAll_none (trk h H) hm
    rw [z] at e; cases e
end L2
namespace L2
open PySem PySem.Spec PyProof.Rows
structure Mod (K : PySem.W.Frag) (mg : Str → Option Value) (base : Heap) : Prop where
  kin : K.In base
  glob : base.Ns mainGlobals mg
  blt : ∃ mb, base.Ns builtinsNs mb ∧ ∀ x : Str, x ≠ "__name__" → mb x = bootBuiltins x
  nolimit : base.NoLimit
structure Cx where
  prog : Program
  w : World
  K : PySem.W.Frag
  mg : Str → Option Value
  base : Heap
  A : Around
  N : List Str
  s_0 : Shared
  H_0 : Hp
  env : Env
  outer : List Env
  stack : List Env
  ex : List Addr
  fn : Str → Bool
  calm : Bool
  pn : List (Addr × Obj)
  xe : Value → Shared → Prop
def frs (l : List Env) : List Addr := l.filterMap (·.frame)
abbrev Cx.fs (X : Cx) : List Addr := frs X.outer
def Vis (sc : Scope) (x : Str) : Prop := sc.names.lookup x = some .local ∨ sc.names.lookup x = some .cell ∨ sc.names.lookup x = some .free
def Loc (sc : Scope) (x : Str) : Prop := sc.names.lookup x = some .local ∨ sc.names.lookup x = some .cell
def Look (env : Env) (h : Heap) (m : Str → Option Value) (x : Str) (u : Value) : Prop :=
  (env.kindOf x = some .local ∧ m x = some u) ∨ ((env.kindOf x = some .cell ∨ env.kindOf x = some .free) ∧ ∃ c, env.cells.lookup x = some c ∧ h.IsCell c (some u))
structure Cx.Ok (X : Cx) : Prop where
  mod : Mod X.K X.mg X.base
  kind : X.env.scope.kind = .function
  glob : X.env.globals = mainGlobals
  blt : X.env.builtins = builtinsNs
  above : X.s_0.heap.objs.size ≤ X.env.locals
  inj : ∀ x y c, X.env.cells.lookup x = some c → X.env.cells.lookup y = some c → x = y
  has : ∀ x, (X.env.kindOf x = some .cell ∨ X.env.kindOf x = some .free) → ∃ c, X.env.cells.lookup x = some c
  cab : ∀ x c, X.fn x = true → X.env.cells.lookup x = some c → X.s_0.heap.objs.size ≤ c
  hd : X.calm = true → X.A.handled = none
  frames : X.A.frames = some X.stack
  stk : X.stack = X.outer ∨ (X.stack = X.env :: X.outer ∧ X.env.frame = some X.env.locals)
  exf : ∀ b ∈ X.ex, b ≠ X.env.locals ∧ ∀ x c, X.env.cells.lookup x = some c → c ≠ b
  bs : ∀ b o, X.base.get? b = some o → X.s_0.heap.get? b = some o ∧ X.H_0 b = none
  bsz : X.base.objs.size ≤ X.s_0.heap.objs.size
  noex : ∀ b o, X.base.get? b = some o → b ∉ X.ex
  exfs : ∀ b ∈ X.ex, b ∉ X.fs
  funs : X.s_0.heap.FunFrames X.base X.outer
  frf : ∀ b ∈ X.fs, X.H_0 b = none
structure Inv (X : Cx) (pins : List (Addr × Obj)) (σ : List (Option V)) (H : Hp) (s : Shared) : Prop where
  ok : X.Ok
  os : s.os = X.s_0.os
  bare : AllBare s.gens
  base : Un X.fs X.ex X.H_0 H X.s_0.heap s.heap
  loc : ∃ m, s.heap.Ns X.env.locals m ∧ ∀ (i : Nat) (x : Str) (v : V), X.N[i]? = some x → σ[i]? = some (some v) → Vis X.env.scope x → ∃ u, RelV v u ∧ Look X.env s.heap m x u
  cell : ∀ x c, X.env.cells.lookup x = some c → ∃ v, s.heap.IsCell c v
  free : H X.env.locals = none
  freeC : ∀ x c, X.env.cells.lookup x = some c → H c = none
  pin : ∀ p ∈ X.pn ++ pins, s.heap.get? p.1 = some p.2 ∧ H p.1 = none ∧ p.1 ≠ X.env.locals ∧ p.1 ∉ X.fs ∧ ∀ v, p.2.data ≠ .cell v
  hok : HOk X.prog X.w H s.heap
  len : σ.length = X.N.length
section
variable {X : Cx} {pins : List (Addr × Obj)} {σ : List (Option V)} {H H' : Hp} {s : Shared} {h' : Heap}
theorem Cx.Ok.nofr (ok : X.Ok) {b : Addr} {o : Obj} (e : X.base.get? b = some o) : b ∉ X.fs := fun hb => by
  have := (ok.funs.mem hb).1
  rw [e] at this; cases this
theorem Inv.bs (I : Inv X pins σ H s) : ∀ b o, X.base.get? b = some o → s.heap.get? b = some o ∧ H b = none := fun b o e =>
  ⟨I.base.keep b o (I.ok.bs b o e).1 (I.ok.bs b o e).2 (I.ok.nofr e) (I.ok.noex b o e), I.base.free b o (I.ok.bs b o e).1 (I.ok.bs b o e).2 (I.ok.noex b o e)⟩
theorem Inv.bk (I : Inv X pins σ H s) : ∀ b o, X.base.get? b = some o → s.heap.get? b = some o := fun b o e => (I.bs b o e).1
theorem Inv.mod (I : Inv X pins σ H s) : Mod X.K X.mg X.base := I.ok.mod
theorem Inv.kIn (I : Inv X pins σ H s) : X.K.In s.heap := I.ok.mod.kin.keeps I.bk
theorem Inv.lt (I : Inv X pins σ H s) : X.env.locals < s.heap.objs.size := let ⟨_, hn, _⟩ := I.loc; hn.lt
theorem Inv.sz (I : Inv X pins σ H s) : X.s_0.heap.objs.size ≤ s.heap.objs.size := Nat.le_trans I.ok.above (Nat.le_of_lt I.lt)
theorem Inv.nofs (I : Inv X pins σ H s) {a : Addr} (h : s.heap.objs.size ≤ a) : a ∉ X.fs := fun hb => by
  obtain ⟨_, o, ho, _⟩ := I.ok.funs.mem hb
  exact absurd (Nat.lt_of_lt_of_le (Heap.lt_size ho) (Nat.le_trans I.sz h)) (Nat.lt_irrefl _)
theorem Inv.cne (I : Inv X pins σ H s) : ∀ x c, X.env.cells.lookup x = some c → c ≠ X.env.locals := fun x c e z => by
  obtain ⟨v, o, ho, hd⟩ := I.cell x c e
  obtain ⟨m, ⟨o', es, ep, ho', hd', _⟩, _⟩ := I.loc
  rw [z, ho'] at ho; cases ho; rw [hd'] at hd; cases hd
theorem Inv.funs (I : Inv X pins σ H s) : s.heap.FunFrames X.base X.outer := by
  have all : ∀ (l : List Env), (∀ b ∈ frs l, b ∈ X.fs) → X.s_0.heap.FunFrames X.base l → s.heap.FunFrames X.base l := by
    intro l
    induction l with
    | nil => intro _ _; trivial
    | cons env r ih =>
      intro hs hl
      obtain ⟨hk, ⟨L, o, hf, hn, ho, hd⟩, hr⟩ := hl
      have hL : L ∈ X.fs := hs L (by unfold frs; rw [List.filterMap_cons, hf]; exact List.mem_cons_self)
      obtain ⟨sl, e⟩ := I.base.slot L o ho (I.ok.frf L hL) hL fun z => I.ok.exfs L z hL
      exact ⟨hk, ⟨L, _, hf, hn, e, hd⟩, ih (fun b hb => hs b (by unfold frs; rw [List.filterMap_cons, hf]; exact List.mem_cons_of_mem _ hb)) hr⟩
  exact all X.outer (fun _ hb => hb) I.ok.funs
theorem Inv.stack (I : Inv X pins σ H s) : s.heap.FunFrames X.base X.stack := by
  rcases I.ok.stk with e | ⟨e, hf⟩
  · rw [e]; exact I.funs
  · rw [e]
    obtain ⟨m, hn, _⟩ := I.loc
    refine .cons (by rw [I.ok.kind]; decide) hf hn ?_ I.funs
    exact Heap.get?_none_of_le (Nat.le_trans I.ok.bsz I.ok.above)
theorem Inv.stkSub (I : Inv X pins σ H s) : ∀ b ∈ frs X.stack, b ∈ X.env.locals :: X.fs := fun b hb => by
  rcases I.ok.stk with e | ⟨e, hf⟩
  · rw [e] at hb; exact List.mem_cons_of_mem _ hb
  · rw [e] at hb
    unfold frs at hb
    rw [List.filterMap_cons, hf] at hb
    exact hb
theorem Inv.stkFree (I : Inv X pins σ H s) : ∀ b ∈ frs X.stack, H b = none := fun b hb => by
  rcases List.mem_cons.mp (I.stkSub b hb) with e | hb
  · rw [e]; exact I.free
  · obtain ⟨_, o, ho, _⟩ := I.ok.funs.mem hb
    exact I.base.free b o ho (I.ok.frf b hb) fun z => I.ok.exfs b z hb
theorem Inv.step {g' : Array GenState} {t' : Nat} {d' : Drawn} {ch : List Addr} (I : Inv X pins σ H s)
    (hch : ∀ b ∈ ch, (b ∈ X.ex ∨ X.s_0.heap.objs.size ≤ b) ∧ b ≠ X.env.locals ∧ (∀ x c, X.env.cells.lookup x = some c → c ≠ b) ∧ ∀ p ∈ X.pn ++ pins, p.1 ≠ b)
    (keep : ∀ b o, b ≠ X.env.locals → b ∉ X.fs → b ∉ ch → s.heap.get? b = some o → H b = none → h'.get? b = some o)
    (slot : ∀ b o, b ≠ X.env.locals → b ∈ X.fs → b ∉ ch → s.heap.get? b = some o → H b = none → ∃ sl, h'.get? b = some { o with slots := sl }) (free : ∀ b o, b ∉ ch → s.heap.get? b = some o → H b = none → H' b = none)
    (there : ∀ b o, b ∉ ch → s.heap.get? b = some o → ∃ o', h'.get? b = some o')
    (tups : ∀ b xs, H b = some (.tup xs) → H' b = some (.tup xs)) (frzs : ∀ b o u, H b = some (.frz o u) → H' b = some (.frz o u)) (tbls : ∀ b ps, H b = some (.tbl ps) → ∃ more, H' b = some (.tbl (ps ++ more)))
    (ns : ∀ m, s.heap.Ns X.env.locals m → h'.Ns X.env.locals m) (hok : HOk X.prog X.w H' h') (hg : AllBare g') :
    Inv X pins σ H' { s with heap := h', gens := g', drawn := d', toks := t' } := by
  have neL : ∀ b o, X.s_0.heap.get? b = some o → b ≠ X.env.locals := fun b o e => Nat.ne_of_lt (Nat.lt_of_lt_of_le (Heap.lt_size e) I.ok.above)
  have neC : ∀ b o, X.s_0.heap.get? b = some o → b ∉ X.ex → b ∉ ch := fun b o e hx hb => by
    rcases (hch b hb).1 with z | z
    · exact hx z
    · exact absurd (Nat.lt_of_lt_of_le (Heap.lt_size e) z) (Nat.lt_irrefl _)
  have cellK : ∀ x c, X.env.cells.lookup x = some c → ∀ v, s.heap.IsCell c v → h'.IsCell c v := fun x c e v ⟨o, ho, hd⟩ => by
    have nch : c ∉ ch := fun z => (hch c z).2.2.1 x c e rfl
    by_cases hc : c ∈ X.fs
    · obtain ⟨sl, q⟩ := slot c o (I.cne x c e) hc nch ho (I.freeC x c e)
      exact ⟨_, q, hd⟩
    · exact ⟨o, keep c o (I.cne x c e) hc nch ho (I.freeC x c e), hd⟩
  refine ⟨I.ok, I.os, hg, ⟨fun b o e n hb hx => ?_, fun b o e n hb hx => ?_, fun b o e n hx => ?_, fun b o e hx => ?_, fun b xs e => tups b xs (I.base.tups b xs e), fun b o xs e => frzs b o xs (I.base.frzs b o xs e), fun b ps e => ?_⟩, ?_, fun x c e => ?_, ?_, fun x c e => ?_, fun p hp => ?_, hok, I.len⟩
  · exact keep b o (neL b o e) hb (neC b o e hx) (I.base.keep b o e n hb hx) (I.base.free b o e n hx)
  · obtain ⟨sl, e1⟩ := I.base.slot b o e n hb hx
    obtain ⟨sl', e2⟩ := slot b _ (neL b o e) hb (neC b o e hx) e1 (I.base.free b o e n hx)
    exact ⟨sl', e2⟩
  · obtain ⟨o', e1⟩ := I.base.there b o e hx
    exact free b o' (neC b o e hx) e1 (I.base.free b o e n hx)
  · obtain ⟨o', e1⟩ := I.base.there b o e hx
    exact there b o' (neC b o e hx) e1
  · obtain ⟨m1, e1⟩ := I.base.tbls b ps e
    obtain ⟨m2, e2⟩ := tbls b _ e1
    exact ⟨m1 ++ m2, by rw [e2, Array.append_assoc]⟩
  · obtain ⟨m, hn, hl⟩ := I.loc
    refine ⟨m, ns m hn, fun i x v e1 e2 e3 => ?_⟩
    obtain ⟨u, r, l⟩ := hl i x v e1 e2 e3
    refine ⟨u, r, ?_⟩
    rcases l with l | ⟨k, c, e, z⟩
    · exact .inl l
    · exact .inr ⟨k, c, e, cellK x c e _ z⟩
  · obtain ⟨v, z⟩ := I.cell x c e
    exact ⟨v, cellK x c e v z⟩
  · obtain ⟨m, ⟨o, _, _, ho, _⟩, _⟩ := I.loc
    exact free _ o (fun z => (hch _ z).2.1 rfl) ho I.free
  · obtain ⟨v, o, ho, hd⟩ := I.cell x c e
    exact free c o (fun z => (hch c z).2.2.1 x c e rfl) ho (I.freeC x c e)
  · obtain ⟨e, n, ne, nf, d⟩ := I.pin p hp
    have nch : p.1 ∉ ch := fun z => (hch p.1 z).2.2.2 p hp rfl
    exact ⟨keep p.1 p.2 ne nf nch e n, free p.1 p.2 nch e n, ne, nf, d⟩
theorem Inv.un {t' : Nat} (I : Inv X pins σ H s) (u : Un X.fs [] H H' s.heap h') (hok : HOk X.prog X.w H' h') : Inv X pins σ H' { s with heap := h', toks := t' } := by
  obtain ⟨m, ⟨o, es, ep, ho, r⟩, _⟩ := id I.loc
  obtain ⟨sl, hL⟩ := u.any ho I.free (by simp)
  exact I.step (g' := s.gens) (d' := s.drawn) (ch := []) (fun _ z => nomatch z) (fun b o _ hb _ e n => u.keep b o e n hb (by simp)) (fun b o _ hb _ e n => u.slot b o e n hb (by simp)) (fun b o _ e n => u.free b o e n (by simp)) (fun b o _ e => u.there b o e (by simp)) u.tups u.frzs u.tbls (fun m' hm => by
    obtain ⟨o', es', ep', ho', r'⟩ := hm
    rw [ho] at ho'; cases ho'
    exact ⟨_, es', ep', hL, r'⟩) hok I.bare
theorem Inv.call {g' : Array GenState} {t' : Nat} {d' : Drawn} {ch : List Addr} (I : Inv X pins σ H s) (u : Un (frs X.stack) ch H H' s.heap h') (hok : HOk X.prog X.w H' h') (hg : AllBare g')
    (hch : ∀ b ∈ ch, (b ∈ X.ex ∨ X.s_0.heap.objs.size ≤ b) ∧ b ≠ X.env.locals ∧ (∀ x c, X.env.cells.lookup x = some c → c ≠ b) ∧ ∀ p ∈ X.pn ++ pins, p.1 ≠ b) :
    Inv X pins σ H' { s with heap := h', gens := g', drawn := d', toks := t' } := by
  obtain ⟨m, ⟨o, es, ep, ho, r⟩, _⟩ := id I.loc
  obtain ⟨sl, hL⟩ := u.any ho I.free fun z => (hch _ z).2.1 rfl
  exact I.step (ch := ch) hch (fun b o hL hb hc e n => u.keep b o e n (fun z => (List.mem_cons.mp (I.stkSub b z)).elim hL hb) hc) (fun b o _ _ hc e n => u.any e n hc) (fun b o hc e n => u.free b o e n hc) (fun b o hc e => u.there b o e hc) u.tups u.frzs u.tbls (fun m' hm => by
    obtain ⟨o', es', ep', ho', r'⟩ := hm
    rw [ho] at ho'; cases ho'
    exact ⟨_, es', ep', hL, r'⟩) hok hg
theorem Inv.turned {t' : Nat} {it : Addr} (I : Inv X pins σ H s) (k : ∀ b o, b ≠ it → s.heap.get? b = some o → h'.get? b = some o) (hn : H it = none) (hL : it ≠ X.env.locals)
    (h1 : it ∈ X.ex ∨ X.s_0.heap.objs.size ≤ it) (h2 : ∀ x c, X.env.cells.lookup x = some c → c ≠ it) (h3 : ∀ p ∈ X.pn ++ pins, p.1 ≠ it) : Inv X pins σ H { s with heap := h', toks := t' } := by
  have nit : ∀ b u, H b = some u → b ≠ it := fun b u e z => by rw [z, hn] at e; cases e
  refine I.step (g' := s.gens) (d' := s.drawn) (ch := [it]) (fun b hb => ?_) (fun b o _ _ hc e _ => k b o (fun z => hc (by simp [z])) e) (fun b o _ _ hc e _ => ⟨o.slots, k b o (fun z => hc (by simp [z])) e⟩) (fun _ _ _ _ n => n)
    (fun b o hc e => ⟨o, k b o (fun z => hc (by simp [z])) e⟩) (fun _ _ e => e) (fun _ _ _ e => e) (fun b ps e => ⟨#[], by rw [e]; simp⟩) (fun m hm => ?_) (fun b u e => ?_) I.bare
  · have e : b = it := by simpa using hb
    subst e
    exact ⟨h1, hL, h2, h3⟩
  · obtain ⟨o, es, ep, ho, r⟩ := hm
    exact ⟨o, es, ep, k _ o (Ne.symm hL) ho, r⟩
  · refine (I.hok b u e).stay (fun c v hc q => k c v ?_ q) (fun _ q => q) fun _ _ q => q
    rcases hc with z | z
    · rw [z]; exact nit b u e
    · exact nit c _ z
theorem Inv.tok (I : Inv X pins σ H s) (t : Nat) : Inv X pins σ H { s with toks := t } := I.un (h' := s.heap) (t' := t) Un.refl I.hok
theorem Inv.kept {t' : Nat} (I : Inv X pins σ H s) (k : ∀ b u, s.heap.get? b = some u → h'.get? b = some u) : Inv X pins σ H { s with heap := h', toks := t' } := I.un (Un.kept k) (I.hok.kept k)
theorem Inv.laid {a : Addr} {o : HO} {t' : Nat} (I : Inv X pins σ H s) (k : ∀ b u, s.heap.get? b = some u → h'.get? b = some u) (hp : s.heap.objs.size ≤ a) (new : ObjOk X.prog X.w (upd H a o) h' a o) :
    Inv X pins σ (upd H a o) { s with heap := h', toks := t' } := I.un (Un.laid k hp (I.hok.fresh hp)) (I.hok.laid k hp new)
theorem Inv.write {x e : Addr} {o : HO} {t' : Nat} (I : Inv X pins σ H s) (mu : Mut (H x)) (he : e = x ∨ H e = some (.own x)) (k : ∀ b u, b ≠ e → s.heap.get? b = some u → h'.get? b = some u) (heo : ∃ u, h'.get? e = some u)
    (new : ObjOk X.prog X.w (upd H x o) h' x o) : Inv X pins σ (upd H x o) { s with heap := h', toks := t' } := I.un (Un.write mu he k heo) (I.hok.write mu he k heo new)
theorem Inv.weak {σ' : List (Option V)} (I : Inv X pins σ H s) (hl : σ'.length = σ.length) (w : ∀ (i : Nat) v, σ'[i]? = some (some v) → σ[i]? = some (some v)) : Inv X pins σ' H s :=
  ⟨I.ok, I.os, I.bare, I.base, let ⟨m, hn, hl'⟩ := I.loc; ⟨m, hn, fun i x v e1 e2 e3 => hl' i x v e1 (w i v e2) e3⟩, I.cell, I.free, I.freeC, I.pin, I.hok, hl.trans I.len⟩
theorem Inv.pins_of {pins' : List (Addr × Obj)} (I : Inv X pins σ H s) (h : ∀ p ∈ pins', s.heap.get? p.1 = some p.2 ∧ H p.1 = none ∧ p.1 ≠ X.env.locals ∧ p.1 ∉ X.fs ∧ ∀ v, p.2.data ≠ .cell v) : Inv X pins' σ H s :=
  ⟨I.ok, I.os, I.bare, I.base, I.loc, I.cell, I.free, I.freeC, fun p hp => (List.mem_append.mp hp).elim (fun z => I.pin p (List.mem_append_left _ z)) (h p), I.hok, I.len⟩
theorem nodup_ix {N : List Str} (hN : N.Nodup) {i j : Nat} {x : Str} (a : N[i]? = some x) (b : N[j]? = some x) : i = j := by
  obtain ⟨h1, e1⟩ := List.getElem?_eq_some_iff.mp a
  obtain ⟨h2, e2⟩ := List.getElem?_eq_some_iff.mp b
  exact (List.getElem_inj hN).mp (e1.trans e2.symm)
theorem store_ok2 {M : Model} {A : Around} {E : Value → Shared → Prop} {i : Nat} {x : Str} {v : V} {u : Value} {Q : Unit → Shared → Prop} (I : Inv X pins σ H s) (hN : X.N.Nodup) (hi : X.N[i]? = some x) (hx : Loc X.env.scope x) (r : RelV v u)
    (h : ∀ s', Inv X pins (σ.set i (some v)) H s' → (∃ a, Heap.SameBut a s.heap s'.heap ∧ (a = X.env.locals ∨ X.env.cells.lookup x = some a)) → Q () s') (hf : X.fn x = true ∨ X.env.scope.names.lookup x = some .local := by first | exact .inl rfl | exact .inr rfl | assumption) : wpAny M A (storeName X.env x u) Q E s := by
  obtain ⟨m, hn, hl⟩ := id I.loc
  have hcls : (X.env.scope.kind == .class || (X.env.scope.kind == .module && X.env.locals != X.env.globals)) = false := by rw [I.ok.kind]; rfl
  have hiσ : i < σ.length := by rw [I.len]; exact (List.getElem?_eq_some_iff.mp hi).1
  have cne := I.cne
  have tracked : ∀ {a : Addr} {h' : Heap}, (∃ o, s.heap.get? a = some o ∧ H a = none) → Heap.SameBut a s.heap h' → HOk X.prog X.w H h' := fun {a h'} ha hs b ob e => by
    obtain ⟨_, _, hfree⟩ := ha
    refine (I.hok b ob e).stay (fun c w' hc q => (hs.2 c ?_).trans q) (fun _ q => q) fun _ _ q => q
    rintro rfl
    rcases hc with rfl | hc
    · rw [hfree] at e; cases e
    · rw [hfree] at hc; cases hc
  rcases hx with hk | hk
  · refine wpAny_storeName_local hk hn (fun h' hn' hs => ?_) hcls
    obtain ⟨oL, _, _, hoL, _⟩ := id hn
    refine h _ ⟨I.ok, I.os, I.bare, ⟨fun b o e n hb hx => ?_, fun b o e n hb hx => ?_, I.base.free, fun b o e hx => ?_, I.base.tups, I.base.frzs, I.base.tbls⟩, ⟨_, hn', fun j y v' e1 e2 e3 => ?_⟩, fun y c e => ?_, I.free, I.freeC, fun p hp => ?_, tracked ⟨oL, hoL, I.free⟩ hs, by simpa using I.len⟩ ⟨_, hs, .inl rfl⟩
    · exact (hs.2 b (Nat.ne_of_lt (Nat.lt_of_lt_of_le (Heap.lt_size e) I.ok.above))).trans (I.base.keep b o e n hb hx)
    · obtain ⟨sl, e1⟩ := I.base.slot b o e n hb hx
      exact ⟨sl, (hs.2 b (Nat.ne_of_lt (Nat.lt_of_lt_of_le (Heap.lt_size e) I.ok.above))).trans e1⟩
    · obtain ⟨o', e1⟩ := I.base.there b o e hx
      exact ⟨o', (hs.2 b (Nat.ne_of_lt (Nat.lt_of_lt_of_le (Heap.lt_size e) I.ok.above))).trans e1⟩
    · by_cases hj : j = i
      · subst hj
        rw [hi] at e1; cases e1
        rw [List.getElem?_set_self hiσ] at e2
        cases e2
        exact ⟨u, r, .inl ⟨hk, by simp⟩⟩
      · rw [List.getElem?_set_ne (Ne.symm hj)] at e2
        obtain ⟨u', r', q⟩ := hl j y v' e1 e2 e3
        refine ⟨u', r', ?_⟩
        rcases q with ⟨k, e⟩ | ⟨k, c, e, z⟩
        · refine .inl ⟨k, ?_⟩
          have : y ≠ x := fun e => hj (nodup_ix hN e1 (e ▸ hi))
          simp [this, e]
        · exact .inr ⟨k, c, e, z.sameBut hs (cne y c e)⟩
    · obtain ⟨w', z⟩ := I.cell y c e
      exact ⟨w', z.sameBut hs (cne y c e)⟩
    · obtain ⟨e, n, ne, nf, d⟩ := I.pin p hp
      exact ⟨(hs.2 p.1 ne).trans e, n, ne, nf, d⟩
  · have hfn : X.fn x = true := by
      rcases hf with z | z
      · exact z
      · rw [z] at hk; cases hk
    obtain ⟨c, hc⟩ := I.ok.has x (.inl hk)
    obtain ⟨w', z⟩ := I.cell x c hc
    refine wpAny_storeName_cell I.ok.kind hk hc z (fun h' hc' hs => ?_)
    obtain ⟨oc, hoc, hocd⟩ := id z
    refine h { s with heap := h' } ⟨I.ok, I.os, I.bare, ⟨fun b o e n hb hx => ?_, fun b o e n hb hx => ?_, I.base.free, fun b o e hx => ?_, I.base.tups, I.base.frzs, I.base.tbls⟩, ⟨m, hn.sameBut hs (Ne.symm (cne x c hc)), fun j y v' e1 e2 e3 => ?_⟩, fun y c' e => ?_, I.free, I.freeC, fun p hp => ?_, tracked ⟨oc, hoc, I.freeC x c hc⟩ hs, by simpa using I.len⟩ ⟨c, hs, .inr hc⟩
    · exact (hs.2 b (Nat.ne_of_lt (Nat.lt_of_lt_of_le (Heap.lt_size e) (I.ok.cab x c hfn hc)))).trans (I.base.keep b o e n hb hx)
    · obtain ⟨sl, e1⟩ := I.base.slot b o e n hb hx
      exact ⟨sl, (hs.2 b (Nat.ne_of_lt (Nat.lt_of_lt_of_le (Heap.lt_size e) (I.ok.cab x c hfn hc)))).trans e1⟩
    · obtain ⟨o', e1⟩ := I.base.there b o e hx
      exact ⟨o', (hs.2 b (Nat.ne_of_lt (Nat.lt_of_lt_of_le (Heap.lt_size e) (I.ok.cab x c hfn hc)))).trans e1⟩
    · by_cases hj : j = i
      · subst hj
        rw [hi] at e1; cases e1
        rw [List.getElem?_set_self hiσ] at e2
        cases e2
        exact ⟨u, r, .inr ⟨.inl hk, c, hc, hc'⟩⟩
      · rw [List.getElem?_set_ne (Ne.symm hj)] at e2
        obtain ⟨u', r', q⟩ := hl j y v' e1 e2 e3
        refine ⟨u', r', ?_⟩
        rcases q with q | ⟨k, c', e, z'⟩
        · exact .inl q
        · refine .inr ⟨k, c', e, z'.sameBut hs ?_⟩
          rintro rfl
          exact hj (nodup_ix hN e1 (I.ok.inj _ _ _ e hc ▸ hi))
    · by_cases hcc : c' = c
      · subst hcc; exact ⟨_, hc'⟩
      · obtain ⟨w2, z2⟩ := I.cell y c' e
        exact ⟨w2, z2.sameBut hs hcc⟩
    · obtain ⟨e, n, ne, nf, d⟩ := I.pin p hp
      refine ⟨(hs.2 p.1 ?_).trans e, n, ne, nf, d⟩
      intro q
      rw [q, hoc] at e
      have q' : oc = p.2 := Option.some.inj e
      exact d w' (by rw [← q']; exact hocd)
theorem store_ok {M : Model} {A : Around} {E : Value → Shared → Prop} {i : Nat} {x : Str} {v : V} {u : Value} {Q : Unit → Shared → Prop} (I : Inv X pins σ H s) (hN : X.N.Nodup) (hi : X.N[i]? = some x) (hx : Loc X.env.scope x) (r : RelV v u)
    (h : ∀ s', Inv X pins (σ.set i (some v)) H s' → Q () s') (hf : X.fn x = true ∨ X.env.scope.names.lookup x = some .local := by first | exact .inl rfl | exact .inr rfl | assumption) : wpAny M A (storeName X.env x u) Q E s :=
  store_ok2 I hN hi hx r (fun s' I' _ => h s' I') hf
theorem Inv.call' {s' : Shared} {ch : List Addr} (I : Inv X pins σ H s) (ho : s'.os = s.os) (u : Un (frs X.stack) ch H H' s.heap s'.heap) (hok : HOk X.prog X.w H' s'.heap) (hg : AllBare s'.gens)
    (hch : ∀ b ∈ ch, (b ∈ X.ex ∨ X.s_0.heap.objs.size ≤ b) ∧ b ≠ X.env.locals ∧ (∀ x c, X.env.cells.lookup x = some c → c ≠ b) ∧ ∀ p ∈ X.pn ++ pins, p.1 ≠ b) : Inv X pins σ H' s' := by
  obtain ⟨h', g', d', t', o'⟩ := s'
  have e : o' = s.os := ho
  subst e
  exact I.call (g' := g') (t' := t') (d' := d') u hok hg hch
end
abbrev XK := Value → Option Addr → Hp → Prop
abbrev St := List (Option V)
abbrev VK := V → Hp → Prop
abbrev TE := St → Hp → VK → Prop
abbrev TT := St → Hp → (Bool → Hp → Prop) → Prop
abbrev TA := St → Hp → (List V → Hp → Prop) → Prop
structure Ends where
  nx : St → Hp → Prop
  rt : VK
  bk : St → Hp → Prop := fun _ _ => False
  ct : St → Hp → Prop := fun _ _ => False
abbrev TS := Ends → St → Hp → Prop
def EP (X : Cx) (pins : List (Addr × Obj)) (σ : St) (Q : VK) (u : Value) (s' : Shared) : Prop := ∃ v H', Inv X pins σ H' s' ∧ RelV v u ∧ Q v H'
def TP (X : Cx) (pins : List (Addr × Obj)) (σ : St) (Q : Bool → Hp → Prop) (b : Bool) (s' : Shared) : Prop := ∃ H', Inv X pins σ H' s' ∧ Q b H'
def AP (X : Cx) (pins : List (Addr × Obj)) (σ : St) (Q : List V → Hp → Prop) (us : List Value) (s' : Shared) : Prop := ∃ vs H', Inv X pins σ H' s' ∧ Vals vs us ∧ Q vs H'
def SP (X : Cx) (pins : List (Addr × Obj)) (D : Ends) (f : Flow) (s' : Shared) : Prop :=
  match f with
  | .next => ∃ σ' H', Inv X pins σ' H' s' ∧ D.nx σ' H'
  | .brk => ∃ σ' H', Inv X pins σ' H' s' ∧ D.bk σ' H'
  | .cont => ∃ σ' H', Inv X pins σ' H' s' ∧ D.ct σ' H'
  | .ret u => ∃ v σ' H', Inv X pins σ' H' s' ∧ RelV v u ∧ D.rt v H'
def PE (X : Cx) (e : Expr) (t : TE) : Prop :=
  ∀ (pins : List (Addr × Obj)) (s : Shared) (σ : St) (H : Hp) (Q : VK), Inv X pins σ H s → t σ H Q → wpAny (model X.prog X.w) X.A (eval e X.env) (EP X pins σ Q) X.xe s
def PT (X : Cx) (e : Expr) (t : TT) : Prop :=
  ∀ (pins : List (Addr × Obj)) (s : Shared) (σ : St) (H : Hp) (Q : Bool → Hp → Prop), Inv X pins σ H s → t σ H Q → wpAny (model X.prog X.w) X.A (isTrue e X.env (eval e X.env)) (TP X pins σ Q) X.xe s
def PW (X : Cx) (e : Expr) (t : TT) : Prop :=
  ∀ (whole : Sem Value) (pins : List (Addr × Obj)) (s : Shared) (σ : St) (H : Hp) (Q : Bool → Hp → Prop), Inv X pins σ H s → t σ H Q → wpAny (model X.prog X.w) X.A (isTrue e X.env whole) (TP X pins σ Q) X.xe s
theorem PW.pt {X : Cx} {e : Expr} {t : TT} (h : PW X e t) : PT X e t := h _
def PA (X : Cx) (es : List Expr) (t : TA) : Prop :=
  ∀ (pos : Pos) (pins : List (Addr × Obj)) (s : Shared) (σ : St) (H : Hp) (Q : List V → Hp → Prop), Inv X pins σ H s → t σ H Q → wpAny (model X.prog X.w) X.A (spliced (backTo pos (starEach es X.env))) (AP X pins σ Q) X.xe s
def PS (X : Cx) (st : Stmt) (t : TS) : Prop :=
  ∀ (pins : List (Addr × Obj)) (s : Shared) (σ : St) (H : Hp) (D : Ends), Inv X pins σ H s → t D σ H → wpAny (model X.prog X.w) X.A (exec st X.env) (SP X pins D) X.xe s
def PSs (X : Cx) (st : List Stmt) (t : TS) : Prop :=
  ∀ (pins : List (Addr × Obj)) (s : Shared) (σ : St) (H : Hp) (D : Ends), Inv X pins σ H s → t D σ H → wpAny (model X.prog X.w) X.A (execs st X.env) (SP X pins D) X.xe s
theorem thn {α : Type} {t : Sem α} {Q Q' : α → Shared → Prop} {M : Model} {A : Around} {E : Value → Shared → Prop} {s : Shared} (h : wpAny M A t Q E s) (hQ : ∀ a s, Q a s → Q' a s) : wpAny M A t Q' E s := wpAny_mono h hQ fun _ _ x => x
end L2
namespace L2
open PySem PySem.Spec PyProof.Rows
section
variable {X : Cx}
def tVar (i : Nat) : TE := fun σ H Q => ∃ v, σ[i]? = some (some v) ∧ Q v H
def tC (v : V) : TE := fun _ H Q => Q v H
theorem pe_var {i : Nat} {x : Str} {pos : Pos} (hN : X.N[i]? = some x) (hv : Vis X.env.scope x) (hd : (x == ("__debug__" : Str)) = false := by decide) (hcd : (x == ("__classdict__" : Str)) = false := by decide) : PE X (.Name x pos) (tVar i) := by
  intro pins s σ H Q I h
  obtain ⟨v, e, h⟩ := h
  obtain ⟨m, hn, hl⟩ := I.loc
  obtain ⟨u, r, l⟩ := hl i x v hN e hv
  have fin : EP X pins σ Q u s := ⟨v, H, I, r, h⟩
  rcases l with ⟨hk, hm⟩ | ⟨hk, c, hc, hcell⟩
  · exact wpAny_Name (wpAny_loadName_local I.ok.kind hk hn hm fin) hd
  · rcases hk with hk | hk
    · exact wpAny_Name (wpAny_loadName_cell I.ok.kind hk hc hcell fin) hd
    · exact wpAny_Name (wpAny_loadName_free I.ok.kind hk hc hcell fin hcd) hd
theorem pe_int {i j pos} : PE X (.Constant (.int i) j pos) (tC (.int i)) := fun _ _ _ H _ I h => wpAny_Constant_int ⟨.int i, H, I.tok _, ⟨_, rfl⟩, h⟩
theorem pe_bl {b j pos} : PE X (.Constant (.bool b) j pos) (tC (.bl b)) := fun _ _ _ H _ I h => Constant_bool ⟨.bl b, H, I, rfl, h⟩
theorem pe_non {j pos} : PE X (.Constant .none j pos) (tC .non) := fun _ _ _ H _ I h => Constant_none ⟨.non, H, I, rfl, h⟩
def Gl (X : Cx) (x : Str) : Prop := X.env.kindOf x = some .globalImplicit
theorem ld_glob {E : Value → Shared → Prop} {pins : List (Addr × Obj)} {s : Shared} {σ : St} {H : Hp} {x : Str} {u : Value} {pos : Pos} {Q : Value → Shared → Prop} (I : Inv X pins σ H s) (hg : Gl X x) (hm : X.mg x = some u) (h : Q u s)
    (hd : (x == ("__debug__" : Str)) = false := by decide) : wpAny (model X.prog X.w) X.A (eval (.Name x pos) X.env) Q E s :=
  Calls.Name_function_global I.ok.kind hg (Calls.loadGlobal_global (by rw [I.ok.glob]; exact I.mod.glob.keeps I.bk) hm h) hd
theorem ld_blt {E : Value → Shared → Prop} {pins : List (Addr × Obj)} {s : Shared} {σ : St} {H : Hp} {x : Str} {u : Value} {pos : Pos} {Q : Value → Shared → Prop} (I : Inv X pins σ H s) (hg : Gl X x) (hm : X.mg x = none) (hv : bootBuiltins x = some u) (h : Q u s)
    (hn : x ≠ "__name__" := by decide) (hd : (x == ("__debug__" : Str)) = false := by decide) : wpAny (model X.prog X.w) X.A (eval (.Name x pos) X.env) Q E s := by
  obtain ⟨mb, h1, h2⟩ := I.mod.blt
  exact Calls.Name_function_global I.ok.kind hg (Calls.loadGlobal_builtin (by rw [I.ok.glob]; exact I.mod.glob.keeps I.bk) hm (by rw [I.ok.blt]; exact h1.keeps I.bk) ((h2 x hn).trans hv) h) hd
theorem pe_glob {x : Str} {v : V} {u : Value} {pos : Pos} (hg : Gl X x) (hm : X.mg x = some u) (r : RelV v u) (hd : (x == ("__debug__" : Str)) = false := by decide) : PE X (.Name x pos) (tC v) :=
  fun _ _ _ H _ I h => ld_glob I hg hm ⟨v, H, I, r, h⟩ hd
variable {a b : Expr} {ta tb : TE} {pos : Pos}
def tB (t : TE) : TT := fun σ H Q => t σ H fun x H1 => ∃ c, x = .bl c ∧ Q c H1
theorem pt_val {e : Expr} {t : TE} (h : PE X e t) (he : ∀ whole, isTrue e X.env whole = (do let v ← whole; standAt e.pos; holding [v] (truthy v)) := by intro _; rfl) : PT X e (tB t) := by
  intro pins s σ H Q I hw
  refine isTrue_plain (thn (h pins s σ H _ I hw) fun v s1 ⟨x, H1, I1, r1, q1⟩ => ?_) (he _)
  obtain ⟨d, rfl, q⟩ := q1
  cases r1
  exact wpAny_truthy_bool ⟨H1, I1, q⟩
variable {tA tB' : TT} {rest : List Expr}
def tAnd (t u : TT) : TT := fun σ H Q => t σ H fun c H1 => if c = true then u σ H1 Q else Q false H1
def tOr (t u : TT) : TT := fun σ H Q => t σ H fun c H1 => if c = true then Q true H1 else u σ H1 Q
def tNot (t : TT) : TT := fun σ H Q => t σ H fun c H1 => Q (!c) H1
theorem pw_and1 (ha : PT X a tA) : PW X (.BoolOp .And [a] pos) tA := by
  intro wh pins s σ H Q I h
  refine isTrue_and (thn (ha pins s σ H Q I h) fun c s1 e => ?_)
  cases c with
  | true => exact isTrue_and_nil e
  | false => exact e
theorem pw_or1 (ha : PT X a tA) : PW X (.BoolOp .Or [a] pos) tA := by
  intro wh pins s σ H Q I h
  refine isTrue_or (thn (ha pins s σ H Q I h) fun c s1 e => ?_)
  cases c with
  | false => exact isTrue_or_nil e
  | true => exact e
theorem pw_and (ha : PT X a tA) (hb : PW X (.BoolOp .And (b :: rest) pos) tB') : PW X (.BoolOp .And (a :: b :: rest) pos) (tAnd tA tB') := by
  intro wh pins s σ H Q I h
  refine isTrue_and (thn (ha pins s σ H _ I h) fun c s1 ⟨H1, I1, q1⟩ => ?_)
  cases c with
  | true => exact hb wh pins s1 σ H1 Q I1 q1
  | false => exact ⟨H1, I1, q1⟩
theorem pw_or (ha : PT X a tA) (hb : PW X (.BoolOp .Or (b :: rest) pos) tB') : PW X (.BoolOp .Or (a :: b :: rest) pos) (tOr tA tB') := by
  intro wh pins s σ H Q I h
  refine isTrue_or (thn (ha pins s σ H _ I h) fun c s1 ⟨H1, I1, q1⟩ => ?_)
  cases c with
  | true => exact ⟨H1, I1, q1⟩
  | false => exact hb wh pins s1 σ H1 Q I1 q1
theorem pt_not (ha : PT X a tA) : PT X (.UnaryOp .Not a pos) (tNot tA) := by
  intro pins s σ H Q I h
  exact isTrue_not (ha pins s σ H (fun c H1 => Q (!c) H1) I h)
def tAndV (ta tb : TE) : TE := fun σ H Q => ta σ H fun x H1 => ∃ c, x = .bl c ∧ if c = true then tb σ H1 Q else Q (.bl false) H1
theorem pe_one {op} {t : TE} (h : PE X a t) : PE X (.BoolOp op [a] pos) t := fun pins s σ H Q I hw => BoolOp_one (h pins s σ H Q I hw)
theorem pe_and (ha : PE X a ta) (hb : PE X (.BoolOp .And (b :: rest) pos) tb) : PE X (.BoolOp .And (a :: b :: rest) pos) (tAndV ta tb) := by
  intro pins s σ H Q I h
  refine BoolOp_and (thn (ha pins s σ H _ I h) fun v s1 ⟨x, H1, I1, r1, q1⟩ => ?_)
  obtain ⟨c, rfl, q1⟩ := q1
  cases r1
  refine wpAny_truthy_bool ?_
  cases c with
  | true => exact hb pins s1 σ H1 Q I1 q1
  | false => exact ⟨.bl false, H1, I1, rfl, q1⟩
def tIf (t : TT) (ta tb : TE) : TE := fun σ H Q => t σ H fun c H1 => if c = true then ta σ H1 Q else tb σ H1 Q
theorem pe_ifExp {c : Expr} (hc : PT X c tA) (ha : PE X a ta) (hb : PE X b tb) : PE X (.IfExp c a b pos) (tIf tA ta tb) := by
  intro pins s σ H Q I h
  refine wpAny_IfExp (thn (hc pins s σ H _ I h) fun d s1 ⟨H1, I1, q1⟩ => ?_)
  cases d with
  | true => exact ha pins s1 σ H1 Q I1 q1
  | false => exact hb pins s1 σ H1 Q I1 q1
end
end L2
namespace L2
open PySem PySem.Spec PyProof.Rows
def SqL (K : PySem.W.Frag) (H : Hp) (a : Addr) (xs : List V) : Prop :=
  Rd H a (.lst xs) ∨
    ∃ (o : Obj) (its : Array Value) (n : Nat), K.lookup a = some o ∧ o.cls = .type "list" ∧ o.dict = none ∧ o.data = .seq its n ∧ its.size ≤ sizeLine ∧ Vals xs its.toList
def SqT (K : PySem.W.Frag) (H : Hp) (a : Addr) (xs : List V) : Prop :=
  Rd H a (.tup xs) ∨
    ∃ (o : Obj) (its : Array Value) (n : Nat), K.lookup a = some o ∧ o.cls = .type "tuple" ∧ o.data = .seq its n ∧ its.size ≤ sizeLine ∧ Vals xs its.toList
def absV : Value → Option V
  | .none => some .non
  | .bool b => some (.bl b)
  | .int i _ => some (.int i)
  | .str x _ => some (.str x)
  | .bytes b _ => some (.byt b)
  | .float b _ => some (.flt b)
  | .ref a => some (.ref a)
  | .type n => some (.ty n)
  | _ => none
theorem RelV.abs {x : V} {u : Value} (r : RelV x u) : absV u = some x := by
  cases x with
  | non => cases r; rfl
  | bl _ => cases r; rfl
  | int _ => obtain ⟨t, rfl⟩ := r; rfl
  | str _ => obtain ⟨t, rfl⟩ := r; rfl
  | byt _ => obtain ⟨t, rfl⟩ := r; rfl
  | flt _ => obtain ⟨t, rfl⟩ := r; rfl
  | ref _ => cases r; rfl
  | ty _ => cases r; rfl
theorem RelV.inj {x y : V} {u : Value} (r : RelV x u) (q : RelV y u) : x = y := Option.some.inj (r.abs.symm.trans q.abs)
theorem Vals.inj : ∀ {xs ys : List V} {us : List Value}, Vals xs us → Vals ys us → xs = ys
  | _, _, _, .nil, .nil => rfl
  | _, _, _, .cons r t, .cons r' t' => by rw [r.inj r', Vals.inj t t']
section
variable {X : Cx} {pins : List (Addr × Obj)} {σ : St} {H : Hp} {s : Shared} {a : Addr} {xs ys : List V}
theorem SqL.of {K : PySem.W.Frag} (h : H a = some (.lst xs)) : SqL K H a xs := .inl (.inl h)
theorem SqT.of {K : PySem.W.Frag} (h : H a = some (.tup xs)) : SqT K H a xs := .inl (.inl h)
theorem Inv.list (I : Inv X pins σ H s) (h : SqL X.K H a xs) : ∃ its : List Value, Vals xs its ∧ PlainL s.heap a its.toArray ∧ xs.length ≤ sizeLine := by
  rcases h with h | ⟨o, its, n, hk, hc, hd, hs, hz, r⟩
  · obtain ⟨z, its, n, r, e⟩ := h.ok I.hok
    exact ⟨its, r, ⟨_, n, e, rfl, rfl, rfl⟩, z⟩
  · refine ⟨its.toList, r, ⟨o, n, I.kIn a o hk, hc, hd, by simpa using hs⟩, ?_⟩
    have e := r.length
    simp only [Array.length_toList] at e
    omega
theorem Inv.tuple (I : Inv X pins σ H s) (h : SqT X.K H a xs) : ∃ its : List Value, Vals xs its ∧ IsTup s.heap a its.toArray ∧ xs.length ≤ sizeLine := by
  rcases h with h | ⟨o, its, n, hk, hc, hs, hz, r⟩
  · obtain ⟨z, its, r, p⟩ := h.ok I.hok
    exact ⟨its, r, p, z⟩
  · refine ⟨its.toList, r, ⟨o, I.kIn a o hk, hc, n, by simpa using hs⟩, ?_⟩
    have e := r.length
    simp only [Array.length_toList] at e
    omega
theorem Inv.list_inj (I : Inv X pins σ H s) (h : SqL X.K H a xs) (h' : SqL X.K H a ys) : xs = ys := by
  obtain ⟨its, r, ⟨o, n, e, _, _, d⟩, _⟩ := I.list h
  obtain ⟨its', r', ⟨o', n', e', _, _, d'⟩, _⟩ := I.list h'
  rw [e] at e'; cases e'
  rw [d] at d'
  injection d' with d1 _
  have : its = its' := by simpa using congrArg Array.toList d1
  subst this
  exact r.inj r'
end
abbrev Cx.wish (X : Cx) (E : Value → Shared → Prop) : Cx := { X with xe := E }
abbrev Cx.nox (X : Cx) : Cx := X.wish fun _ _ => False
theorem Cx.Ok.wish {X : Cx} (ok : X.Ok) (E : Value → Shared → Prop) : (X.wish E).Ok :=
  ⟨ok.mod, ok.kind, ok.glob, ok.blt, ok.above, ok.inj, ok.has, ok.cab, ok.hd, ok.frames, ok.stk, ok.exf, ok.bs, ok.bsz, ok.noex, ok.exfs, ok.funs, ok.frf⟩
theorem Cx.Ok.unwish {X : Cx} {E : Value → Shared → Prop} (ok : (X.wish E).Ok) : X.Ok :=
  ⟨ok.mod, ok.kind, ok.glob, ok.blt, ok.above, ok.inj, ok.has, ok.cab, ok.hd, ok.frames, ok.stk, ok.exf, ok.bs, ok.bsz, ok.noex, ok.exfs, ok.funs, ok.frf⟩
section
variable {X : Cx} {pins : List (Addr × Obj)} {σ : St} {H : Hp} {s : Shared} {E : Value → Shared → Prop}
theorem Inv.wish (I : Inv X pins σ H s) (E : Value → Shared → Prop) : Inv (X.wish E) pins σ H s := ⟨I.ok.wish E, I.os, I.bare, I.base, I.loc, I.cell, I.free, I.freeC, I.pin, I.hok, I.len⟩
theorem Inv.unwish (I : Inv (X.wish E) pins σ H s) : Inv X pins σ H s := ⟨I.ok.unwish, I.os, I.bare, I.base, I.loc, I.cell, I.free, I.freeC, I.pin, I.hok, I.len⟩
theorem SP.unwish {D : Ends} {f : Flow} {s' : Shared} (h : SP (X.wish E) pins D f s') : SP X pins D f s' := by
  cases f with
  | next => obtain ⟨σ', H', I, q⟩ := h; exact ⟨σ', H', I.unwish, q⟩
  | brk => obtain ⟨σ', H', I, q⟩ := h; exact ⟨σ', H', I.unwish, q⟩
  | cont => obtain ⟨σ', H', I, q⟩ := h; exact ⟨σ', H', I.unwish, q⟩
  | ret u => obtain ⟨v, σ', H', I, r, q⟩ := h; exact ⟨v, σ', H', I.unwish, r, q⟩
theorem PSs.nox {st : List Stmt} {t : TS} (h : PSs X.nox st t) : PSs X st t := fun pins s σ H D I hw =>
  wpAny_mono (h pins s σ H D (I.wish _) hw) (fun _ _ q => q.unwish) fun _ _ z => False.elim z
end
section
variable {X : Cx} {st : Stmt} {rest : List Stmt} {t u : TS} {e : Expr} {te : TE} {pos : Pos}
def tNext : TS := fun D σ H => D.nx σ H
def tSeq (t u : TS) : TS := fun D σ H => t { D with nx := u D } σ H
theorem pss_nil : PSs X [] tNext := fun _ _ σ H _ I h => wpAny_execs_nil ⟨σ, H, I, h⟩
theorem pss_cons (h1 : PS X st t) (h2 : PSs X rest u) : PSs X (st :: rest) (tSeq t u) := by
  intro pins s σ H D I h
  refine wpAny_execs_cons (thn (h1 pins s σ H { D with nx := u D } I h) fun f s1 q => ?_)
  cases f with
  | next =>
    obtain ⟨σ', H', I', q⟩ := q
    exact h2 pins s1 σ' H' D I' q
  | ret v => exact q
  | brk => exact q
  | cont => exact q
theorem pss_one (h1 : PS X st t) : PSs X [st] t := by
  intro pins s σ H D I h
  refine wpAny_execs_cons (thn (h1 pins s σ H D I h) fun f s1 q => ?_)
  cases f with
  | next => exact wpAny_execs_nil q
  | ret v => exact q
  | brk => exact q
  | cont => exact q
theorem Inv.quiet {pins : List (Addr × Obj)} {σ : St} {H : Hp} {s : Shared} (I : Inv X pins σ H s) : interactive X.env = false := by simp [interactive, I.ok.kind]
def tDrop (te : TE) : TS := fun D σ H => te σ H fun _ H1 => D.nx σ H1
theorem ps_expr (he : PE X e te) (hs : swapsWith e none pos.line X.env = pure false := by rfl) : PS X (.Expr e pos) (tDrop te) := by
  intro pins s σ H D I h
  exact wpAny_Expr_any (thn (he pins s σ H _ I h) fun v s1 ⟨x, H1, I1, r1, q1⟩ => ⟨σ, H1, I1, q1⟩) I.quiet hs
def tRet (te : TE) : TS := fun D σ H => te σ H D.rt
theorem ps_ret (he : PE X e te) : PS X (.Return (some e) pos) (tRet te) := by
  intro pins s σ H D I h
  exact wpAny_Return_some (thn (he pins s σ H _ I h) fun v s1 ⟨x, H1, I1, r1, q1⟩ => ⟨x, σ, H1, I1, r1, q1⟩)
def tIfS (c : TT) (t u : TS) : TS := fun D σ H => c σ H fun b H1 => if b = true then t D σ H1 else u D σ H1
theorem ps_if {c : Expr} {a b : List Stmt} {tc : TT} (hc : PT X c tc) (ha : PSs X a t) (hb : PSs X b u) : PS X (.If c a b pos) (tIfS tc t u) := by
  intro pins s σ H D I h
  refine wpAny_If (thn (hc pins s σ H _ I h) fun d s1 ⟨H1, I1, q1⟩ => ?_)
  cases d with
  | true => exact ha pins s1 σ H1 D I1 q1
  | false => exact hb pins s1 σ H1 D I1 q1
end
abbrev TG := V → St → Hp → (St → Hp → Prop) → Prop
abbrev TGs := List V → St → Hp → (St → Hp → Prop) → Prop
def PG (X : Cx) (target : Expr) (t : TG) : Prop :=
  ∀ (pins : List (Addr × Obj)) (s : Shared) (σ : St) (H : Hp) (v : V) (u : Value) (Q : St → Hp → Prop), Inv X pins σ H s → RelV v u → t v σ H Q →
    wpAny (model X.prog X.w) X.A (assign target X.env u) (fun _ s' => ∃ σ' H', Inv X pins σ' H' s' ∧ Q σ' H') X.xe s
def PGs (X : Cx) (ts : List Expr) (t : TGs) : Prop :=
  ∀ (pins : List (Addr × Obj)) (s : Shared) (σ : St) (H : Hp) (vs : List V) (us : List Value) (Q : St → Hp → Prop), Inv X pins σ H s → Vals vs us → t vs σ H Q →
    wpAny (model X.prog X.w) X.A (assignInOrder ((assignEach ts X.env).map (·.2)) us) (fun _ s' => ∃ σ' H', Inv X pins σ' H' s' ∧ Q σ' H') X.xe s
abbrev TSet := V → V → V → Hp → (Hp → Prop) → Prop
def PSet (X : Cx) (t : TSet) : Prop :=
  ∀ (pins : List (Addr × Obj)) (s : Shared) (σ : St) (H : Hp) (o i v : V) (ov iv u : Value) (Q : Hp → Prop), Inv X pins σ H s → RelV o ov → RelV i iv → RelV v u → t o i v H Q →
    wpAny (model X.prog X.w) X.A (setItem ov iv u) (fun _ s' => ∃ H', Inv X pins σ H' s' ∧ Q H') X.xe s
abbrev TIp := V → V → Hp → VK → Prop
def PIp (X : Cx) (op : Operator) (t : TIp) : Prop :=
  ∀ (pins : List (Addr × Obj)) (s : Shared) (σ : St) (H : Hp) (x y : V) (v u : Value) (Q : VK), Inv X pins σ H s → RelV x v → RelV y u → t x y H Q →
    wpAny (model X.prog X.w) X.A (inplaceOp op v u) (EP X pins σ Q) X.xe s
section
variable {X : Cx} {pos : Pos}
def gName (i : Nat) : TG := fun v σ H Q => Q (σ.set i (some v)) H
theorem pg_name {i : Nat} {x : Str} (hN : X.N.Nodup) (hi : X.N[i]? = some x) (hx : Loc X.env.scope x) (hf : X.fn x = true ∨ X.env.scope.names.lookup x = some .local := by first | exact .inl rfl | exact .inr rfl | assumption) : PG X (.Name x pos) (gName i) := by
  intro pins s σ H v u Q I r h
  exact wpAny_assign_Name (store_ok I hN hi hx r (fun s' I' => ⟨_, H, I', h⟩) hf)
def gNil : TGs := fun vs σ H Q => vs = [] ∧ Q σ H
def gCons (t : TG) (u : TGs) : TGs := fun vs σ H Q => ∃ v r, vs = v :: r ∧ t v σ H fun σ' H' => u r σ' H' Q
theorem pgs_nil : PGs X [] gNil := by
  intro pins s σ H vs us Q I r h
  obtain ⟨e, h⟩ := h
  subst e
  cases r
  exact assignInOrder_nil ⟨σ, H, I, h⟩
theorem pgs_cons {e : Expr} {es : List Expr} {t : TG} {u : TGs} (h1 : PG X e t) (h2 : PGs X es u)
    (hs : (assignEach (e :: es) X.env).map (·.2) = assign e X.env :: (assignEach es X.env).map (·.2) := by rfl) : PGs X (e :: es) (gCons t u) := by
  intro pins s σ H vs us Q I r h
  obtain ⟨v, vr, e1, h⟩ := h
  subst e1
  cases r with
  | cons r rr =>
    rw [hs]
    refine assignInOrder_cons (thn (h1 pins s σ H _ _ _ I r h) fun _ s1 ⟨σ1, H1, I1, q1⟩ => ?_)
    exact h2 pins s1 σ1 H1 _ _ Q I1 rr q1
def gTup (K : PySem.W.Frag) (n : Nat) (t : TGs) : TG := fun v σ H Q => ∃ a xs, v = .ref a ∧ SqT K H a xs ∧ xs.length = n ∧ t xs σ H Q
theorem pg_tup {es : List Expr} {k : Nat} {t : TGs} {n : Nat} (hc : X.calm = true) (h : PGs X es t)
    (hn : (assignEach es X.env).length = n := by rfl) (hst : (assignEach es X.env).findIdx? (·.1) = none := by rfl) : PG X (.Tuple es k pos) (gTup X.K n t) := by
  intro pins s σ H v u Q I r hw
  obtain ⟨a, xs, e1, hq, hl, hw⟩ := hw
  subst e1
  cases r
  obtain ⟨its, rv, ht, hz⟩ := I.tuple hq
  refine assign_Tuple_tuple (I.ok.hd hc) ht (by simp [hn, ← hl, rv.length]) hst fun h' hx => ?_
  have I1 : Inv X pins σ H { s with heap := h' } := I.kept (t' := s.toks) fun b o e => hx b o (Nat.ne_of_lt (Heap.lt_size e)) e
  exact h pins _ σ H xs _ Q I1 (by simpa using rv) hw
def gSub (to ti : TE) (t : TSet) : TG := fun v σ H Q => to σ H fun o H1 => ti σ H1 fun i H2 => t o i v H2 fun H3 => Q σ H3
theorem pg_sub {o i : Expr} {to ti : TE} {t : TSet} (ho : PE X o to) (hi : PE X i ti) (hs : PSet X t)
    (ha : ∀ v, assign (.Subscript o i pos) X.env v = (do
      let ov ← holding [v] (eval o X.env)
      let iv ← holding [v, ov] (eval i X.env)
      standAt pos
      holding [v, ov, iv] (setItem ov iv v)
      release [v, ov, iv] []) := by intro _; rfl) : PG X (.Subscript o i pos) (gSub to ti t) := by
  intro pins s σ H v u Q I r h
  rw [ha]
  refine wpAny_bind (wpAny_holding (thn (ho pins s σ H _ I h) fun ov s1 ⟨x, H1, I1, r1, q1⟩ => ?_))
  refine wpAny_bind (wpAny_holding (thn (hi pins s1 σ H1 _ I1 q1) fun iv s2 ⟨y, H2, I2, r2, q2⟩ => ?_))
  refine wpAny_bind (wpAny_standAt (wpAny_bind (wpAny_holding (thn (hs pins s2 σ H2 x y v ov iv u _ I2 r1 r2 r q2) fun _ s3 ⟨H3, I3, q3⟩ => ?_))))
  exact wpAny_release ⟨σ, H3, I3, q3⟩
def tAsg (te : TE) (g : TG) : TS := fun D σ H => te σ H fun x H1 => g x σ H1 D.nx
theorem ps_asg {tg e : Expr} {te : TE} {g : TG} (he : PE X e te) (hg : PG X tg g) (hs : swapsWithSole [tg] e pos.line X.env = pure false := by rfl) (hw : swappedStores [tg] e X.env = pure none := by rfl)
    (h1 : (assignEach [tg] X.env).map (·.2) = [assign tg X.env] := by rfl) : PS X (.Assign [tg] e pos) (tAsg te g) := by
  intro pins s σ H D I h
  refine wpAny_Assign_stores (thn (he pins s σ H _ I h) fun v s1 ⟨x, H1, I1, r1, q1⟩ => ?_) hs hw
  rw [h1]
  exact thn (hg pins s1 σ H1 x v _ I1 r1 q1) fun _ s2 q => q
theorem ps_set {i : Nat} {x : Str} {e : Expr} {te : TE} {pos' : Pos} (hN : X.N.Nodup) (hi : X.N[i]? = some x) (hx : Loc X.env.scope x) (he : PE X e te) (hs : swapsWith e (some (.Name x pos')) pos.line X.env = pure false := by rfl) (hf : X.fn x = true ∨ X.env.scope.names.lookup x = some .local := by first | exact .inl rfl | exact .inr rfl | assumption) :
    PS X (.Assign [.Name x pos'] e pos) (tAsg te (gName i)) := by
  intro pins s σ H D I h
  refine wpAny_Assign_Name (thn (he pins s σ H _ I h) fun v s1 ⟨y, H1, I1, r1, q1⟩ => ?_) hs
  exact store_ok I1 hN hi hx r1 (fun s2 I2 => ⟨_, H1, I2, q1⟩) hf
def tAug (i : Nat) (te : TE) (ti : TIp) : TS := fun D σ H => ∃ x, σ[i]? = some (some x) ∧ te σ H fun y H1 => ti x y H1 fun z H2 => D.nx (σ.set i (some z)) H2
theorem ps_aug {i : Nat} {x : Str} {e : Expr} {te : TE} {op : Operator} {ti : TIp} {pos' : Pos} (hN : X.N.Nodup) (hi : X.N[i]? = some x) (hx : Loc X.env.scope x) (he : PE X e te) (ho : PIp X op ti) (hf : X.fn x = true ∨ X.env.scope.names.lookup x = some .local := by first | exact .inl rfl | exact .inr rfl | assumption) :
    PS X (.AugAssign (.Name x pos') op e pos) (tAug i te ti) := by
  intro pins s σ H D I h
  obtain ⟨v, e1, h⟩ := h
  obtain ⟨m, hn, hl⟩ := I.loc
  have vis : Vis X.env.scope x := by rcases hx with k | k; exact .inl k; exact .inr (.inl k)
  obtain ⟨u, r, l⟩ := hl i x v hi e1 vis
  refine wpAny_AugAssign_Name ?_
  have go : wpAny (model X.prog X.w) X.A (eval e X.env) (fun w s₂ => wpAny (model X.prog X.w) X.A (inplaceOp op u w) (fun r s₃ => wpAny (model X.prog X.w) X.A (storeName X.env x r) (fun _ => SP X pins D .next) X.xe s₃) X.xe s₂) X.xe s := by
    refine thn (he pins s σ H _ I h) fun w s1 ⟨y, H1, I1, r1, q1⟩ => ?_
    refine thn (ho pins s1 σ H1 v y u w _ I1 r r1 q1) fun z s2 ⟨zv, H2, I2, r2, q2⟩ => ?_
    exact store_ok I2 hN hi hx r2 (fun s3 I3 => ⟨_, H2, I3, q2⟩) hf
  rcases l with ⟨hk, hm⟩ | ⟨hk, c, hc, hcell⟩
  · exact wpAny_loadName_local I.ok.kind hk hn hm go
  · rcases hk with hk | hk
    · exact wpAny_loadName_cell I.ok.kind hk hc hcell go
    · rcases hx with k | k
      · have : X.env.scope.names.lookup x = some .free := hk
        rw [k] at this; cases this
      · have : X.env.scope.names.lookup x = some .free := hk
        rw [k] at this; cases this
def ipI (f : Int → Int → Int) : TIp := fun x y H Q => ∃ i j, x = .int i ∧ y = .int j ∧ Q (.int (f i j)) H
theorem ip_add : PIp X .Add (ipI fun i j => i + j) := by
  intro pins s σ H x y v u Q I r1 r2 h
  obtain ⟨i, j, e1, e2, q⟩ := h
  subst e1; subst e2
  obtain ⟨t, rfl⟩ := r1
  obtain ⟨t', rfl⟩ := r2
  exact iadd_int ⟨.int _, H, I.tok _, ⟨_, rfl⟩, q⟩
end
section
variable {X : Cx} {pos : Pos}
def tWhile (c : TT) (tb : TS) : TS := fun D σ H => ∃ W : Nat → St → Hp → Prop, (∃ m, W m σ H) ∧ ∀ m σ H, W m σ H →
  c σ H fun b H1 => if b = true then ∃ N : St → Hp → Prop, (∀ σ' H', N σ' H' → ∃ m', m' < m ∧ W m' σ' H') ∧ tb { D with nx := N, ct := N, bk := D.nx } σ H1 else D.nx σ H1
theorem ps_while {c : Expr} {body : List Stmt} {tc : TT} {tb : TS} (hp : PassesOwn (model X.prog X.w) X.A X.env X.xe) (hc : PT X c tc) (hb : PSs X body tb) : PS X (.While c body [] pos) (tWhile tc tb) := by
  intro pins s σ H D I h
  obtain ⟨W, ⟨m0, w0⟩, turn⟩ := h
  refine wpAny_While (codeAny_whileLoop (fun n s' => ∃ σ' H', Inv X pins σ' H' s' ∧ W n σ' H') ?_ m0 ⟨σ, H, I, w0⟩)
  rintro n s1 ⟨σ1, H1, I1, w1⟩
  refine wpAny_passesOwn hp (thn (hc pins s1 σ1 H1 _ I1 (turn n σ1 H1 w1)) fun b s2 ⟨H2, I2, q2⟩ => ?_)
  cases b with
  | true =>
    obtain ⟨N, hN, q2⟩ := q2
    rw [if_pos rfl]
    refine wpAny_passesOwn hp (thn (hb pins s2 σ1 H2 _ I2 q2) fun f s3 q3 => ?_)
    cases f with
    | next =>
      obtain ⟨σ3, H3, I3, n3⟩ := q3
      obtain ⟨m', hm, w3⟩ := hN σ3 H3 n3
      exact ⟨m', hm, σ3, H3, I3, w3⟩
    | cont =>
      obtain ⟨σ3, H3, I3, n3⟩ := q3
      obtain ⟨m', hm, w3⟩ := hN σ3 H3 n3
      exact ⟨m', hm, σ3, H3, I3, w3⟩
    | brk => exact q3
    | ret v => exact q3
  | false =>
    rw [if_neg Bool.false_ne_true]
    exact wpAny_execs_nil ⟨σ1, H2, I2, q2⟩
end
structure It where
  go : Nat → Hp → Prop
  yld : Nat → Hp → V → Hp → Prop
  stop : Nat → Hp → Prop
def FpOk (X : Cx) (pins : List (Addr × Obj)) (H : Hp) (b : Addr) : Prop :=
  H b = none ∧ b ≠ X.env.locals ∧ b ∉ X.fs ∧ (b ∈ X.ex ∨ X.s_0.heap.objs.size ≤ b) ∧ (∀ x c, X.env.cells.lookup x = some c → c ≠ b) ∧ ∀ p ∈ X.pn ++ pins, p.1 ≠ b
theorem Inv.fpOk {X : Cx} {pins : List (Addr × Obj)} {σ : St} {H H' : Hp} {s : Shared} {b : Addr} (I : Inv X pins σ H s) (hb : s.heap.objs.size ≤ b) (hn : H' b = none) : FpOk X pins H' b := by
  refine ⟨hn, Nat.ne_of_gt (Nat.lt_of_lt_of_le I.lt hb), I.nofs hb, .inr (Nat.le_trans I.sz hb), fun x c e z => ?_, fun p hp z => ?_⟩
  · obtain ⟨v, q⟩ := I.cell x c e
    exact absurd (Nat.lt_of_lt_of_le q.lt (by rw [z]; exact hb)) (Nat.lt_irrefl _)
  · exact absurd (Nat.lt_of_lt_of_le (Heap.lt_size (I.pin p hp).1) (by rw [z]; exact hb)) (Nat.lt_irrefl _)
structure Turn (P : Program) (w : World) (K : PySem.W.Frag) (tg : Expr) (J : It) (fp : List Addr) (it : Addr) (tn : Nat → Heap → Prop) : Prop where
  mem : it ∈ fp
  obj : ∀ i h, tn i h → ∀ b ∈ fp, ∃ o, h.get? b = some o ∧ ∀ v, o.data ≠ .cell v
  keep : ∀ i h h', tn i h → (∀ b ∈ fp, ∀ o, h.get? b = some o → h'.get? b = some o) → tn i h'
  item : ∀ (X : Cx), X.prog = P → X.w = w → X.K = K → X.calm = true → ∀ (i : Nat) (pins : List (Addr × Obj)) (s : Shared) (σ : St) (H : Hp) (E : Value → Shared → Prop), Inv X pins σ H s → (∀ b ∈ fp, FpOk X pins H b) → tn i s.heap → J.go i H →
    wpAny (model P w) X.A (pyNext (.ref it)) (fun r s1 => ∃ u, r = some u ∧
      wpAny (model P w) X.A (letOwnedTupleGo tg (.ref it) u) (fun _ s2 => ∃ x H', Inv X pins σ H' s2 ∧ RelV x u ∧ J.yld i H x H' ∧ tn (i + 1) s2.heap ∧ ∀ b ∈ fp, H' b = none) E s1) E s
  done : ∀ (X : Cx), X.prog = P → X.w = w → X.K = K → X.calm = true → ∀ (i : Nat) (pins : List (Addr × Obj)) (s : Shared) (σ : St) (H : Hp) (E : Value → Shared → Prop), Inv X pins σ H s → (∀ b ∈ fp, FpOk X pins H b) → tn i s.heap → J.stop i H →
    wpAny (model P w) X.A (pyNext (.ref it)) (fun r s1 => r = none ∧ Inv X pins σ H s1) E s
  self : ∀ (A : Around) (i : Nat) (s : Shared) (Q : Value → Shared → Prop) (E : Value → Shared → Prop), tn i s.heap → Q (.ref it) s → wpAny (model P w) A (pyIter (.ref it)) Q E s
abbrev TI := St → Hp → (It → Hp → Prop) → Prop
def PIE (X : Cx) (pins : List (Addr × Obj)) (σ : St) (tg : Expr) (R : It → Hp → Prop) (itv : Value) (s2 : Shared) : Prop :=
  ∃ (it : Addr) (fp : List Addr) (tn : Nat → Heap → Prop) (J : It) (H' : Hp), itv = .ref it ∧ Inv X pins σ H' s2 ∧ Turn X.prog X.w X.K tg J fp it tn ∧ tn 0 s2.heap ∧ (∀ b ∈ fp, FpOk X pins H' b) ∧ R J H'
def PI (X : Cx) (tg iter : Expr) (wi : TI) : Prop :=
  ∀ (pins : List (Addr × Obj)) (s : Shared) (σ : St) (H : Hp) (R : It → Hp → Prop), Inv X pins σ H s → wi σ H R →
    wpAny (model X.prog X.w) X.A (eval iter X.env) (fun v s1 => wpAny (model X.prog X.w) X.A (pyIter v) (PIE X pins σ tg R) X.xe s1) X.xe s
theorem go_of {M : Model} {A : Around} {E : Value → Shared → Prop} {s : Shared} {tg : Expr} {it : Addr} {u : Value} {o : Obj} {n : String} {vs : Array Value} {Q : Unit → Shared → Prop} (ho : s.heap.get? it = some o) (hc : o.cls = .type n) (hd : o.data = .fields vs)
    (hn : ["enumerate", "zip", "dict_itemiterator", "dict_reverseitemiterator", "odict_iterator", "itertools.zip_longest", "itertools.pairwise"].contains n = false) (hQ : Q () s) : wpAny M A (letOwnedTupleGo tg (.ref it) u) Q E s := by
  unfold letOwnedTupleGo
  cases tg <;> first
    | exact wpAny_pure hQ
    | (cases u <;> first
        | exact wpAny_pure hQ
        | (refine wpAny_bind (wpAny_load ho ?_)
           rw [hc, hd]
           show wpAny M A (if (["enumerate", "zip", "dict_itemiterator", "dict_reverseitemiterator", "odict_iterator", "itertools.zip_longest", "itertools.pairwise"].contains n && vs[0]? == some (rawInt _)) = true then _ else _) Q E s
           rw [if_neg (by intro h; rw [hn, Bool.false_and] at h; cases h)]
           exact wpAny_pure hQ))
def Itl (K : PySem.W.Frag) (a : Addr) : It :=
  ⟨fun i H => ∃ xs x, SqL K H a xs ∧ xs[i]? = some x, fun i H x H' => H' = H ∧ ∀ xs, SqL K H a xs → xs[i]? = some x, fun i H => ∃ xs, SqL K H a xs ∧ xs.length ≤ i⟩
def Itr (lo : Int) (n : Nat) : It := ⟨fun i _ => i < n, fun i H x H' => H' = H ∧ x = .int (lo + i), fun i _ => n ≤ i⟩
theorem turn_list {P : Program} {w : World} {K : PySem.W.Frag} {tg : Expr} (a it : Addr) : Turn P w K tg (Itl K a) [it] it (fun i h => h.IsListIter it a i) where
  mem := by simp
  obj := fun i h st b hb => by
    have e : b = it := by simpa using hb
    subst e
    obtain ⟨o, e, c, d⟩ := st
    exact ⟨o, e, fun v z => by rw [d] at z; cases z⟩
  keep := fun i h h' st k => st.at fun o e => k it (by simp) o e
  item := by
    intro X hP hw hK hc i pins s σ H E I hf st hg
    subst hP hw hK
    obtain ⟨xs, x, hq, hx⟩ := hg
    obtain ⟨its, rv, p, hz⟩ := I.list hq
    obtain ⟨u, hu, ru⟩ := rv.get hx
    obtain ⟨f0, f1, f2, f3, f4, f5⟩ := hf it (by simp)
    refine wpAny_pyNext_list_item st p.isList (x := u) (by simpa using hu) fun h' st' sb => ?_
    have I1 : Inv X pins σ H { s with heap := h' } := I.turned (t' := s.toks) (fun b o hb e => (sb.2 b hb).trans e) f0 f1 f3 f4 f5
    obtain ⟨o, e, c, d⟩ := id st'
    exact ⟨u, rfl, go_of (s := { s with heap := h' }) e c d (by decide) ⟨x, H, I1, ru, ⟨rfl, fun ys hy => by rw [I.list_inj hy hq]; exact hx⟩, st', fun b hb => (hf b hb).1⟩⟩
  done := by
    intro X hP hw hK hc i pins s σ H E I hf st hg
    subst hP hw hK
    obtain ⟨xs, hq, hx⟩ := hg
    obtain ⟨its, rv, p, hz⟩ := I.list hq
    obtain ⟨f0, f1, f2, f3, f4, f5⟩ := hf it (by simp)
    have hl := rv.length
    exact wpAny_pyNext_list_end (I.ok.hd hc) st p.isList (by simp; omega) fun h' eb => ⟨rfl, I.turned (t' := s.toks) (fun b o hb e => eb b o hb e) f0 f1 f3 f4 f5⟩
  self := fun _ _ _ _ _ st h => wpAny_pyIter_listiter st h
theorem turn_range {P : Program} {w : World} {K : PySem.W.Frag} {tg : Expr} (it : Addr) (lo : Int) (n : Nat) : Turn P w K tg (Itr lo n) [it] it (fun i h => IsRangeIter h it (lo + (i : Nat) * 1) ((n : Int) - (i : Nat)) 1) where
  mem := by simp
  obj := fun i h st b hb => by
    have e : b = it := by simpa using hb
    subst e
    exact ⟨_, st, fun v z => by
      have z' : Data.fields _ = Data.cell v := z
      cases z'⟩
  keep := fun i h h' st k => k it (by simp) _ st
  item := by
    intro X hP hw hK hc i pins s σ H E I hf st hg
    subst hP hw hK
    obtain ⟨f0, f1, f2, f3, f4, f5⟩ := hf it (by simp)
    have W := Walks.range (prog := X.prog) (w := X.w) (I.ok.hd hc) it lo 1 n
    refine W.item i s _ _ hg st fun v h' tk hv st' kk => ?_
    obtain ⟨t, rfl⟩ := hv
    have I1 : Inv X pins σ H { s with heap := h', toks := tk } := I.turned (fun b o hb e => kk b o (by simpa using hb) e) f0 f1 f3 f4 f5
    refine ⟨_, rfl, go_of (s := { s with heap := h', toks := tk }) (n := "range_iterator") st' rfl rfl (by decide) ⟨.int (lo + i), H, I1, ⟨t, ?_⟩, ⟨rfl, rfl⟩, st', fun b hb => (hf b hb).1⟩⟩
    rw [Int.mul_one]
  done := by
    intro X hP hw hK hc i pins s σ H E I hf st hg
    subst hP hw hK
    obtain ⟨f0, f1, f2, f3, f4, f5⟩ := hf it (by simp)
    exact wpAny_pyNext_range_end (I.ok.hd hc) st (by have : n ≤ i := hg; omega) fun h' eb => ⟨rfl, I.turned (t' := s.toks) (fun b o hb e => eb b o hb e) f0 f1 f3 f4 f5⟩
  self := fun _ _ _ _ _ st h => wpAny_pyIter_rangeiter st h
end L2
namespace L2
open PySem PySem.Spec PyProof.Rows
section
variable {X : Cx} {tg : Expr}
def iList (K : PySem.W.Frag) (tl : TE) : TI := fun σ H R => tl σ H fun x H1 => ∃ a, x = .ref a ∧ (∃ xs, SqL K H1 a xs) ∧ R (Itl K a) H1
theorem pi_list {l : Expr} {tl : TE} (hl : PE X l tl) : PI X tg l (iList X.K tl) := by
  intro pins s σ H R I h
  refine thn (hl pins s σ H _ I h) fun v s1 ⟨x, H1, I1, r1, q1⟩ => ?_
  obtain ⟨a, e, ⟨xs, hq⟩, q⟩ := q1
  subst e
  cases r1
  obtain ⟨its, rv, p, hz⟩ := I1.list hq
  refine wpAny_pyIter_list p.isList ?_
  refine ⟨s1.heap.objs.size, [s1.heap.objs.size], _, _, H1, rfl, I1.kept (t' := s1.toks) fun b o e => Heap.get?_push_of_some _ e, turn_list a _, ⟨_, Heap.get?_push_size _ rfl, rfl, rfl⟩, fun b hb => ?_, q⟩
  have e : b = s1.heap.objs.size := by simpa using hb
  subst e
  exact I1.fpOk (Nat.le_refl _) (I1.hok.fresh (Nat.le_refl _))
theorem range_it {pins : List (Addr × Obj)} {σ : St} {H : Hp} {s : Shared} {R : It → Hp → Prop} {E : Value → Shared → Prop} {lo hi : Int} {t u v : Tok} {tk : Nat} (I : Inv X pins σ H s) (h1 : -(2 ^ 62) ≤ lo) (h2 : lo < 2 ^ 62) (h3 : -(2 ^ 62) ≤ hi) (h4 : hi < 2 ^ 62)
    (q : R (Itr lo (hi - lo).toNat) H) : wpAny (model X.prog X.w) X.A (pyIter (.ref s.heap.objs.size)) (PIE X pins σ tg R) E { s with heap := s.heap.push { cls := .type "range", data := .fields #[.int lo t, .int hi u, .int 1 v] }, toks := tk } := by
  refine wpAny_pyIter_range (IsRange.new ..) (small_one h1 h2 h3 h4) ?_
  have I1 : Inv X pins σ H { s with heap := s.heap.push { cls := .type "range", data := .fields #[.int lo t, .int hi u, .int 1 v] }, toks := tk } := I.kept fun b o e => Heap.get?_push_of_some _ e
  refine ⟨(s.heap.push { cls := .type "range", data := .fields #[.int lo t, .int hi u, .int 1 v] }).objs.size, [(s.heap.push { cls := .type "range", data := .fields #[.int lo t, .int hi u, .int 1 v] }).objs.size], _, _, H, rfl,
    I1.kept (t' := tk) fun b o e => Heap.get?_push_of_some _ e, turn_range _ lo (hi - lo).toNat, ?_, fun b hb => ?_, q⟩
  · have e1 : lo + ((0 : Nat) : Int) * 1 = lo := by simp
    have e2 : (((hi - lo).toNat : Nat) : Int) - ((0 : Nat) : Int) = Builtin.Range.rangeSize lo hi 1 := by rw [rangeSize_one]; split <;> omega
    show IsRangeIter _ _ (lo + ((0 : Nat) : Int) * 1) ((((hi - lo).toNat : Nat) : Int) - ((0 : Nat) : Int)) 1
    rw [e1, e2]
    exact Heap.get?_push_size _ rfl
  · have e : b = (s.heap.push { cls := .type "range", data := .fields #[.int lo t, .int hi u, .int 1 v] }).objs.size := by simpa using hb
    subst e
    exact I1.fpOk (Nat.le_refl _) (I1.hok.fresh (Nat.le_refl _))
def iRng1 (ta : TA) : TI := fun σ H R => ta σ H fun vs H1 => ∃ j : Int, vs = [.int j] ∧ -(2 ^ 62) ≤ j ∧ j < 2 ^ 62 ∧ R (Itr 0 j.toNat) H1
theorem pi_range1 {a : Expr} {ta : TA} {p pos : Pos} (hg : Gl X "range") (hm : X.mg "range" = none) (ha : PA X [a] ta) (hs : starEach [a] X.env = [(false, eval a X.env)] := by rfl) : PI X tg (.Call (.Name "range" p) [a] [] pos) (iRng1 ta) := by
  intro pins s σ H R I h
  refine Call_ (ld_blt I hg hm boot_range (PyProof.Rows.callWith_type1 (thn (ha pos pins s σ H _ I h) fun us s1 ⟨vs, H1, I1, r1, q1⟩ => ?_) hs rfl))
  obtain ⟨j, e, q1, q2, q⟩ := q1
  subst e
  cases r1 with
  | cons r rr =>
    cases rr
    obtain ⟨t, rfl⟩ := r
    exact call_range_1 (range_it I1 (by omega) (by omega) q1 q2 (by simpa using q))
def tFor (wi : TI) (g : TG) (tb : TS) : TS := fun D σ H => wi σ H fun J H1 => ∃ W : Nat → Nat → St → Hp → Prop, (∃ m, W 0 m σ H1) ∧ ∀ i m σ H, W i m σ H →
  (J.stop i H ∧ D.nx σ H) ∨ (J.go i H ∧ ∃ N : St → Hp → Prop, (∀ σ' H', N σ' H' → ∃ m', m' < m ∧ W (i + 1) m' σ' H') ∧ ∀ x H', J.yld i H x H' → g x σ H' fun σ2 H2 => tb { D with nx := N, ct := N, bk := D.nx } σ2 H2)
def pinsAt (fp : List Addr) (h : Heap) : List (Addr × Obj) := fp.filterMap fun b => (h.get? b).map fun o => (b, o)
theorem mem_pinsAt {fp : List Addr} {h : Heap} {b : Addr} {o : Obj} (hb : b ∈ fp) (e : h.get? b = some o) : (b, o) ∈ pinsAt fp h := List.mem_filterMap.mpr ⟨b, hb, by rw [e]; rfl⟩
theorem of_pinsAt {fp : List Addr} {h : Heap} {p : Addr × Obj} (hp : p ∈ pinsAt fp h) : p.1 ∈ fp ∧ h.get? p.1 = some p.2 := by
  obtain ⟨b, hb, e⟩ := List.mem_filterMap.mp hp
  cases q : h.get? b with
  | none => rw [q] at e; cases e
  | some o =>
    rw [q] at e
    have e' : (b, o) = p := Option.some.inj e
    subst e'
    exact ⟨hb, q⟩
theorem Inv.pinned {pins : List (Addr × Obj)} {σ : St} {H : Hp} {s : Shared} {fp : List Addr} (I : Inv X pins σ H s) (hf : ∀ b ∈ fp, FpOk X pins H b) (ho : ∀ b ∈ fp, ∃ o, s.heap.get? b = some o ∧ ∀ v, o.data ≠ .cell v) : Inv X (pins ++ pinsAt fp s.heap) σ H s :=
  I.pins_of fun p hp => (List.mem_append.mp hp).elim (fun z => I.pin p (List.mem_append_right _ z)) fun z => by
    obtain ⟨hb, e⟩ := of_pinsAt z
    obtain ⟨f0, f1, f2, _⟩ := hf p.1 hb
    obtain ⟨o, e', d⟩ := ho p.1 hb
    rw [e] at e'; cases e'
    exact ⟨e, f0, f1, f2, d⟩
theorem Inv.unpinned {pins pl : List (Addr × Obj)} {σ : St} {H : Hp} {s : Shared} (I : Inv X (pins ++ pl) σ H s) : Inv X pins σ H s := I.pins_of fun p hp => I.pin p (List.mem_append_right _ (List.mem_append_left _ hp))
theorem ps_for {iter : Expr} {body : List Stmt} {wi : TI} {g : TG} {tb : TS} {pos : Pos} (hp : PassesOwn (model X.prog X.w) X.A X.env X.xe) (hc : X.calm = true) (hi : PI X tg iter wi) (hg : PG X tg g) (hb : PSs X body tb)
    (hs : ∀ x, foldedSetIterable iter X.env x = pure x := by intro _; rfl) : PS X (.For tg iter body [] pos) (tFor wi g tb) := by
  intro pins s σ H D I h
  refine wpAny_For (thn (hi pins s σ H _ I h) fun v s1 h1 => thn h1 fun itv s2 h2 => ?_) hs
  obtain ⟨it, fp, tn, J, H2, e, I2, T, st2, f2, W, ⟨m0, w0⟩, turn⟩ := h2
  subst e
  have stat : ∀ {H' : Hp}, (∀ b ∈ fp, H' b = none) → ∀ b ∈ fp, FpOk X pins H' b := fun hn b hb => ⟨hn b hb, (f2 b hb).2⟩
  refine codeAny_forLoop_any (fun n s' => ∃ i σ' H', Inv X pins σ' H' s' ∧ tn i s'.heap ∧ (∀ b ∈ fp, H' b = none) ∧ W i n σ' H') ?_ m0 ⟨0, σ, H2, I2, st2, fun b hb => (f2 b hb).1, w0⟩
  rintro n s3 ⟨i, σ3, H3, I3, st3, fr3, w3⟩
  rcases turn i n σ3 H3 w3 with ⟨stop, qn⟩ | ⟨go, N, hN, step⟩
  · refine wpAny_passesOwn hp (thn (T.done X rfl rfl rfl hc i pins s3 σ3 H3 X.xe I3 (stat fr3) st3 stop) fun r s4 ⟨hr, I4⟩ => ?_)
    subst hr
    exact wpAny_execs_nil ⟨σ3, H3, I4, qn⟩
  · refine wpAny_passesOwn hp (thn (T.item X rfl rfl rfl hc i pins s3 σ3 H3 X.xe I3 (stat fr3) st3 go) fun r s4 ⟨u, hr, h4⟩ => ?_)
    subst hr
    refine wpAny_passesOwn hp (thn h4 fun _ s5 ⟨x, H5, I5, r5, y5, st5, fr5⟩ => ?_)
    have I5' := I5.pinned (stat fr5) (T.obj _ _ st5)
    refine wpAny_passesOwn hp (thn (hg _ s5 σ3 H5 x u _ I5' r5 (step x H5 y5)) fun _ s6 ⟨σ6, H6, I6, q6⟩ => ?_)
    refine wpAny_passesOwn hp (thn (hb _ s6 σ6 H6 _ I6 q6) fun f s7 q7 => ?_)
    have again : ∀ {σ7 : St} {H7 : Hp}, Inv X (pins ++ pinsAt fp s5.heap) σ7 H7 s7 → N σ7 H7 → ∃ m, m < n ∧ ∃ i σ' H', Inv X pins σ' H' s7 ∧ tn i s7.heap ∧ (∀ b ∈ fp, H' b = none) ∧ W i m σ' H' := fun {σ7 H7} I7 n7 => by
      obtain ⟨m', hm, w7⟩ := hN σ7 H7 n7
      refine ⟨m', hm, i + 1, σ7, H7, I7.unpinned, T.keep _ _ _ st5 fun b hb o e => (I7.pin (b, o) (List.mem_append_right _ (List.mem_append_right _ (mem_pinsAt hb e)))).1, fun b hb => ?_, w7⟩
      obtain ⟨o, e, d⟩ := T.obj _ _ st5 b hb
      exact (I7.pin (b, o) (List.mem_append_right _ (List.mem_append_right _ (mem_pinsAt hb e)))).2.1
    cases f with
    | next => obtain ⟨σ7, H7, I7, n7⟩ := q7; exact again I7 n7
    | cont => obtain ⟨σ7, H7, I7, n7⟩ := q7; exact again I7 n7
    | brk => obtain ⟨σ7, H7, I7, q7⟩ := q7; exact ⟨σ7, H7, I7.unpinned, q7⟩
    | ret v => obtain ⟨x7, σ7, H7, I7, r7, q7⟩ := q7; exact ⟨x7, σ7, H7, I7.unpinned, r7, q7⟩
end
theorem for_list {K : PySem.W.Frag} {a : Addr} {xs : List V} {g : TG} {tb : TS} {D : Ends} {σ : St} {H : Hp} (Pv : Nat → St → Hp → Prop) (h0 : Pv 0 σ H) (hl : ∀ i σ H, i ≤ xs.length → Pv i σ H → SqL K H a xs)
    (hs : ∀ i x σ H, xs[i]? = some x → Pv i σ H → g x σ H fun σ2 H2 => tb { D with nx := Pv (i + 1), ct := Pv (i + 1), bk := D.nx } σ2 H2) (hd : ∀ σ H, Pv xs.length σ H → D.nx σ H) :
    ∃ W : Nat → Nat → St → Hp → Prop, (∃ m, W 0 m σ H) ∧ ∀ i m σ H, W i m σ H →
      ((Itl K a).stop i H ∧ D.nx σ H) ∨ ((Itl K a).go i H ∧ ∃ N : St → Hp → Prop, (∀ σ' H', N σ' H' → ∃ m', m' < m ∧ W (i + 1) m' σ' H') ∧ ∀ x H', (Itl K a).yld i H x H' → g x σ H' fun σ2 H2 => tb { D with nx := N, ct := N, bk := D.nx } σ2 H2) := by
  refine ⟨fun i m σ H => m = xs.length - i ∧ i ≤ xs.length ∧ Pv i σ H, ⟨xs.length, by simp, Nat.zero_le _, h0⟩, ?_⟩
  rintro i m σ H ⟨rfl, hi, p⟩
  have q := hl i σ H hi p
  by_cases hlt : i < xs.length
  · refine .inr ⟨⟨xs, xs[i], q, by simp [hlt]⟩, Pv (i + 1), fun σ' H' p' => ⟨xs.length - (i + 1), by omega, rfl, hlt, p'⟩, fun x H' y => ?_⟩
    obtain ⟨e, y⟩ := y
    subst e
    exact hs i x σ _ (y xs q) p
  · have e : i = xs.length := by omega
    subst e
    exact .inl ⟨⟨xs, q, Nat.le_refl _⟩, hd σ H p⟩
theorem for_range {lo : Int} {n : Nat} {g : TG} {tb : TS} {D : Ends} {σ : St} {H : Hp} (Pv : Nat → St → Hp → Prop) (h0 : Pv 0 σ H)
    (hs : ∀ i σ H, i < n → Pv i σ H → g (.int (lo + i)) σ H fun σ2 H2 => tb { D with nx := Pv (i + 1), ct := Pv (i + 1), bk := D.nx } σ2 H2) (hd : ∀ σ H, Pv n σ H → D.nx σ H) :
    ∃ W : Nat → Nat → St → Hp → Prop, (∃ m, W 0 m σ H) ∧ ∀ i m σ H, W i m σ H →
      ((Itr lo n).stop i H ∧ D.nx σ H) ∨ ((Itr lo n).go i H ∧ ∃ N : St → Hp → Prop, (∀ σ' H', N σ' H' → ∃ m', m' < m ∧ W (i + 1) m' σ' H') ∧ ∀ x H', (Itr lo n).yld i H x H' → g x σ H' fun σ2 H2 => tb { D with nx := N, ct := N, bk := D.nx } σ2 H2) := by
  refine ⟨fun i m σ H => m = n - i ∧ i ≤ n ∧ Pv i σ H, ⟨n, by simp, Nat.zero_le _, h0⟩, ?_⟩
  rintro i m σ H ⟨rfl, hi, p⟩
  by_cases hlt : i < n
  · refine .inr ⟨hlt, Pv (i + 1), fun σ' H' p' => ⟨n - (i + 1), by omega, rfl, hlt, p'⟩, fun x H' y => ?_⟩
    obtain ⟨e, y⟩ := y
    subst e y
    exact hs i σ _ hlt p
  · have e : i = n := by omega
    subst e
    exact .inl ⟨Nat.le_refl _, hd σ H p⟩
theorem while_by {c : TT} {tb : TS} {D : Ends} {σ : St} {H : Hp} (Pv : St → Hp → Prop) (μ : St → Hp → Nat) (h0 : Pv σ H)
    (hs : ∀ σ H, Pv σ H → c σ H fun b H1 => if b = true then tb { D with nx := fun σ' H' => Pv σ' H' ∧ μ σ' H' < μ σ H, ct := fun σ' H' => Pv σ' H' ∧ μ σ' H' < μ σ H, bk := D.nx } σ H1 else D.nx σ H1)
    (mono : ∀ σ H Q Q', (∀ b H1, Q b H1 → Q' b H1) → c σ H Q → c σ H Q') : tWhile c tb D σ H := by
  refine ⟨fun m σ H => m = μ σ H ∧ Pv σ H, ⟨_, rfl, h0⟩, ?_⟩
  rintro m σ H ⟨rfl, p⟩
  refine mono σ H _ _ (fun b H1 q => ?_) (hs σ H p)
  cases b with
  | true => exact ⟨_, fun σ' H' ⟨p', l⟩ => ⟨_, l, rfl, p'⟩, q⟩
  | false => exact q
end L2
namespace L2
open PySem PySem.Spec PyProof.Rows
abbrev R2 := V → V → Hp → VK → Prop
def OpR (X : Cx) (f : Value → Value → Sem Value) (r : R2) : Prop :=
  ∀ (pins : List (Addr × Obj)) (s : Shared) (σ : St) (H : Hp) (x y : V) (v u : Value) (Q : VK), Inv X pins σ H s → RelV x v → RelV y u → r x y H Q →
    wpAny (model X.prog X.w) X.A (f v u) (EP X pins σ Q) X.xe s
def UnR (X : Cx) (f : Value → Sem Value) (r : V → Hp → VK → Prop) : Prop :=
  ∀ (pins : List (Addr × Obj)) (s : Shared) (σ : St) (H : Hp) (x : V) (v : Value) (Q : VK), Inv X pins σ H s → RelV x v → r x H Q →
    wpAny (model X.prog X.w) X.A (f v) (EP X pins σ Q) X.xe s
def CallR (X : Cx) (f : Value) (r : List V → Hp → VK → Prop) : Prop :=
  ∀ (pins : List (Addr × Obj)) (s : Shared) (σ : St) (H : Hp) (xs : List V) (us : List Value) (Q : VK), Inv X pins σ H s → Vals xs us → r xs H Q →
    wpAny (model X.prog X.w) X.A (call f us) (EP X pins σ Q) X.xe s
def tOp (r : R2) (ta tb : TE) : TE := fun σ H Q => ta σ H fun x H1 => tb σ H1 fun y H2 => r x y H2 Q
def tUn (r : V → Hp → VK → Prop) (ta : TE) : TE := fun σ H Q => ta σ H fun x H1 => r x H1 Q
def rI (C : Int → Int → Prop) (g : Int → Int → V) : R2 := fun x y H Q => ∃ i j, x = .int i ∧ y = .int j ∧ C i j ∧ Q (g i j) H
def rI0 (g : Int → Int → V) : R2 := fun x y H Q => ∃ i j, x = .int i ∧ y = .int j ∧ Q (g i j) H
def rU (g : Int → V) : V → Hp → VK → Prop := fun x H Q => ∃ i, x = .int i ∧ Q (g i) H
section
variable {X : Cx} {a b c : Expr} {ta tb tc : TE} {pos : Pos}
theorem binT (ha : PE X a ta) (hb : PE X b tb) {pins : List (Addr × Obj)} {s : Shared} {σ : St} {H : Hp} {R : V → V → Hp → Prop} (I : Inv X pins σ H s)
    (h : ta σ H fun x H1 => tb σ H1 fun y H2 => R x y H2) {Q : Value → Shared → Prop} {f : Value → Value → Sem Value}
    (hf : ∀ v u s2 x y H2, Inv X pins σ H2 s2 → RelV x v → RelV y u → R x y H2 → wpAny (model X.prog X.w) X.A (f v u) Q X.xe s2) :
    wpAny (model X.prog X.w) X.A (eval a X.env) (fun v s₁ => wpAny (model X.prog X.w) X.A (eval b X.env) (fun u s₂ => wpAny (model X.prog X.w) X.A (f v u) Q X.xe s₂) X.xe s₁) X.xe s := by
  refine thn (ha pins s σ H _ I h) fun v s1 ⟨x, H1, I1, r1, q1⟩ => ?_
  refine thn (hb pins s1 σ H1 _ I1 q1) fun u s2 ⟨y, H2, I2, r2, q2⟩ => ?_
  exact hf v u s2 x y H2 I2 r1 r2 q2
theorem pe_op {op : Operator} {r : R2} (ho : OpR X (binaryOp op) r) (ha : PE X a ta) (hb : PE X b tb) : PE X (.BinOp a op b pos) (tOp r ta tb) := by
  intro pins s σ H Q I h
  exact wpAny_BinOp (binT ha hb I h fun v u s2 x y H2 I2 rx ry q => ho pins s2 σ H2 x y v u Q I2 rx ry q)
theorem pe_un {op : UnaryOp} {r : V → Hp → VK → Prop} (ho : UnR X (unaryOp op) r) (ha : PE X a ta) : PE X (.UnaryOp op a pos) (tUn r ta) := by
  intro pins s σ H Q I h
  exact UnaryOp_ (thn (ha pins s σ H _ I h) fun v s1 ⟨x, H1, I1, r1, q1⟩ => ho pins s1 σ H1 x v Q I1 r1 q1)
theorem opI {f : Value → Value → Sem Value} {C : Int → Int → Prop} {g : Int → Int → Int}
    (rule : ∀ (i j : Int) (t u : Tok) (s : Shared) (Q : Value → Shared → Prop) (E : Value → Shared → Prop), C i j → Q (.int (g i j) s.toks) { s with toks := s.toks + 1 } → wpAny (model X.prog X.w) X.A (f (.int i t) (.int j u)) Q E s) :
    OpR X f (rI C fun i j => .int (g i j)) := by
  intro pins s σ H x y v u Q I rx ry h
  obtain ⟨i, j, rfl, rfl, hc, q⟩ := h
  obtain ⟨t, rfl⟩ := rx
  obtain ⟨t', rfl⟩ := ry
  exact rule i j t t' s _ _ hc ⟨.int (g i j), H, I.tok _, ⟨_, rfl⟩, q⟩
theorem opI0 {f : Value → Value → Sem Value} {g : Int → Int → Int}
    (rule : ∀ (i j : Int) (t u : Tok) (s : Shared) (Q : Value → Shared → Prop) (E : Value → Shared → Prop), Q (.int (g i j) s.toks) { s with toks := s.toks + 1 } → wpAny (model X.prog X.w) X.A (f (.int i t) (.int j u)) Q E s) :
    OpR X f (rI0 fun i j => .int (g i j)) := by
  intro pins s σ H x y v u Q I rx ry h
  obtain ⟨i, j, rfl, rfl, q⟩ := h
  obtain ⟨t, rfl⟩ := rx
  obtain ⟨t', rfl⟩ := ry
  exact rule i j t t' s _ _ ⟨.int (g i j), H, I.tok _, ⟨_, rfl⟩, q⟩
theorem opB0 {f : Value → Value → Sem Value} {g : Int → Int → Bool}
    (rule : ∀ (i j : Int) (t u : Tok) (s : Shared) (Q : Value → Shared → Prop) (E : Value → Shared → Prop), Q (.bool (g i j)) s → wpAny (model X.prog X.w) X.A (f (.int i t) (.int j u)) Q E s) :
    OpR X f (rI0 fun i j => .bl (g i j)) := by
  intro pins s σ H x y v u Q I rx ry h
  obtain ⟨i, j, rfl, rfl, q⟩ := h
  obtain ⟨t, rfl⟩ := rx
  obtain ⟨t', rfl⟩ := ry
  exact rule i j t t' s _ _ ⟨.bl (g i j), H, I, rfl, q⟩
def CDiv (i j : Int) : Prop := 0 < j ∧ j < 1073741824
def CMul (i j : Int) : Prop := (-(2 ^ 64) < i ∧ i < 2 ^ 64) ∨ (-(2 ^ 64) < j ∧ j < 2 ^ 64)
theorem op_add : OpR X (binaryOp .Add) (rI0 fun i j => .int (i + j)) := opI0 fun _ _ _ _ _ _ _ q => add_int q
theorem op_sub : OpR X (binaryOp .Sub) (rI0 fun i j => .int (i - j)) := opI0 fun _ _ _ _ _ _ _ q => sub_int q
theorem op_fdiv : OpR X (binaryOp .FloorDiv) (rI CDiv fun i j => .int (i / j)) := opI fun i j _ _ _ _ _ hc q => by
  have h1 : (0 : Int) < j := hc.1
  have h2 : j < 1073741824 := hc.2
  exact floordiv_int (by omega) (by rw [Int.fdiv_eq_ediv_of_nonneg i (by omega)]; exact q) (.inl (PyProof.noPylong_small (by omega)))
theorem unI {f : Value → Sem Value} {g : Int → Int}
    (rule : ∀ (i : Int) (t : Tok) (s : Shared) (Q : Value → Shared → Prop) (E : Value → Shared → Prop), Q (.int (g i) s.toks) { s with toks := s.toks + 1 } → wpAny (model X.prog X.w) X.A (f (.int i t)) Q E s) :
    UnR X f (rU fun i => .int (g i)) := by
  intro pins s σ H x v Q I rx h
  obtain ⟨i, rfl, q⟩ := h
  obtain ⟨t, rfl⟩ := rx
  exact rule i t s _ _ ⟨.int (g i), H, I.tok _, ⟨_, rfl⟩, q⟩
theorem un_neg : UnR X (unaryOp .USub) (rU fun i => .int (-i)) := unI fun _ _ _ _ _ q => neg_int q
end
def scal : V → V → Bool
  | .non, .non => true | .non, .int _ => true | .int _, .non => true | .non, .bl _ => true | .bl _, .non => true | .non, .str _ => true | .str _, .non => true
  | .int _, .int _ => true | .bl _, .bl _ => true | .str _, .str _ => true | .byt _, .byt _ => true
  | .int _, .str _ => true | .str _, .int _ => true | .bl _, .str _ => true | .str _, .bl _ => true
  | _, _ => false
def rEq : R2 := fun x y H Q => scal x y = true ∧ Q (.bl (decide (x = y))) H
def rNe : R2 := fun x y H Q => scal x y = true ∧ Q (.bl (!decide (x = y))) H
theorem dec_int {i j : Int} : decide (V.int i = V.int j) = (i == j) := by
  rw [Bool.eq_iff_iff]
  simp
theorem dec_bl {i j : Bool} : decide (V.bl i = V.bl j) = (i == j) := by
  rw [Bool.eq_iff_iff]
  simp
theorem dec_str {i j : Str} : decide (V.str i = V.str j) = (i == j) := by
  rw [Bool.eq_iff_iff]
  simp
theorem dec_byt {i j : Array UInt8} : decide (V.byt i = V.byt j) = (i.toList == j.toList) := by
  rw [Bool.eq_iff_iff]
  cases i
  cases j
  simp
section
variable {X : Cx} {a b c : Expr} {ta tb tc : TE} {pos : Pos}
theorem fin_bl {pins : List (Addr × Obj)} {σ : St} {H : Hp} {s : Shared} {Q : VK} {k k' : Bool} (I : Inv X pins σ H s) (q : Q (.bl k) H) (e : k = k') : EP X pins σ Q (.bool k') s := by
  subst e
  exact ⟨.bl k, H, I, rfl, q⟩
theorem op_eq : OpR X (compareOp .Eq) rEq := by
  intro pins s σ H x y v u Q I rx ry h
  obtain ⟨hs, q⟩ := h
  cases x with
  | non =>
    cases rx
    cases y with
    | non => cases ry; exact PySem.EqNone.eq_none_none (fin_bl I q (by simp))
    | bl j => cases ry; exact PySem.EqNone.eq_none_bool (fin_bl I q (by simp))
    | int j => obtain ⟨t', rfl⟩ := ry; exact PySem.EqNone.eq_none_int (fin_bl I q (by simp))
    | str j => obtain ⟨t', rfl⟩ := ry; exact PySem.EqNone.eq_none_str (fin_bl I q (by simp))
    | _ => exact absurd (show false = true from hs) Bool.false_ne_true
  | bl i =>
    cases rx
    cases y with
    | non => cases ry; exact PySem.EqNone.eq_bool_none (fin_bl I q (by simp))
    | bl j => cases ry; exact eq_bool (fin_bl I q dec_bl)
    | str j => obtain ⟨t', rfl⟩ := ry; exact PySem.EqMixed.eq_bool_str (fin_bl I q (by simp))
    | _ => exact absurd (show false = true from hs) Bool.false_ne_true
  | int i =>
    obtain ⟨t, rfl⟩ := rx
    cases y with
    | non => cases ry; exact PySem.EqNone.eq_int_none (fin_bl I q (by simp))
    | int j => obtain ⟨t', rfl⟩ := ry; exact eq_int (fin_bl I q dec_int)
    | str j => obtain ⟨t', rfl⟩ := ry; exact PySem.EqMixed.eq_int_str (fin_bl I q (by simp))
    | _ => exact absurd (show false = true from hs) Bool.false_ne_true
  | str i =>
    obtain ⟨t, rfl⟩ := rx
    cases y with
    | non => cases ry; exact PySem.EqNone.eq_str_none (fin_bl I q (by simp))
    | bl j => cases ry; exact PySem.EqMixed.eq_str_bool (fin_bl I q (by simp))
    | int j => obtain ⟨t', rfl⟩ := ry; exact PySem.EqMixed.eq_str_int (fin_bl I q (by simp))
    | str j => obtain ⟨t', rfl⟩ := ry; exact eq_str (fin_bl I q dec_str)
    | _ => exact absurd (show false = true from hs) Bool.false_ne_true
  | byt i =>
    obtain ⟨t, rfl⟩ := rx
    cases y with
    | byt j => obtain ⟨t', rfl⟩ := ry; exact PySem.W.eq_bytes (fin_bl I q dec_byt)
    | _ => exact absurd (show false = true from hs) Bool.false_ne_true
  | _ => cases y <;> exact absurd (show false = true from hs) Bool.false_ne_true
theorem op_lt : OpR X (compareOp .Lt) (rI0 fun i j => .bl (decide (i < j))) := opB0 fun _ _ _ _ _ _ _ q => lt_int q
theorem op_le : OpR X (compareOp .LtE) (rI0 fun i j => .bl (decide (i ≤ j))) := opB0 fun _ _ _ _ _ _ _ q => le_int q
theorem op_isN : OpR X (compareOp .Is) (fun x y H Q => y = .non ∧ Q (.bl (decide (x = .non))) H) := by
  intro pins s σ H x y v u Q I rx ry h
  obtain ⟨rfl, q⟩ := h
  cases ry
  refine is_none_gen (fin_bl I q ?_)
  cases x <;> first
    | (cases rx; rfl)
    | (obtain ⟨t, rfl⟩ := rx; rfl)
theorem op_notN : OpR X (compareOp .IsNot) (fun x y H Q => y = .non ∧ Q (.bl (!decide (x = .non))) H) := by
  intro pins s σ H x y v u Q I rx ry h
  obtain ⟨rfl, q⟩ := h
  cases ry
  refine isnot_none_gen (fin_bl I q ?_)
  cases x <;> first
    | (cases rx; rfl)
    | (obtain ⟨t, rfl⟩ := rx; rfl)
theorem nomark (b : Expr) {op : CmpOp} (h : op ≠ .In := by decide) (h2 : op ≠ .NotIn := by decide) : behindInMarks op b = false := by
  have e1 : (op == CmpOp.In) = false := by cases op <;> first | rfl | exact absurd rfl h
  have e2 : (op == CmpOp.NotIn) = false := by cases op <;> first | rfl | exact absurd rfl h2
  cases b <;> simp [behindInMarks, e1, e2]
theorem pe_cmpR {op : CmpOp} {r : R2} (ho : OpR X (compareOp op) r) (ha : PE X a ta) (hb : PE X b tb) (hm : behindInMarks op b = false) : PE X (.Compare a [op] [b] pos) (tOp r ta tb) := by
  intro pins s σ H Q I h
  exact wpAny_Compare1 (binT ha hb I h fun v u s2 x y H2 I2 rx ry q => ho pins s2 σ H2 x y v u Q I2 rx ry q) hm
def tTest (t : TE) : TT := fun σ H Q => t σ H fun x H' => ∃ k, x = .bl k ∧ Q k H'
theorem pt_cmpR {op : CmpOp} {r : R2} (ho : OpR X (compareOp op) r) (ha : PE X a ta) (hb : PE X b tb) (hm : behindInMarks op b = false) : PT X (.Compare a [op] [b] pos) (tTest (tOp r ta tb)) := by
  intro pins s σ H Q I h
  refine wpAny_isTrue_Compare1 (thn (ha pins s σ H _ I h) fun v s1 ⟨x, H1, I1, r1, q1⟩ => thn (hb pins s1 σ H1 _ I1 q1) fun u s2 ⟨y, H2, I2, r2, q2⟩ =>
    thn (ho pins s2 σ H2 x y v u _ I2 r1 r2 q2) fun c s3 ⟨z, H3, I3, r3, k, e, q3⟩ => ?_) hm
  subst e
  cases r3
  exact wpAny_truthy_bool ⟨H3, I3, q3⟩
def tChain (r r' : R2) (ta tb tc : TE) : TE := fun σ H Q => ta σ H fun x H1 => tb σ H1 fun y H2 => r x y H2 fun z H3 => ∃ k, z = .bl k ∧
  (if k = true then tc σ H3 fun w' H4 => r' y w' H4 Q else Q (.bl false) H3)
theorem pe_chain {op op' : CmpOp} {r r' : R2} (ho : OpR X (compareOp op) r) (ho' : OpR X (compareOp op') r') (ha : PE X a ta) (hb : PE X b tb) (hc : PE X c tc)
    (hm : lastMarks [op, op'] [b, c] = false := by with_unfolding_all rfl) : PE X (.Compare a [op, op'] [b, c] pos) (tChain r r' ta tb tc) := by
  intro pins s σ H Q I h
  refine Compare_chain (thn (ha pins s σ H _ I h) fun v s1 ⟨x, H1, I1, r1, q1⟩ => chain_link (thn (hb pins s1 σ H1 _ I1 q1) fun u s2 ⟨y, H2, I2, r2, q2⟩ =>
    thn (ho pins s2 σ H2 x y v u _ I2 r1 r2 q2) fun d s3 ⟨z, H3, I3, r3, k, e, q3⟩ => ?_)) hm
  subst e
  cases r3
  refine wpAny_truthy_bool ?_
  cases k with
  | false => exact ite_ff ⟨.bl false, H3, I3, rfl, q3⟩
  | true => exact ite_tt (chain_last (thn (hc pins s3 σ H3 _ I3 q3) fun w' s4 ⟨z', H4, I4, r4, q4⟩ => ho' pins s4 σ H4 y z' u w' Q I4 r2 r4 q4))
theorem line63 : (sizeLine : Nat) < 2 ^ 63 := by rw [sizeLine_eq]; decide
theorem vals1 {x : V} {us : List Value} (r : Vals [x] us) : ∃ u, us = [u] ∧ RelV x u := by
  cases r with
  | cons r1 r2 => cases r2; exact ⟨_, rfl, r1⟩
theorem vals2 {x y : V} {us : List Value} (r : Vals [x, y] us) : ∃ u w', us = [u, w'] ∧ RelV x u ∧ RelV y w' := by
  cases r with
  | cons r1 r2 =>
    cases r2 with
    | cons r3 r4 => cases r4; exact ⟨_, _, rfl, r1, r3⟩
theorem call_max2 (hc : X.calm = true) : CallR X (.builtin "max") (fun xs H Q => ∃ i j, xs = [.int i, .int j] ∧ Q (.int (if j > i then j else i)) H) := by
  intro pins s σ H xs us Q I r h
  obtain ⟨i, j, rfl, q⟩ := h
  obtain ⟨u, w', rfl, ⟨t, rfl⟩, ⟨t', rfl⟩⟩ := vals2 r
  refine max_two_ints (I.ok.hd hc) fun h' tk k => ⟨_, H, I.kept k, ?_, q⟩
  by_cases hj : j > i
  · rw [if_pos hj, if_pos hj]; exact ⟨_, rfl⟩
  · rw [if_neg hj, if_neg hj]; exact ⟨_, rfl⟩
theorem call_min2 (hc : X.calm = true) : CallR X (.builtin "min") (fun xs H Q => ∃ i j, xs = [.int i, .int j] ∧ Q (.int (if j < i then j else i)) H) := by
  intro pins s σ H xs us Q I r h
  obtain ⟨i, j, rfl, q⟩ := h
  obtain ⟨u, w', rfl, ⟨t, rfl⟩, ⟨t', rfl⟩⟩ := vals2 r
  refine min_two_ints (I.ok.hd hc) fun h' tk k => ⟨_, H, I.kept k, ?_, q⟩
  by_cases hj : j < i
  · rw [if_pos hj, if_pos hj]; exact ⟨_, rfl⟩
  · rw [if_neg hj, if_neg hj]; exact ⟨_, rfl⟩
end
end L2
namespace L2
open PySem PySem.Spec PyProof.Rows
structure ObjM (h : Heap) (x dx C : Addr) (mA : Str → Option Value) : Prop where
  obj : h.get? x = some (PySem.W.instObj C dx)
  ns : h.Ns1 dx mA
  ne : dx ≠ x
theorem lookIn_ns {h : Heap} {dx : Addr} {mA : Str → Option Value} (n : h.Ns1 dx mA) : ∃ od, h.get? dx = some od ∧ ∀ name, PySem.W.lookIn name od = some (mA name) := by
  obtain ⟨o, es, ep, ho, hd, hk, _, hm⟩ := n
  refine ⟨o, ho, fun name => ?_⟩
  have e := hm name
  unfold nsFind findBy at e
  rw [← Array.find?_toList] at e
  unfold PySem.W.lookIn
  rw [hd]
  dsimp only
  split
  · rename_i y q
    rw [q] at e
    exact congrArg some e
  · rename_i q
    rw [q] at e
    have a : es.toList.any (·.refKey) = false := by
      rw [List.any_eq_false]
      intro y hy
      obtain ⟨z, t, hkey⟩ := hk y (Array.mem_toList_iff.mp hy)
      simp [DictEntry.refKey, hkey]
    have a' : ¬ es.toList.any (·.refKey) = true := by rw [a]; exact Bool.false_ne_true
    rw [if_neg a']
    exact congrArg some e
theorem ObjM.look {h : Heap} {x dx C : Addr} {mA : Str → Option Value} (I : ObjM h x dx C mA) : ∃ od, PySem.W.InstAt h x (PySem.W.instObj C dx) C (some od) ∧ ∀ name, PySem.W.lookIn name od = some (mA name) :=
  let ⟨od, ho, hl⟩ := lookIn_ns I.ns
  ⟨od, ⟨I.obj, rfl, rfl, ho⟩, hl⟩
section
variable {prog : Program} {w : World} {A : Around} {E : Value → Shared → Prop} {s : Shared} {K : PySem.W.Frag} {x dx C f : Addr} {mA : Str → Option Value} {name : Str} {v : Value}
theorem get_map {expr : Bool} {Q : Value → Shared → Prop} (X : K.In s.heap) (I : ObjM s.heap x dx C mA) (hg : PySem.W.plainGet K C name = true) (hh : PySem.W.hasDictIn K C = true)
    (ha : PySem.W.findIn K (.ref C) name = some none) (hv : mA name = some v) (hv' : PySem.W.handedIn v = true) (h : Q v { s with toks := s.toks + 1 }) :
    wpAny (model prog w) A (getAttr (.ref x) name expr) Q E s := by
  obtain ⟨od, J, hl⟩ := I.look
  exact PySem.W.get_value X J (PySem.W.plainGet_of hg).1 (PySem.W.findObj_own hh ha rfl (by rw [hl, hv])) hv' h
theorem get_meth {pl : Sem Bool} {Q : Value × List Value → Shared → Prop} (X : K.In s.heap) (I : ObjM s.heap x dx C mA) (hg : PySem.W.plainGet K C name = true)
    (hf : PySem.W.findIn K (.ref C) name = some (some (.ref f))) (ht : PySem.W.isFn K (.ref f) = true) (hv : mA name = none) (h : Q (.ref f, [.ref x]) s) :
    wpAny (model prog w) A (getMethod (.ref x) name pl) Q E s := by
  obtain ⟨od, J, hl⟩ := I.look
  exact PySem.W.method_fn X J (PySem.W.plainGet_of hg).1 (PySem.W.plainGet_of hg).2 hf (beq_iff_eq.mp ht) (by show (PySem.W.lookIn name od).map (·.isSome) = some false; rw [hl, hv]; rfl) h
theorem set_map {ns : List Str} {Q : Unit → Shared → Prop} (X : K.In s.heap) (I : ObjM s.heap x dx C mA)
    (hs : PySem.W.findIn K (.ref C) "__setattr__" = some (some (.builtin "object.__setattr__"))) (hp : PySem.W.plainOver K C = true) (ht : PySem.W.takerIn K C name = some none) (hh : PySem.W.hasDictIn K C = true)
    (hw : PySem.Within mA ns) (hsz : ns.length ≤ sizeLine)
    (h : ∀ h', ObjM h' x dx C (fun y => if y = name then some v else mA y) → Heap.SameBut dx s.heap h' → Q () { s with heap := h', toks := s.toks + 2 }) :
    wpAny (model prog w) A (setAttr (.ref x) name v) Q E s := by
  obtain ⟨od, J, hl⟩ := I.look
  refine PySem.W.set_plain X J hs (PySem.W.osa_open (s := { s with toks := s.toks + 1 }) (r := none) X J hp ht fun b => ?_)
  obtain ⟨cd, hc, hd'⟩ := PySem.W.any_some hh
  have hx : s.heap.get? x = some ⟨.ref C, some dx, .plain, #[]⟩ := I.obj
  refine wpAny_bind (wpAny_pure (wpAny_bind (wpAny_bind (wpAny_loadPart hx (wpAny_bind (PySem.W.Looks.here (s := { s with toks := s.toks + 1 }) (PySem.W.looks_clsIn X hc) ?_))))))
  rw [hd']
  refine wpAny_pure (a := some dx) (wpAny_bind (wpAny_pure (wpAny_bind ?_)))
  refine wpAny_nsSet1 (s := { s with toks := s.toks + 1 }) I.ns fun h' hn2 hs2 => ?_
  obtain ⟨oD, esD, epD, hoD, hdD, hcD⟩ := hn2.count (PySem.Within.cons name v hw)
  refine wpAny_bind (wpAny_lookBehind hoD (by rw [hdD]; exact pastItsLine_dict (Nat.le_trans hcD (by rw [List.length_cons]; omega))) ?_)
  exact wpAny_pure (h _ ⟨(hs2.2 _ (Ne.symm I.ne)).trans I.obj, hn2, I.ne⟩ hs2)
theorem make_map {R : Result → Shared → Prop} {vs : List Value} {kw : List (Str × Value)} (X : K.In s.heap) (hm : PySem.W.makesIn K C = true)
    (hi : PySem.W.findIn K (.ref C) "__init__" = some (some (.ref f))) (hf : PySem.W.typeIn K (.ref f) = some (.type "function"))
    (h : codeAny (model prog w) (A.under (.builtin "type.__call__" ⟨.ref C :: vs, kw⟩)) (.call (.ref f) ⟨.ref (s.heap.objs.size + 1) :: vs, kw⟩) (PySem.W.InitBack (s.heap.objs.size + 1) R)
      { s with heap := (s.heap.push PySem.W.emptyDict).push (PySem.W.instObj C s.heap.objs.size) }) :
    codeAny (model prog w) A (.call (.ref C) ⟨vs, kw⟩) R s := by
  obtain ⟨hh, g, d, t, os⟩ := s
  exact PySem.W.make_core (PySem.W.makes_of X hm) (PySem.W.looks_findIn X hi) (fun self => PySem.W.bind_fn X self hf) (.inl rfl) h
end
def putF (f : Str) (v : V) : List (Str × V) → List (Str × V)
  | [] => [(f, v)]
  | (g, x) :: r => if g = f then (g, v) :: r else (g, x) :: putF f v r
theorem lookup_putF (f g : Str) (v : V) : ∀ fs : List (Str × V), (putF f v fs).lookup g = if g = f then some v else fs.lookup g
  | [] => by
    show List.lookup g [(f, v)] = _
    by_cases h : g = f
    · have hb : (g == f) = true := beq_iff_eq.mpr h
      simp only [List.lookup, hb, if_pos h]
    · have hb : (g == f) = false := beq_eq_false_iff_ne.mpr h
      simp only [List.lookup, hb, if_neg h]
  | (k, x) :: r => by
    have ih := lookup_putF f g v r
    rw [show putF f v ((k, x) :: r) = (if k = f then (k, v) :: r else (k, x) :: putF f v r) from rfl]
    by_cases hk : k = f
    · rw [if_pos hk]
      by_cases h : g = k
      · have hb : (g == k) = true := beq_iff_eq.mpr h
        simp only [List.lookup, hb, if_pos (h.trans hk)]
      · have hb : (g == k) = false := beq_eq_false_iff_ne.mpr h
        simp only [List.lookup, hb, if_neg (fun e : g = f => h (e.trans hk.symm))]
    · rw [if_neg hk]
      by_cases h : g = k
      · have hb : (g == k) = true := beq_iff_eq.mpr h
        simp only [List.lookup, hb, if_neg (fun e : g = f => hk (h.symm.trans e))]
      · have hb : (g == k) = false := beq_eq_false_iff_ne.mpr h
        simp only [List.lookup, hb]
        exact ih
theorem keys_putF (f : Str) (v : V) : ∀ fs : List (Str × V), f ∈ (putF f v fs).map (·.1) ∧ ∀ g, g ∈ fs.map (·.1) → g ∈ (putF f v fs).map (·.1)
  | [] => ⟨by simp [putF], fun g h => by simp at h⟩
  | (k, x) :: r => by
    obtain ⟨i1, i2⟩ := keys_putF f v r
    rw [show putF f v ((k, x) :: r) = (if k = f then (k, v) :: r else (k, x) :: putF f v r) from rfl]
    by_cases hk : k = f
    · rw [if_pos hk]
      subst hk
      exact ⟨by simp, fun g h => by simpa using h⟩
    · rw [if_neg hk]
      refine ⟨?_, fun g h => ?_⟩
      · rw [List.map_cons]
        exact List.mem_cons_of_mem _ i1
      · rw [List.map_cons] at h ⊢
        rcases List.mem_cons.mp h with e | e
        · exact List.mem_cons.mpr (.inl e)
        · exact List.mem_cons_of_mem _ (i2 g e)
theorem length_putF (f : Str) (v : V) : ∀ fs : List (Str × V), (putF f v fs).length ≤ fs.length + 1
  | [] => by simp [putF]
  | (k, x) :: r => by
    have ih := length_putF f v r
    rw [show putF f v ((k, x) :: r) = (if k = f then (k, v) :: r else (k, x) :: putF f v r) from rfl]
    by_cases hk : k = f
    · rw [if_pos hk, List.length_cons, List.length_cons]; omega
    · rw [if_neg hk, List.length_cons, List.length_cons]; omega
theorem RelO.some_of {v : V} {o : Option Value} (r : RelO (some v) o) : ∃ u, o = some u ∧ RelV v u := by
  cases o with
  | none => exact (show False from r).elim
  | some u => exact ⟨u, rfl, r⟩
theorem RelO.none_of {o : Option Value} (r : RelO none o) : o = none := by
  cases o with
  | none => rfl
  | some u => exact (show False from r).elim
theorem handed_of {v : V} {u : Value} (r : RelV v u) : PySem.W.handedIn u = true := by
  cases v with
  | non => cases (show u = Value.none from r); rfl
  | bl b => cases (show u = Value.bool b from r); rfl
  | int i => obtain ⟨t, e⟩ := (show ∃ t, u = Value.int i t from r); cases e; rfl
  | str x => obtain ⟨t, e⟩ := (show ∃ t, u = Value.str x t from r); cases e; rfl
  | byt b => obtain ⟨t, e⟩ := (show ∃ t, u = Value.bytes b t from r); cases e; rfl
  | flt b => obtain ⟨t, e⟩ := (show ∃ t, u = Value.float b t from r); cases e; rfl
  | ref a => cases (show u = Value.ref a from r); rfl
  | ty n => cases (show u = Value.type n from r); rfl
section
variable {P : Program} {w : World} {H H' : Hp} {h h' : Heap} {a C dx : Addr} {fs fs' : List (Str × V)}
theorem ins_get (hok : HOk P w H h) (e : H a = some (.ins C dx fs)) : ∃ mA, ObjM h a dx C mA ∧ (∀ f, RelO (fs.lookup f) (mA f)) ∧ PySem.Within mA (fs.map (·.1)) ∧ fs.length ≤ 1000 ∧ H dx = some (.own a) := by
  obtain ⟨d, z, ne, ob, mA, n, r, q⟩ := (show ObjOk P w H h a (.ins C dx fs) from hok a _ e)
  exact ⟨mA, ⟨ob, n, ne⟩, r, q, z, d⟩
end
structure Cls (K : PySem.W.Frag) (C : Addr) : Prop where
  pg : PySem.W.plainGet K C Str.empty = true
  hd : PySem.W.hasDictIn K C = true
  po : PySem.W.plainOver K C = true
  sa : PySem.W.findIn K (.ref C) "__setattr__" = some (some (.builtin "object.__setattr__"))
theorem Cls.get {K : PySem.W.Frag} {C : Addr} (c : Cls K C) (f : Str) : PySem.W.plainGet K C f = true := c.pg
def NoAttr (K : PySem.W.Frag) (C : Addr) (f : Str) : Prop := PySem.W.findIn K (.ref C) f = some none
theorem NoAttr.taker {K : PySem.W.Frag} {C : Addr} {f : Str} (n : NoAttr K C f) : PySem.W.takerIn K C f = some none := by
  unfold PySem.W.takerIn
  rw [show PySem.W.findIn K (.ref C) f = some none from n]
  rfl
structure Con (K : PySem.W.Frag) (C : Addr) (f : Str) (v : V) (u : Value) : Prop where
  at_ : PySem.W.findIn K (.ref C) f = some (some u)
  rel : RelV v u
  get : PySem.W.specialIn K u "__get__" = some none
  cp : PySem.W.copiedNames.contains f = false
structure Meth (K : PySem.W.Frag) (C : Addr) (m : Str) (f : Addr) : Prop where
  at_ : PySem.W.findIn K (.ref C) m = some (some (.ref f))
  fn : PySem.W.isFn K (.ref f) = true
  kp : PySem.W.keepIn K (.ref f) = true
section
variable {X : Cx} {pins : List (Addr × Obj)} {σ : St} {H : Hp} {s : Shared} {a C dx : Addr} {fs : List (Str × V)} {f : Str} {v : V} {A : Around} {E : Value → Shared → Prop}
theorem getattr_ok {b : Bool} {Q : Value → Shared → Prop} (I : Inv X pins σ H s) (e : H a = some (.ins C dx fs)) (c : Cls X.K C) (n : NoAttr X.K C f) (l : fs.lookup f = some v)
    (h : ∀ u s', Inv X pins σ H s' → RelV v u → Q u s') : wpAny (model X.prog X.w) A (getAttr (.ref a) f b) Q E s := by
  obtain ⟨mA, O, r, _, _, _⟩ := ins_get I.hok e
  obtain ⟨u, hu, ru⟩ := RelO.some_of (v := v) (o := mA f) (by rw [← l]; exact r f)
  exact get_map I.kIn O (c.get f) c.hd n hu (handed_of ru) (h u _ (I.tok _) ru)
theorem getmeth_ok {m : Str} {g : Addr} {pl : Sem Bool} {Q : Value × List Value → Shared → Prop} (I : Inv X pins σ H s) (e : H a = some (.ins C dx fs)) (c : Cls X.K C) (k : Meth X.K C m g) (l : fs.lookup m = none)
    (h : Q (.ref g, [.ref a]) s) : wpAny (model X.prog X.w) A (getMethod (.ref a) m pl) Q E s := by
  obtain ⟨mA, O, r, _, _, _⟩ := ins_get I.hok e
  have hn : mA m = none := RelO.none_of (by rw [← l]; exact r m)
  exact get_meth I.kIn O (c.get m) k.at_ k.fn hn h
theorem setattr_ok {y : V} {u : Value} {Q : Unit → Shared → Prop} (I : Inv X pins σ H s) (e : H a = some (.ins C dx fs)) (c : Cls X.K C) (n : NoAttr X.K C f) (hl : fs.length < 1000) (ry : RelV y u)
    (h : ∀ s', Inv X pins σ (upd H a (.ins C dx (putF f y fs))) s' → Q () s') : wpAny (model X.prog X.w) A (setAttr (.ref a) f u) Q E s := by
  obtain ⟨mA, O, r, wi, _, ho⟩ := ins_get I.hok e
  have hz : (fs.map (·.1)).length ≤ sizeLine := by rw [List.length_map, sizeLine_eq]; omega
  refine set_map I.kIn O c.sa c.po n.taker c.hd wi hz fun h' O' sb => h _ ?_
  have hd : ∃ o, h'.get? dx = some o := let ⟨o, _, _, e', _⟩ := O'.ns; ⟨o, e'⟩
  refine I.write (x := a) (e := dx) (by rw [e]; exact True.intro) (.inr ho) (fun b q hb z => (sb.2 b hb).trans z) hd ?_
  refine ⟨by rw [upd_ne O.ne]; exact ho, ?_, O.ne, O'.obj, _, O'.ns, fun g => ?_, fun g hg => ?_⟩
  · have := length_putF f y fs; omega
  · show RelO ((putF f y fs).lookup g) (if g = f then some u else mA g)
    rw [lookup_putF]
    by_cases q : g = f
    · rw [if_pos q, if_pos q]; exact ry
    · rw [if_neg q, if_neg q]; exact r g
  · by_cases q : g = f
    · rw [q]; exact (keys_putF f y fs).1
    · refine (keys_putF f y fs).2 g (wi g fun z => hg ?_)
      show (if g = f then some u else mA g) = none
      rw [if_neg q]; exact z
theorem Inv.made (I : Inv X pins σ H s) : Inv X pins σ (upd (upd H s.heap.objs.size (.own (s.heap.objs.size + 1))) (s.heap.objs.size + 1) (.ins C s.heap.objs.size []))
    { s with heap := (s.heap.push PySem.W.emptyDict).push (PySem.W.instObj C s.heap.objs.size) } := by
  have e1 : (s.heap.push PySem.W.emptyDict).get? s.heap.objs.size = some PySem.W.emptyDict := Heap.get?_push_size s.heap rfl
  have e2 : ((s.heap.push PySem.W.emptyDict).push (PySem.W.instObj C s.heap.objs.size)).get? (s.heap.objs.size + 1) = some (PySem.W.instObj C s.heap.objs.size) := by
    have := Heap.get?_push_size (s.heap.push PySem.W.emptyDict) (o := PySem.W.instObj C s.heap.objs.size) rfl
    rwa [Heap.size_push] at this
  have e3 : (s.heap.push PySem.W.emptyDict).Ns s.heap.objs.size (fun _ => none) := ⟨PySem.W.emptyDict, #[], _, e1, rfl, (fun e he => absurd he (by simp)), fun _ => rfl⟩
  have I1 := I.laid (a := s.heap.objs.size) (o := .own (s.heap.objs.size + 1)) (h' := s.heap.push PySem.W.emptyDict) (t' := s.toks) (fun b u q => Heap.get?_push_of_some _ q) (Nat.le_refl _) ⟨_, e1⟩
  refine I1.laid (a := s.heap.objs.size + 1) (o := .ins C s.heap.objs.size []) (t' := s.toks) (fun b u q => Heap.get?_push_of_some _ q) (Nat.le_of_eq (Heap.size_push _ _)) ?_
  have ne : s.heap.objs.size ≠ s.heap.objs.size + 1 := Nat.ne_of_lt (Nat.lt_succ_self _)
  refine ⟨by rw [upd_ne ne, upd_same], Nat.zero_le _, ne, e2, fun _ => none, (Heap.Ns1.of_empty e3).at fun o q => Heap.get?_push_of_some _ q, fun _ => True.intro, fun y hy => absurd rfl hy⟩
theorem attr_of {prog : Program} {w : World} {env : Env} {e : Expr} {f : Str} {pos : Pos} {s : Shared} {Q : Value → Shared → Prop} (hb : attributeBase e f env (eval e env) = eval e env)
    (h : wpAny (model prog w) A (eval e env) (fun o s₁ => wpAny (model prog w) A (getAttr o f true) Q E s₁) E s) : wpAny (model prog w) A (eval (.Attribute e f pos) env) Q E s :=
  Attribute_any_ h (by rw [arm_eval_Attribute, hb])
end
def tFld (K : PySem.W.Frag) (ta : TE) (f : Str) : TE := fun σ H Q => ta σ H fun x H1 => ∃ a C dx fs v, x = .ref a ∧ H1 a = some (.ins C dx fs) ∧ Cls K C ∧ NoAttr K C f ∧ fs.lookup f = some v ∧ Q v H1
def sFld (K : PySem.W.Frag) (ta tv : TE) (f : Str) : TS := fun D σ H => tv σ H fun y H1 => ta σ H1 fun x H2 => ∃ a C dx fs, x = .ref a ∧ H2 a = some (.ins C dx fs) ∧ Cls K C ∧ NoAttr K C f ∧ fs.length < 1000 ∧
  D.nx σ (upd H2 a (.ins C dx (putF f y fs)))
def InOp (X : Cx) (op : Operator) (rd : V → V → Hp → VK → Prop) : Prop :=
  ∀ (pins : List (Addr × Obj)) (s : Shared) (σ : St) (H : Hp) (x y : V) (u v : Value) (Q : VK), Inv X pins σ H s → RelV x u → RelV y v → rd x y H Q → wpAny (model X.prog X.w) X.A (inplaceOp op u v) (EP X pins σ Q) X.xe s
def sFldAug (K : PySem.W.Frag) (ta tv : TE) (rd : V → V → Hp → VK → Prop) (f : Str) : TS := fun D σ H => ta σ H fun x H1 => ∃ a C dx fs v, x = .ref a ∧ H1 a = some (.ins C dx fs) ∧ Cls K C ∧ NoAttr K C f ∧ fs.lookup f = some v ∧
  tv σ H1 fun y H2 => rd v y H2 fun z H3 => ∃ dx' fs', H3 a = some (.ins C dx' fs') ∧ fs'.length < 1000 ∧ D.nx σ (upd H3 a (.ins C dx' (putF f z fs')))
section
variable {X : Cx} {o e value : Expr} {f : Str} {pos pos' tpos : Pos} {ta tv : TE}
theorem pe_fld (he : PE X e ta) (hb : attributeBase e f X.env (eval e X.env) = eval e X.env) : PE X (.Attribute e f pos) (tFld X.K ta f) := by
  intro pins s σ H Q I h
  refine attr_of hb (thn (he pins s σ H _ I h) fun u s1 ⟨x, H1, I1, rx, a, C, dx, fs, v, ex, ea, c, n, l, q⟩ => ?_)
  subst ex
  obtain rfl : u = Value.ref a := rx
  exact getattr_ok I1 ea c n l fun u' s2 I2 ru => ⟨v, H1, I2, ru, q⟩
theorem ps_fld (ha : PE X o ta) (hv : PE X value tv) (hs : swapsWith value (some (.Attribute o f pos')) pos.line X.env = pure false) : PS X (.Assign [.Attribute o f pos'] value pos) (sFld X.K ta tv f) := by
  intro pins s σ H D I h
  refine plainObj_wpAny_Assign_Attribute (thn (hv pins s σ H _ I h) fun u s1 ⟨y, H1, I1, ry, q⟩ => thn (ha pins s1 σ H1 _ I1 q) fun ov s2 ⟨x, H2, I2, rx, a, C, dx, fs, ex, ea, c, n, l, q2⟩ => ?_) hs
  subst ex
  obtain rfl : ov = Value.ref a := rx
  exact setattr_ok I2 ea c n l ry fun s3 I3 => ⟨σ, _, I3, q2⟩
theorem ps_fldaug {op : Operator} {rd : V → V → Hp → VK → Prop} (ha : PE X o ta) (hv : PE X value tv) (hop : InOp X op rd) : PS X (.AugAssign (.Attribute o f tpos) op value pos) (sFldAug X.K ta tv rd f) := by
  intro pins s σ H D I h
  refine wpAny_AugAssign_AttributeAny (thn (ha pins s σ H _ I h) fun ov s1 ⟨x, H1, I1, rx, a, C, dx, fs, v, ex, ea, c, n, l, q⟩ => ?_)
  subst ex
  obtain rfl : ov = Value.ref a := rx
  refine getattr_ok I1 ea c n l fun u s2 I2 ru => thn (hv pins s2 σ H1 _ I2 q) fun w3 s3 ⟨y, H2, I3, ry, q3⟩ => thn (hop pins s3 σ H2 v y u w3 _ I3 ru ry q3) fun w4 s4 ⟨z, H3, I4, rz, dx', fs', ea', l', q4⟩ => ?_
  exact setattr_ok I4 ea' c n l' rz fun s5 I5 => ⟨σ, _, I5, q4⟩
def rAdd : V → V → Hp → VK → Prop := fun x y H Q => ∃ i j, x = .int i ∧ y = .int j ∧ Q (.int (i + j)) H
def rSub : V → V → Hp → VK → Prop := fun x y H Q => ∃ i j, x = .int i ∧ y = .int j ∧ Q (.int (i - j)) H
theorem in_add : InOp X .Add rAdd := by
  rintro pins s σ H x y u v Q I rx ry ⟨i, j, rfl, rfl, q⟩
  obtain ⟨t, rfl⟩ := (show ∃ t, u = Value.int i t from rx)
  obtain ⟨t', rfl⟩ := (show ∃ t', v = Value.int j t' from ry)
  exact PyProof.Rows.iadd_int ⟨.int (i + j), H, I.tok _, ⟨_, rfl⟩, q⟩
end
section
variable {X : Cx} {pins : List (Addr × Obj)} {σ : St} {H : Hp} {s : Shared} {A : Around} {E : Value → Shared → Prop} {Q : Value → Shared → Prop} {c : Value} {b : Bool}
inductive TyOf (K : PySem.W.Frag) (H : Hp) : V → Value → Prop where
  | non : TyOf K H .non (.type "NoneType")
  | bl (x : Bool) : TyOf K H (.bl x) (.type "bool")
  | int (i : Int) : TyOf K H (.int i) (.type "int")
  | str (x : Str) : TyOf K H (.str x) (.type "str")
  | flt (x : UInt64) : TyOf K H (.flt x) (.type "float")
  | lst {a : Addr} {xs : List V} (e : H a = some (.lst xs)) : TyOf K H (.ref a) (.type "list")
  | frz {a : Addr} {o : Obj} {xs : List V} (e : H a = some (.frz o (.lst xs))) : TyOf K H (.ref a) (.type "list")
  | tup {a : Addr} {xs : List V} (e : H a = some (.tup xs)) : TyOf K H (.ref a) (.type "tuple")
  | dK {a : Addr} {kvs : List (Key × V)} (e : H a = some (.dK kvs)) : TyOf K H (.ref a) (.type "dict")
  | dT {a : Addr} {kvs : List (List Key × V)} (e : H a = some (.dT kvs)) : TyOf K H (.ref a) (.type "dict")
  | ins {a C dx : Addr} {fs : List (Str × V)} (e : H a = some (.ins C dx fs)) (cl : Cls K C) (ha : PySem.W.findIn K (.ref C) "__class__" = some (some (.builtin "object.__class__")))
      (hn : PySem.W.specialIn K (.builtin "object.__class__") "__get__" = some (some (.builtin "getset_descriptor.__get__"))) (htk : PySem.W.takesIn K (.builtin "object.__class__") = some true)
      (hm : PySem.W.mroIn K C (.type "object") = some true) : TyOf K H (.ref a) (.ref C)
end
end L2
namespace L2
open PySem PySem.Spec PyProof.Rows
structure Room (k : Nat) (A : Around) : Prop where
  hd : A.handled = none
  dp : A.depth + 3 * k + 5 < recursionLimit
  un : A.units + 16 * k + 200 < cLine
theorem Room.mono {j k : Nat} {A : Around} (r : Room k A) (h : j ≤ k) : Room j A := ⟨r.hd, by have := r.dp; omega, by have := r.un; omega⟩
theorem Room.deeper {k : Nat} {A : Around} (r : Room (k + 1) A) (env : Env) : Room k (A.deeper env) :=
  ⟨r.hd, by have := r.dp; show A.depth + 1 + 3 * k + 5 < _; omega, by have := r.un; show A.units + 3 + 16 * k + 200 < _; omega⟩
theorem make_depth {A : Around} {C : Addr} {us : List Value} {kw : List (Str × Value)} : (A.under (.builtin "type.__call__" ⟨.ref C :: us, kw⟩)).depth = A.depth + 1 := by
  first | rfl | simp [Around.under, Code.weight, Code.isCreation, Code.isGuard, Code.isCaller, Code.frames, Code.isFrame, guardIds]
theorem make_units {A : Around} {C : Addr} {us : List Value} {kw : List (Str × Value)} : (A.under (.builtin "type.__call__" ⟨.ref C :: us, kw⟩)).units = A.units + 1 := by
  first | rfl | simp [Around.under, Code.cUnits, Code.frames, Code.isFrame]
theorem Room.make {k : Nat} {A : Around} (r : Room (k + 1) A) (C : Addr) (us : List Value) (kw : List (Str × Value)) : Room k (A.under (.builtin "type.__call__" ⟨.ref C :: us, kw⟩)) :=
  ⟨r.hd, by have := r.dp; rw [make_depth]; omega, by have := r.un; rw [make_units]; omega⟩
theorem Room.depth {k : Nat} {A : Around} (r : Room k A) : A.depth < recursionLimit := by have := r.dp; omega
theorem Room.units0 {k : Nat} {A : Around} (r : Room k A) : A.units < cLine := by have := r.un; omega
def tNil : TA := fun _ H Q => Q [] H
def tCons (ta : TE) (tr : TA) : TA := fun σ H Q => ta σ H fun x H1 => tr σ H1 fun xs H2 => Q (x :: xs) H2
section
variable {X : Cx} {e : Expr} {es : List Expr} {te : TE} {t : TA} {pos : Pos}
theorem pa_nil : PA X [] tNil := fun _ _ _ _ H Q I h => Calls.spliced_nil ⟨[], H, I, .nil, h⟩
theorem pa_cons (ha : PE X e te) (hr : PA X es t) (hs : starEach (e :: es) X.env = (false, eval e X.env) :: starEach es X.env := by rfl) : PA X (e :: es) (tCons te t) := by
  intro pos pins s σ H Q I h
  rw [hs]
  show wpAny _ _ (spliced ((false, eval e X.env) :: backTo pos (starEach es X.env))) _ _ s
  refine Calls.spliced_cons (thn (ha pins s σ H _ I h) fun u s1 ⟨x, H1, I1, r1, q1⟩ => ?_)
  exact thn (hr pos pins s1 σ H1 _ I1 q1) fun us s2 ⟨xs, H2, I2, r2, q2⟩ => ⟨x :: xs, H2, I2, .cons r1 r2, q2⟩
def tTup (t : TA) : TE := fun σ H Q => t σ H fun xs H1 => xs.length ≤ sizeLine ∧ ∀ p, H1 p = none → Q (.ref p) (upd H1 p (.tup xs))
def tLst (t : TA) : TE := fun σ H Q => t σ H fun xs H1 => xs.length ≤ sizeLine ∧ ∀ p, H1 p = none → Q (.ref p) (upd H1 p (.lst xs))
theorem pe_lst (h : PA X es t) : PE X (.List es pos) (tLst t) := by
  intro pins s σ H Q I hq
  refine wpAny_List_spliced (thn (h pos pins s σ H _ I hq) fun us s1 ⟨xs, H1, I1, r, z, q⟩ => ⟨by rw [← r.length]; exact z, ?_⟩)
  have hf : H1 s1.heap.objs.size = none := I1.hok.fresh (Nat.le_refl _)
  refine ⟨.ref s1.heap.objs.size, upd H1 s1.heap.objs.size (.lst xs), I1.laid (t' := s1.toks) (fun b u e => Heap.get?_push_of_some _ e) (Nat.le_refl _) ?_, rfl, q _ hf⟩
  exact ⟨z, us, 0, r, Heap.get?_push_size _ rfl⟩
end
abbrev Sp := List V → Hp → VK → XK → Prop
abbrev CXT := List Env → Hp → Shared → XK → Value → Shared → Prop
structure Env0 (P : Program) (w : World) (K : PySem.W.Frag) (mg : Str → Option Value) (base : Heap) (A : Around) (outer : List Env) (s : Shared) (H : Hp) : Prop where
  frames : A.frames = some outer
  mod : Mod K mg base
  bs : ∀ b o, base.get? b = some o → s.heap.get? b = some o ∧ H b = none
  bsz : base.objs.size ≤ s.heap.objs.size
  funs : s.heap.FunFrames base outer
  frf : ∀ b ∈ frs outer, H b = none
  hok : HOk P w H s.heap
  bare : AllBare s.gens
def CE (outer : List Env) (P : Program) (w : World) (H : Hp) (s : Shared) (Q : VK) (u : Value) (s' : Shared) : Prop :=
  ∃ v H', s'.os = s.os ∧ AllBare s'.gens ∧ Un (frs outer) [] H H' s.heap s'.heap ∧ HOk P w H' s'.heap ∧ RelV v u ∧ Q v H'
def CR (CX : CXT) (outer : List Env) (P : Program) (w : World) (H : Hp) (s : Shared) (Q : VK) (E : XK) (r : Result) (s' : Shared) : Prop :=
  match r with
  | .ok (.ret u) => CE outer P w H s Q u s'
  | .ok _ => False
  | .error e => CX outer H s E e s'
structure FnOk (P : Program) (w : World) (K : PySem.W.Frag) (mg : Str → Option Value) (base : Heap) (CX : CXT) (k : Nat) (f : Addr) (fd : FuncData) (ps : List Str) (sp : Sp) : Prop where
  len : ∀ vs H Q E, sp vs H Q E → vs.length = ps.length
  run : ∀ (A : Around) (outer : List Env) (s : Shared) (H : Hp) (args : Args) (us : List Value) (vs : List V) (Q : VK) (E : XK), Room k A → Env0 P w K mg base A outer s H → BindsTo s fd args (ps.zip us) → Vals vs us → sp vs H Q E →
    codeAny (model P w) A (.call (.ref f) args) (CR CX outer P w H s Q E) s
theorem Env0.make {P : Program} {w : World} {K : PySem.W.Frag} {mg : Str → Option Value} {base : Heap} {A : Around} {outer : List Env} {s : Shared} {H : Hp} (e : Env0 P w K mg base A outer s H) (C : Addr) (us : List Value) (kw : List (Str × Value)) :
    Env0 P w K mg base (A.under (.builtin "type.__call__" ⟨.ref C :: us, kw⟩)) outer s H := ⟨by first | exact e.frames | (simpa [Around.under, Code.envs, Code.isFrame, pushEnvs] using e.frames), e.mod, e.bs, e.bsz, e.funs, e.frf, e.hok, e.bare⟩
section
variable {X : Cx} {pins : List (Addr × Obj)} {σ : St} {H : Hp} {s s' : Shared}
theorem Inv.env0 (I : Inv X pins σ H s) : Env0 X.prog X.w X.K X.mg X.base X.A X.stack s H :=
  ⟨I.ok.frames, I.ok.mod, I.bs, Nat.le_trans I.ok.bsz I.sz, I.stack, I.stkFree, I.hok, I.bare⟩
theorem Inv.after {Q : VK} {u : Value} (I : Inv X pins σ H s) (h : CE X.stack X.prog X.w H s Q u s') : EP X pins σ Q u s' := by
  obtain ⟨v, H', os, bare, un, hok, r, q⟩ := h
  obtain ⟨hh, g, d, t, os'⟩ := s'
  obtain rfl : os' = s.os := os
  exact ⟨v, H', I.call (h' := hh) (g' := g) (d' := d) (t' := t) (ch := []) un hok bare (fun b z => absurd z (by simp)), r, q⟩
end
def tMeth (C : Addr) (m : Str) (sp : Sp) (dvs : List V) (E : XK) (ta : TE) (t : TA) : TE := fun σ H Q => ta σ H fun x H1 => ∃ a dx fs, x = .ref a ∧ H1 a = some (.ins C dx fs) ∧ fs.lookup m = none ∧
  t σ H1 fun vs H2 => sp (x :: (vs ++ dvs)) H2 Q E
def Binds (K : PySem.W.Frag) (fd : FuncData) (ps : List Str) (ds : List Value) : Prop :=
  ∀ (s : Shared) (us : List Value), K.In s.heap → (us ++ ds).length = ps.length → BindsTo s fd ⟨us, []⟩ (ps.zip (us ++ ds))
theorem Binds.all {K : PySem.W.Frag} {fd : FuncData} {ps : List Str} (h : ∀ us : List Value, us.length = ps.length → bindArgs fd ⟨us, []⟩ = pure (ps.zip us)) : Binds K fd ps [] := fun s us _ hl => by
  rw [List.append_nil] at hl ⊢
  exact .of_eq (h us hl)
def Passes (CX : CXT) (X : Cx) (E : XK) : Prop := ∀ (pins : List (Addr × Obj)) (σ : St) (H : Hp) (s : Shared) (e : Value) (s' : Shared), Inv X pins σ H s → CX X.stack H s E e s' → X.xe e s'
section
variable {X : Cx} {CX : CXT} {k : Nat} {f C : Addr} {fd : FuncData} {ps : List Str} {sp : Sp} {dvs : List V} {ds : List Value} {E : XK} {x m : Str} {p pos apos : Pos} {e o : Expr} {es : List Expr} {ta : TE} {t : TA}
theorem run_fn {pins : List (Addr × Obj)} {σ : St} {H : Hp} {s : Shared} {Q : VK} {us : List Value} {vs : List V} (F : FnOk X.prog X.w X.K X.mg X.base CX k f fd ps sp) (hr : Room k X.A) (hb : Binds X.K fd ps ds) (hd : Vals dvs ds) (hx : Passes CX X E)
    (I : Inv X pins σ H s) (r : Vals vs us) (h : sp (vs ++ dvs) H Q E) : wpAny (model X.prog X.w) X.A (call (.ref f) us) (EP X pins σ Q) X.xe s := by
  have r2 : Vals (vs ++ dvs) (us ++ ds) := r.append hd
  have hl : (us ++ ds).length = ps.length := by rw [← r2.length]; exact F.len _ _ _ _ h
  refine wpAny_call (codeAny_mono (F.run X.A X.stack s H ⟨us, []⟩ (us ++ ds) (vs ++ dvs) Q E hr I.env0 (hb s us I.kIn hl) r2 h) fun r s' hq => ?_)
  cases r with
  | error e => exact hx pins σ H s e s' I hq
  | ok fl =>
    cases fl with
    | ret u => exact I.after hq
    | next => exact False.elim hq
    | brk => exact False.elim hq
    | cont => exact False.elim hq
theorem pe_meth {pl : Sem Bool} (he : PE X o ta) (c : Cls X.K C) (hm : Meth X.K C m f) (F : FnOk X.prog X.w X.K X.mg X.base CX k f fd ps sp) (hr : Room k X.A) (hb : Binds X.K fd ps ds) (hd : Vals dvs ds) (hx : Passes CX X E) (ha : PA X (e :: es) t)
    (hst : starEach (e :: es) X.env = (false, eval e X.env) :: starEach es X.env := by rfl) (hpl : (backTo pos (starEach es X.env)).any (·.1) = false := by rfl)
    (ht : eval (.Call (.Attribute o m apos) (e :: es) [] pos) X.env = (do
      let ov ← eval o X.env
      standAt apos.atName
      let (f, first) ← holding [ov] (getMethod ov m pl)
      callWith pos f first (backTo pos (starEach (e :: es) X.env)) (backToKw pos (keywordEach [] X.env))) := by rfl) :
    PE X (.Call (.Attribute o m apos) (e :: es) [] pos) (tMeth C m sp dvs E ta t) := by
  intro pins s σ H Q I h
  refine PySem.W.methodCall_KW (pl := pl) (thn (he pins s σ H _ I h) fun u s1 ⟨x, H1, I1, rx, a, dx, fs, ex, ea, l, q⟩ => ?_) ht
  subst ex
  obtain rfl : u = Value.ref a := rx
  refine getmeth_ok I1 ea c hm l ?_
  refine PySem.W.callWith_K (first := [.ref a]) (h₀ := X.base) I.ok.mod.kin hm.kp (thn (ha pos pins s1 σ H1 _ I1 q) fun us s2 ⟨vs, H2, I2, r, q2⟩ => ⟨I2.kIn, ?_⟩) hst hpl
  exact run_fn (us := .ref a :: us) (vs := .ref a :: vs) F hr hb hd hx I2 (.cons rfl r) q2
theorem pe_meth0 {pl : Sem Bool} (he : PE X o ta) (c : Cls X.K C) (hm : Meth X.K C m f) (F : FnOk X.prog X.w X.K X.mg X.base CX k f fd ps sp) (hr : Room k X.A) (hb : Binds X.K fd ps ds) (hd : Vals dvs ds) (hx : Passes CX X E)
    (ht : eval (.Call (.Attribute o m apos) [] [] pos) X.env = (do
      let ov ← eval o X.env
      standAt apos.atName
      let (f, first) ← holding [ov] (getMethod ov m pl)
      callWith pos f first (backTo pos (starEach [] X.env)) (backToKw pos (keywordEach [] X.env))) := by rfl) :
    PE X (.Call (.Attribute o m apos) [] [] pos) (tMeth C m sp dvs E ta tNil) := by
  intro pins s σ H Q I h
  refine PySem.W.methodCall_KW (pl := pl) (thn (he pins s σ H _ I h) fun u s1 ⟨x, H1, I1, rx, a, dx, fs, ex, ea, l, q⟩ => ?_) ht
  subst ex
  obtain rfl : u = Value.ref a := rx
  refine getmeth_ok I1 ea c hm l ?_
  exact PySem.W.callWith_K0 (first := [.ref a]) I1.kIn hm.kp (run_fn (us := [.ref a]) (vs := [.ref a]) F hr hb hd hx I1 (.cons rfl .nil) q)
structure Mk (K : PySem.W.Frag) (C f : Addr) : Prop where
  makes : PySem.W.makesIn K C = true
  init : PySem.W.findIn K (.ref C) "__init__" = some (some (.ref f))
  fn : PySem.W.isFn K (.ref f) = true
  kp : PySem.W.keepIn K (.ref C) = true
theorem run_make {pins : List (Addr × Obj)} {σ : St} {H : Hp} {s : Shared} {Q : VK} {us : List Value} {vs : List V} (M : Mk X.K C f) (F : FnOk X.prog X.w X.K X.mg X.base CX k f fd ps sp) (hr : Room (k + 1) X.A) (hb : Binds X.K fd ps ds) (hd : Vals dvs ds)
    (hx : Passes CX X E) (I : Inv X pins σ H s) (r : Vals vs us)
    (h : ∀ x dx, H x = none → H dx = none → dx ≠ x → sp (.ref x :: (vs ++ dvs)) (upd (upd H dx (.own x)) x (.ins C dx [])) (fun v H2 => v = .non ∧ Q (.ref x) H2) E) :
    wpAny (model X.prog X.w) X.A (call (.ref C) us) (EP X pins σ Q) X.xe s := by
  have hq := h (s.heap.objs.size + 1) s.heap.objs.size (I.hok.fresh (Nat.le_succ _)) (I.hok.fresh (Nat.le_refl _)) (Nat.ne_of_lt (Nat.lt_succ_self _))
  have I2 := Inv.made (C := C) I
  have r2 : Vals (V.ref (s.heap.objs.size + 1) :: (vs ++ dvs)) (Value.ref (s.heap.objs.size + 1) :: (us ++ ds)) := .cons rfl (r.append hd)
  have hl : (Value.ref (s.heap.objs.size + 1) :: us ++ ds).length = ps.length := by
    have e := r2.length
    rw [F.len _ _ _ _ hq] at e
    exact e.symm
  refine wpAny_call (make_map (f := f) I.kIn M.makes M.init (beq_iff_eq.mp M.fn) (codeAny_mono (F.run _ X.stack _ _ ⟨Value.ref (s.heap.objs.size + 1) :: us, []⟩ (Value.ref (s.heap.objs.size + 1) :: (us ++ ds)) _ _ E (hr.make C us [])
    (I2.env0.make C us []) (hb _ (Value.ref (s.heap.objs.size + 1) :: us) I2.kIn hl) r2 hq) fun r s' hq' => ?_))
  cases r with
  | error e => exact hx pins σ _ _ e s' I2 hq'
  | ok fl =>
    cases fl with
    | ret u =>
      obtain ⟨v, H', I3, rv, ev, q3⟩ := I2.after hq'
      subst ev
      exact ⟨rv, ⟨V.ref (s.heap.objs.size + 1), H', I3, rfl, q3⟩⟩
    | next => exact False.elim hq'
    | brk => exact False.elim hq'
    | cont => exact False.elim hq'
end
section
variable {X : Cx} {CX : CXT} {k : Nat} {f C : Addr} {fd : FuncData} {ps ks : List Str} {sp : Sp} {E : XK} {x m : Str} {p pos apos kpos : Pos} {e o : Expr} {es : List Expr} {kws : List Keyword} {te ta : TE} {t tk : TA} {nm : Option Str}
structure KBinds (K : PySem.W.Frag) (fd : FuncData) (ps ks : List Str) (g : List Value → List Value → List Value) (gV : List V → List V → List V) : Prop where
  to : ∀ (s : Shared) (us ws : List Value), K.In s.heap → (g us ws).length = ps.length → BindsTo s fd ⟨us, ks.zip ws⟩ (ps.zip (g us ws))
  rel : ∀ {vs : List V} {us : List Value} {zs : List V} {ws : List Value}, Vals vs us → Vals zs ws → Vals (gV vs zs) (g us ws)
variable {g : List Value → List Value → List Value} {gV : List V → List V → List V}
end
structure FnScope (N P : List Str) (sc : Scope) : Prop where
  kind : sc.kind = .function
  co : sc.isCoroutine = false
  gen : sc.isGenerator = false
  nd : N.Nodup
  pre : N.take P.length = P
  par : ∀ x ∈ P, sc.names.lookup x = some .local ∨ sc.names.lookup x = some .cell
  nofree : ∀ y ∈ sc.names, y.2 ≠ .free
theorem bindL_out {kindOf : Str → Option NameKind} {x : Str} : ∀ {binds : List (Str × Value)} {m : Str → Option Value}, (∀ v, (x, v) ∉ binds) → bindL kindOf binds m x = m x
  | [], _, _ => rfl
  | (n, v) :: r, m, h => by
    unfold bindL
    rw [bindL_out fun w hw => h w (List.mem_cons_of_mem _ hw)]
    split
    · have : x ≠ n := by rintro rfl; exact h v List.mem_cons_self
      simp [this]
    · rfl
theorem bindC_out {kindOf : Str → Option NameKind} {x : Str} : ∀ {binds : List (Str × Value)} {m : Str → Option Value}, (∀ v, (x, v) ∉ binds) → bindC kindOf binds m x = m x
  | [], _, _ => rfl
  | (n, v) :: r, m, h => by
    unfold bindC
    rw [bindC_out fun w hw => h w (List.mem_cons_of_mem _ hw)]
    split
    · rfl
    · have : x ≠ n := by rintro rfl; exact h v List.mem_cons_self
      simp [this]
theorem bindL_get {kindOf : Str → Option NameKind} {x : Str} {v : Value} : ∀ {P : List Str} {vs : List Value} {i : Nat} {m : Str → Option Value}, P.Nodup → P[i]? = some x → vs[i]? = some v → kindOf x = some .local →
    bindL kindOf (P.zip vs) m x = some v
  | [], _, _, _, _, h, _, _ => by simp at h
  | _ :: _, [], _, _, _, _, h, _ => by simp at h
  | p :: P, w :: vs, 0, m, nd, h1, h2, hk => by
    simp at h1 h2; subst h1; subst h2
    show bindL kindOf ((p, w) :: P.zip vs) m p = _
    unfold bindL
    rw [bindL_out fun v hv => (List.nodup_cons.mp nd).1 (List.of_mem_zip hv).1, if_pos hk]
    simp
  | p :: P, w :: vs, i + 1, m, nd, h1, h2, hk => by
    show bindL kindOf ((p, w) :: P.zip vs) m x = _
    unfold bindL
    exact bindL_get (i := i) (List.nodup_cons.mp nd).2 (by simpa using h1) (by simpa using h2) hk
theorem bindC_get {kindOf : Str → Option NameKind} {x : Str} {v : Value} : ∀ {P : List Str} {vs : List Value} {i : Nat} {m : Str → Option Value}, P.Nodup → P[i]? = some x → vs[i]? = some v → kindOf x ≠ some .local →
    bindC kindOf (P.zip vs) m x = some v
  | [], _, _, _, _, h, _, _ => by simp at h
  | _ :: _, [], _, _, _, _, h, _ => by simp at h
  | p :: P, w :: vs, 0, m, nd, h1, h2, hk => by
    simp at h1 h2; subst h1; subst h2
    show bindC kindOf ((p, w) :: P.zip vs) m p = _
    unfold bindC
    rw [bindC_out fun v hv => (List.nodup_cons.mp nd).1 (List.of_mem_zip hv).1, if_neg hk]
    simp
  | p :: P, w :: vs, i + 1, m, nd, h1, h2, hk => by
    show bindC kindOf ((p, w) :: P.zip vs) m x = _
    unfold bindC
    exact bindC_get (i := i) (List.nodup_cons.mp nd).2 (by simpa using h1) (by simpa using h2) hk
def start (N : List Str) (vs : List V) : St := vs.map some ++ List.replicate (N.length - vs.length) none
def cxOf (CX : CXT) (P : Program) (w : World) (K : PySem.W.Frag) (mg : Str → Option Value) (base : Heap) (N : List Str) (qual : Str) (scope : Scope) (f : Addr) (cd : Value) (A : Around) (outer : List Env) (s : Shared) (H : Hp) (E : XK) : Cx where
  prog := P
  w := w
  K := K
  mg := mg
  base := base
  A := A.deeper (envOfC qual scope s.heap.objs.size f cd)
  N := N
  s_0 := s
  H_0 := H
  env := envOfC qual scope s.heap.objs.size f cd
  outer := outer
  stack := envOfC qual scope s.heap.objs.size f cd :: outer
  ex := []
  calm := true
  fn := fun _ => true
  pn := []
  xe := fun e s' => wpAny (model P w) (A.deeper (envOfC qual scope s.heap.objs.size f cd)) (leaving (envOfC qual scope s.heap.objs.size f cd) e) (fun _ s'' => CX outer H s E e s'') (fun e' s'' => CX outer H s E e' s'') s'
theorem cell_has {sc : Scope} {n : Nat} {x : Str} (h : sc.names.lookup x = some .cell) : ∃ c, (cellsFrom n sc.names []).lookup x = some c := by
  have q := PySem.W.cellsFrom_some sc.names n [] (.inl h)
  exact Option.isSome_iff_exists.mp q
theorem inv_start {CX : CXT} {P : Program} {w : World} {K : PySem.W.Frag} {mg : Str → Option Value} {base : Heap} {N ps : List Str} {qual : Str} {scope : Scope} {f : Addr} {cd : Value} {A : Around} {outer : List Env} {s s1 : Shared} {H : Hp} {E : XK} {us : List Value} {vs : List V}
    (S : FnScope N ps scope) (hd : A.handled = none) (e0 : Env0 P w K mg base A outer s H) (hl : vs.length = ps.length) (r : Vals vs us)
    (x : InCallC s s.heap.objs.size (bindL (envOfC qual scope s.heap.objs.size f cd).kindOf (ps.zip us) fun _ => none) (cellsFrom (s.heap.objs.size + 1) scope.names []) (bindC (envOfC qual scope s.heap.objs.size f cd).kindOf (ps.zip us) fun _ => none) s1) :
    Inv (cxOf CX P w K mg base N qual scope f cd A outer s H E) [] (start N vs) H s1 := by
  have hpl : ps.length ≤ N.length := by have := congrArg List.length S.pre; rw [List.length_take] at this; omega
  obtain ⟨h1, tk, rfl, hk⟩ := x.done
  have noA : ∀ b : Addr, b ∉ (cxOf CX P w K mg base N qual scope f cd A outer s H E).ex := fun b z => absurd (show b ∈ ([] : List Addr) from z) (by simp)
  refine ⟨⟨e0.mod, S.kind, rfl, rfl, Nat.le_refl _, fun y z c h1 h2 => ?_, fun y hy => ?_, fun y c _ h => ?_, fun _ => hd, Around.frames_deeper e0.frames, .inr ⟨rfl, rfl⟩, fun b z => absurd z (noA b), e0.bs, e0.bsz, fun b _ _ => noA b, fun b z => absurd z (noA b), e0.funs, e0.frf⟩,
    rfl, e0.bare, Un.kept hk, ⟨_, x.toInCall.ns, fun i y v h1 h2 h3 => ?_⟩, fun y c h => ⟨_, x.cell y c h⟩, e0.hok.fresh (Nat.le_refl _), fun y c h => ?_, fun p hp => absurd (show p ∈ ([] : List (Addr × Obj)) from hp) (by simp), e0.hok.kept hk, ?_⟩
  · exact name_of_addr x.apart (PySem.mem_of_lookup h1) (PySem.mem_of_lookup h2)
  · have hy : scope.names.lookup y = some .cell ∨ scope.names.lookup y = some .free := hy
    rcases hy with hy | hy
    · exact cell_has hy
    · exact absurd rfl (S.nofree _ (PySem.mem_of_lookup hy))
  · exact Nat.le_of_lt (x.above y c (PySem.mem_of_lookup h))
  · have hi : i < vs.length := by
      unfold start at h2
      by_cases hi : i < vs.length
      · exact hi
      · rw [List.getElem?_append_right (by simpa using hi)] at h2
        rw [List.getElem?_replicate] at h2
        split at h2 <;> cases h2
    have ha : vs[i]? = some v := by
      unfold start at h2
      rw [List.getElem?_append_left (by simpa using hi), List.getElem?_map] at h2
      cases e : vs[i]? with
      | none => rw [e] at h2; cases h2
      | some a => rw [e] at h2; cases h2; rfl
    obtain ⟨u, hu, rv⟩ := r.get ha
    have hp : ps[i]? = some y := by
      rw [← S.pre, List.getElem?_take_of_lt (by omega)]; exact h1
    have ndP : ps.Nodup := by rw [← S.pre]; exact S.nd.sublist (List.take_sublist _ _)
    refine ⟨u, rv, ?_⟩
    rcases S.par y (List.mem_of_getElem? hp) with k | k
    · exact .inl ⟨k, bindL_get ndP hp hu k⟩
    · obtain ⟨c, e⟩ := cell_has (n := s.heap.objs.size + 1) k
      refine .inr ⟨.inl k, c, e, ?_⟩
      have q := x.cell y c e
      rw [bindC_get ndP hp hu (by show scope.names.lookup y ≠ _; rw [k]; decide)] at q
      exact q
  · exact e0.hok.fresh (Nat.le_of_lt (x.above y c (PySem.mem_of_lookup h)))
  · unfold start
    show _ = N.length
    rw [List.length_append, List.length_map, List.length_replicate]
    omega
theorem fn_of {CX : CXT} {P : Program} {w : World} {K : PySem.W.Frag} {mg : Str → Option Value} {base : Heap} {k : Nat} {f : Addr} {name qual : Str} {params : Arguments} {body : List Stmt} {scope : Scope} {dV kV doc pm cdv ct oc : Value} {an od : Option Addr}
    {osl : Array (Option Value)} {N ps : List Str} {sp : Sp} (lk : K.lookup f = some ⟨oc, od, .func (PySem.W.fnOf name qual params body scope dV kV doc pm an cdv ct), osl⟩) (hcd : PySem.W.codeIn K cdv qual = true) (S : FnScope N ps scope)
    (len : ∀ vs H Q E, sp vs H Q E → vs.length = ps.length)
    (hbody : ∀ (A : Around) (outer : List Env) (s : Shared) (H : Hp) (vs : List V) (Q : VK) (E : XK), Room k (A.deeper (envOfC qual scope s.heap.objs.size f cdv)) → sp vs H Q E →
      ∃ t, PSs (cxOf CX P w K mg base N qual scope f cdv A outer s H E) body t ∧ t { nx := fun _ H' => Q .non H', rt := Q } (start N vs) H) :
    FnOk P w K mg base CX (k + 1) f (PySem.W.fnOf name qual params body scope dV kV doc pm an cdv ct) ps sp := by
  refine ⟨len, fun A outer s H args us vs Q E hr e0 hb r hsp => ?_⟩
  have hl := len _ _ _ _ hsp
  have KX : K.In s.heap := e0.mod.kin.keeps fun b o e => (e0.bs b o e).1
  have lim : s.heap.NoLimit := e0.mod.nolimit.keeps fun b o e => (e0.bs b o e).1
  have hkind : ∀ y ∈ ps.zip us, scope.names.lookup y.1 = some .local ∨ (scope.names.lookup y.1 = some .cell ∧ ((cellsFrom (s.heap.objs.size + 1) scope.names []).lookup y.1).isSome = true) := fun ⟨n, v⟩ hy => by
    rcases S.par n (List.of_mem_zip hy).1 with q | q
    · exact .inl q
    · exact .inr ⟨q, PySem.W.cellsFrom_some _ _ _ (.inl q)⟩
  refine codeAny_call_function hr.depth (KX _ _ lk) rfl S.co S.gen rfl (PySem.W.codeRec_of KX hcd) (hb _ _ _ _ ?_)
  refine wpAny_newFunctionEnv_cells S.kind hkind fun env he s1 x => ?_
  subst he
  refine ⟨lim.keeps x.toInCall.keep, codeAny_func ?_⟩
  obtain ⟨t, ht, hq⟩ := hbody A outer s H vs Q E (hr.deeper _) hsp
  have I : Inv (cxOf CX P w K mg base N qual scope f cdv A outer s H E) [] (start N vs) H s1 := inv_start S hr.hd e0 hl r x
  refine wpAny_mono (ht [] s1 (start N vs) H _ I hq) (fun fl s' hs => ?_) fun e s' hs => hs
  have fin : ∀ {σ' : St} {H' : Hp} {v : V} {u : Value}, Inv (cxOf CX P w K mg base N qual scope f cdv A outer s H E) [] σ' H' s' → RelV v u → Q v H' → CE outer P w H s Q u s' :=
    fun {σ' H' v u} J rv q => ⟨v, H', J.os, J.bare, J.base, J.hok, rv, q⟩
  cases fl with
  | ret u =>
    obtain ⟨v, σ', H', J, rv, q⟩ := hs
    exact fin J rv q
  | next =>
    obtain ⟨σ', H', J, q⟩ := hs
    exact fin (v := V.non) (u := Value.none) J rfl q
  | brk =>
    obtain ⟨_, _, _, q⟩ := hs
    exact False.elim q
  | cont =>
    obtain ⟨_, _, _, q⟩ := hs
    exact False.elim q
end L2
namespace L2
open PySem PySem.Spec PyProof.Rows
section
variable {X : Cx} {x : Str} {p pos : Pos} {e : Expr} {es : List Expr} {t : TA} {id T : String} {r : List V → Hp → VK → Prop}
def tCB (r : List V → Hp → VK → Prop) (t : TA) : TE := fun σ H Q => t σ H fun vs H1 => r vs H1 Q
theorem pe_callB (hc : CallR X (.builtin id) r) (hg : Gl X x) (hm : X.mg x = none) (hv : bootBuiltins x = some (.builtin id)) (ha : PA X (e :: es) t) (hn : x ≠ "__name__" := by decide) (hdb : (x == ("__debug__" : Str)) = false := by decide)
    (he : starEach (e :: es) X.env = (false, eval e X.env) :: starEach es X.env := by rfl) (hpl : (backTo pos (starEach es X.env)).any (·.1) = false := by rfl) : PE X (.Call (.Name x p) (e :: es) [] pos) (tCB r t) := by
  intro pins s σ H Q I h
  refine wpAny_Call_Name_kw (ld_blt I hg hm hv ?_ hn hdb)
  exact PyProof.Rows.callWith_builtin1 (thn (ha pos pins s σ H _ I h) fun us s1 ⟨vs, H1, I1, r1, q1⟩ => hc pins s1 σ H1 vs us Q I1 r1 q1) he hpl
end
end L2
namespace HT
open PySem PyProof.Rows
section
open PySem.SeqAt
open PySem.AutoSeq1 (wpAny_loadPart')
open PySem.MeetsSeq PySem.MeetsSeq2 PySem.MeetsSeq3
end
section
variable {prog : Program} {w : World} {A : Around} {E : Value → Shared → Prop} {s : Shared}
def sIx (n d : Nat) : Option Int → Nat
  | none => d
  | some v => if v < 0 then (v + (n : Int)).toNat else min v.toNat n
theorem sIx_none (n d : Nat) : sIx n d none = d := rfl
theorem sIx_nat (n d k : Nat) : sIx n d (some (k : Int)) = min k n := by
  show (if (k : Int) < 0 then ((k : Int) + (n : Int)).toNat else min (k : Int).toNat n) = min k n
  rw [if_neg (by omega), Int.toNat_natCast]
end
end HT
namespace L2
open PySem PySem.Spec PyProof.Rows
abbrev TO := St → Hp → (Option Int → Hp → Prop) → Prop
def PO (X : Cx) (e : Option Expr) (t : TO) : Prop :=
  ∀ (pins : List (Addr × Obj)) (s : Shared) (σ : St) (H : Hp) (Q : Option Int → Hp → Prop), Inv X pins σ H s → t σ H Q →
    wpAny (model X.prog X.w) X.A (evalPart e X.env) (fun u s' => ∃ o H', Inv X pins σ H' s' ∧ IsPart u o ∧ Q o H') X.xe s
def tNoPart : TO := fun _ H Q => Q none H
def tPart (t : TE) : TO := fun σ H Q => t σ H fun x H1 => ∃ i, x = .int i ∧ Q (some i) H1
section
variable {X : Cx} {e : Expr} {te : TE} {lo hi : Option Expr} {tl th : TO} {pos p2 : Pos}
theorem po_none : PO X none tNoPart := by
  intro pins s σ H Q I h
  rw [evalPart_none]
  exact wpAny_pure ⟨none, H, I, .none, h⟩
theorem po_some (h : PE X e te) : PO X (some e) (tPart te) := by
  intro pins s σ H Q I hw
  rw [evalPart_some]
  refine thn (h pins s σ H _ I hw) fun u s1 ⟨x, H1, I1, r1, q1⟩ => ?_
  obtain ⟨i, rfl, q⟩ := q1
  obtain ⟨t, rfl⟩ := r1
  exact ⟨some i, H1, I1, .int i t, q⟩
def SlR (X : Cx) (r : V → Option Int → Option Int → Hp → VK → Prop) : Prop :=
  ∀ (pins : List (Addr × Obj)) (s : Shared) (σ : St) (H : Hp) (x : V) (v vl vu : Value) (lo hi : Option Int) (sl : Addr) (Q : VK), Inv X pins σ H s → RelV x v → s.heap.IsSliceOf sl vl vu .none → IsPart vl lo → IsPart vu hi → r x lo hi H Q →
    ∃ T id, typeLookup (.type T) "__getitem__" = pure (some (.builtin id)) ∧ s.TypeIs v T ∧ wpAny (model X.prog X.w) X.A (getItem v (.ref sl)) (EP X pins σ Q) X.xe s
def tSl (r : V → Option Int → Option Int → Hp → VK → Prop) (te : TE) (tl th : TO) : TE := fun σ H Q => te σ H fun x H1 => tl σ H1 fun l H2 => th σ H2 fun u H3 => r x l u H3 Q
theorem pe_slice {r : V → Option Int → Option Int → Hp → VK → Prop} (hr : SlR X r) (he : PE X e te) (hl : PO X lo tl) (hu : PO X hi th) : PE X (.Subscript e (.Slice lo hi none p2) pos) (tSl r te tl th) := by
  intro pins s σ H Q I h
  refine Subscript_ (thn (he pins s σ H _ I h) fun v s1 ⟨x, H1, I1, r1, q1⟩ => ?_)
  refine wpAny_Slice (thn (hl pins s1 σ H1 _ I1 q1) fun vl s2 ⟨l, H2, I2, pl, q2⟩ => thn (hu pins s2 σ H2 _ I2 q2) fun vu s3 ⟨u, H3, I3, pu, q3⟩ => ?_)
  rw [evalPart_none]
  refine wpAny_pure ?_
  have I4 : Inv X pins σ H3 { s3 with heap := s3.heap.push { cls := .type "slice", data := .fields #[vl, vu, .none] } } := I3.kept (t' := s3.toks) fun b ob q => Heap.get?_push_of_some _ q
  obtain ⟨T, id, hT, ht, hg⟩ := hr pins { s3 with heap := s3.heap.push { cls := .type "slice", data := .fields #[vl, vu, .none] } } σ H3 x v vl vu l u s3.heap.objs.size Q I4 r1 (Heap.IsSliceOf.new ..) pl pu q3
  show wpAny (model X.prog X.w) X.A (subscriptTail e (.Slice lo hi none p2) v (.ref s3.heap.objs.size)) (EP X pins σ Q) X.xe { s3 with heap := s3.heap.push { cls := .type "slice", data := .fields #[vl, vu, .none] } }
  exact tail_any (ops := [.ref s3.heap.objs.size, v]) ht hT hg (by with_unfolding_all rfl)
def cutV (xs : List V) (lo hi : Option Int) : List V := (xs.drop (HT.sIx xs.length 0 lo)).take (HT.sIx xs.length xs.length hi - HT.sIx xs.length 0 lo)
theorem cutV_length (xs : List V) (lo hi : Option Int) : (cutV xs lo hi).length ≤ xs.length := by
  unfold cutV
  rw [List.length_take, List.length_drop]
  omega
end
end L2
namespace L2
open PySem PySem.Spec PyProof.Rows
def ixN (n : Nat) (i : Int) : Option Nat := if 0 ≤ i then (if i < n then some i.toNat else none) else if -(n : Int) ≤ i then some (i + n).toNat else none
def atI {α : Type} (xs : List α) (i : Int) : Option α := (ixN xs.length i).bind fun j => xs[j]?
theorem ixN_seq {n : Nat} {i : Int} {j : Nat} (h : ixN n i = some j) : seqIndex? i n = some j ∧ j < n ∧ -(n : Int) ≤ i ∧ i < n := by
  unfold ixN at h
  by_cases h0 : 0 ≤ i
  · rw [if_pos h0] at h
    by_cases h1 : i < n
    · rw [if_pos h1] at h
      have e : i.toNat = j := Option.some.inj h
      exact ⟨by rw [seqIndex_of h0 h1, e], by omega, by omega, h1⟩
    · rw [if_neg h1] at h; cases h
  · rw [if_neg h0] at h
    by_cases h1 : -(n : Int) ≤ i
    · rw [if_pos h1] at h
      have e : (i + n).toNat = j := Option.some.inj h
      exact ⟨by rw [seqIndex_neg (by omega) h1, e], by omega, h1, by omega⟩
    · rw [if_neg h1] at h; cases h
theorem atI_get {α : Type} {xs : List α} {i : Int} {v : α} (h : atI xs i = some v) : ∃ j, seqIndex? i xs.length = some j ∧ xs[j]? = some v ∧ j < xs.length ∧ -(xs.length : Int) ≤ i ∧ i < xs.length := by
  unfold atI at h
  cases e : ixN xs.length i with
  | none => rw [e] at h; cases h
  | some j =>
    rw [e] at h
    obtain ⟨h1, h2, h3, h4⟩ := ixN_seq e
    exact ⟨j, h1, h, h2, h3, h4⟩
theorem atI_nat {α : Type} {xs : List α} {j : Nat} {v : α} (h : xs[j]? = some v) : atI xs (j : Int) = some v := by
  have hj : j < xs.length := (List.getElem?_eq_some_iff.mp h).1
  have e : ixN xs.length (j : Int) = some j := by
    unfold ixN
    rw [if_pos (by omega), if_pos (by omega)]; simp
  unfold atI; rw [e]; exact h
def PlainIx (b : Expr) : Prop := ∀ o i, subscripted b false o i = operate [o, i] (getItem o i)
def IxR (X : Cx) (r : R2) : Prop :=
  ∀ (value slice : Expr) (pins : List (Addr × Obj)) (s : Shared) (σ : St) (H : Hp) (x y : V) (v u : Value) (Q : VK), Inv X pins σ H s → RelV x v → RelV y u → r x y H Q →
    subscripted slice false v u = operate [v, u] (getItem v u) → wpAny (model X.prog X.w) X.A (subscriptTail value slice v u) (EP X pins σ Q) X.xe s
def MtR (X : Cx) (id : String) (r : V → List V → Hp → VK → Prop) : Prop :=
  ∀ (pins : List (Addr × Obj)) (s : Shared) (σ : St) (H : Hp) (x : V) (xs : List V) (v : Value) (us : List Value) (Q : VK), Inv X pins σ H s → RelV x v → Vals xs us → r x xs H Q →
    wpAny (model X.prog X.w) X.A (call (.builtin id) (v :: us)) (EP X pins σ Q) X.xe s
section
variable {X : Cx} {a b : Expr} {ta tb : TE} {pos : Pos}
theorem pe_ix {r : R2} (hr : IxR X r) (ha : PE X a ta) (hb : PE X b tb) (hs : PlainIx b) : PE X (.Subscript a b pos) (tOp r ta tb) := by
  intro pins s σ H Q I h
  exact Subscript_ (binT ha hb I h fun v u s2 x y H2 I2 rx ry q => hr a b pins s2 σ H2 x y v u Q I2 rx ry q (hs _ _))
def rIxL (K : PySem.W.Frag) : R2 := fun x y H Q => ∃ p xs i v, x = .ref p ∧ y = .int i ∧ SqL K H p xs ∧ atI xs i = some v ∧ Q v H
def rIxT (K : PySem.W.Frag) : R2 := fun x y H Q => ∃ p xs i v, x = .ref p ∧ y = .int i ∧ SqT K H p xs ∧ atI xs i = some v ∧ Q v H
theorem ix_list : IxR X (rIxL X.K) := by
  intro value slice pins s σ H x y v u Q I rx ry h hs
  obtain ⟨p, xs, i, z, rfl, rfl, hq, he, q⟩ := h
  cases rx
  obtain ⟨t, rfl⟩ := ry
  obtain ⟨its, r, pl, hz⟩ := I.list hq
  obtain ⟨j, h1, h2, h3, h4, h5⟩ := atI_get he
  obtain ⟨w, ew, rw'⟩ := r.get h2
  have hl := r.length
  have hn := line63
  have fin : EP X pins σ Q w s := ⟨z, H, I, rw', q⟩
  by_cases h0 : 0 ≤ i
  · have hj : i.toNat = j := by
      rw [seqIndex_of h0 h5] at h1
      exact Option.some.inj h1
    exact item_listR pl.isList h0 (by omega) (by rw [hj]; simpa using ew) fin hs
  · have hj : (i + (its.toArray.size : Int)).toNat = j := by
      rw [seqIndex_neg (by omega) h4] at h1
      rw [List.size_toArray, ← hl]
      exact Option.some.inj h1
    exact subscriptTail_builtinR (x := w) pl.isList.typeIs slot_list_getitem.lookup
      (wpAny_getItem_list_neg (Q := fun r s' => r = w ∧ EP X pins σ Q r s') pl.isList (by omega) (by rw [List.size_toArray] <;> omega) (by omega) (by rw [hj]; simpa using ew) ⟨rfl, fin⟩) hs
theorem ix_tup : IxR X (rIxT X.K) := by
  intro value slice pins s σ H x y v u Q I rx ry h hs
  obtain ⟨p, xs, i, z, rfl, rfl, hq, he, q⟩ := h
  cases rx
  obtain ⟨t, rfl⟩ := ry
  obtain ⟨its, r, pl, hz⟩ := I.tuple hq
  obtain ⟨j, h1, h2, h3, h4, h5⟩ := atI_get he
  obtain ⟨w, ew, rw'⟩ := r.get h2
  have hl := r.length
  have hn := line63
  have fin : EP X pins σ Q w s := ⟨z, H, I, rw', q⟩
  exact subscriptTail_builtinR (x := w) pl.typeIs slot_tuple_getitem.lookup
    (getItem_tuple (j := j) (Q := fun r s' => r = w ∧ EP X pins σ Q r s') pl (by omega) (by omega) (by rw [List.size_toArray, ← hl]; exact h1) (by simpa using ew) ⟨rfl, fin⟩) hs
theorem mapSeq_set (its : List Value) (n j : Nat) (u : Value) : Obj.mapSeq (·.setIfInBounds j u) { cls := .type "list", data := .seq its.toArray n } = { cls := .type "list", data := .seq (its.set j u).toArray n } := by
  simp [Obj.mapSeq]
theorem Inv.lst {pins : List (Addr × Obj)} {σ : St} {H : Hp} {s : Shared} {p : Addr} {xs : List V} (I : Inv X pins σ H s) (h : H p = some (.lst xs)) :
    ∃ (its : List Value) (n : Nat), Vals xs its ∧ s.heap.get? p = some { cls := .type "list", data := .seq its.toArray n } ∧ xs.length ≤ sizeLine := by
  obtain ⟨z, its, n, r, e⟩ := I.hok p _ h
  exact ⟨its, n, r, e, z⟩
theorem Inv.lstUpd {pins : List (Addr × Obj)} {σ : St} {H : Hp} {s : Shared} {p : Addr} {xs ys : List V} {its its' : List Value} {n n' : Nat} {f : Obj → Obj} (I : Inv X pins σ H s) (h : H p = some (.lst xs))
    (ho : s.heap.get? p = some { cls := .type "list", data := .seq its.toArray n }) (hf : f { cls := .type "list", data := .seq its.toArray n } = { cls := .type "list", data := .seq its'.toArray n' }) (r : Vals ys its') (hz : ys.length ≤ sizeLine) (t : Nat) :
    Inv X pins σ (upd H p (.lst ys)) { s with heap := s.heap.update p f, toks := t } := by
  have e : (s.heap.update p f).get? p = some { cls := .type "list", data := .seq its'.toArray n' } := by
    rw [Heap.get?_update_self f ho (by rw [hf] <;> rfl), hf]
  refine I.write (x := p) (e := p) (by rw [h]; trivial) (.inl rfl) (fun b u hb q => (Heap.get?_update_other _ _ (Ne.symm hb)).trans q) ⟨_, e⟩ ?_
  exact ⟨hz, its', n', r, e⟩
def rSetL : V → V → V → Hp → (Hp → Prop) → Prop := fun o i v H Q => ∃ p xs k j, o = .ref p ∧ i = .int k ∧ H p = some (.lst xs) ∧ ixN xs.length k = some j ∧ Q (upd H p (.lst (xs.set j v)))
theorem set_list : PSet X rSetL := by
  intro pins s σ H o i v ov iv u Q I ro ri rv h
  obtain ⟨p, xs, k, j, rfl, rfl, hp, hj, q⟩ := h
  cases ro
  obtain ⟨t, rfl⟩ := ri
  obtain ⟨its, n, r, ho, hz⟩ := I.lst hp
  obtain ⟨h1, h2, h3, h4⟩ := ixN_seq hj
  have hl := r.length
  have hn := line63
  have I' : Inv X pins σ (upd H p (.lst (xs.set j v))) { s with heap := s.heap.update p (Obj.mapSeq (·.setIfInBounds j u)) } :=
    I.lstUpd hp ho (mapSeq_set its n j u) (r.set rv j) (by rw [List.length_set]; exact hz) s.toks
  by_cases h0 : 0 ≤ k
  · have hk : k.toNat = j := by
      rw [seqIndex_of h0 h4] at h1
      exact Option.some.inj h1
    exact PySem.W.ki_setAt ho h0 (by omega) (by rw [List.size_toArray, ← hl]; exact h4) (by rw [hk]; exact ⟨_, I', q⟩)
  · have hk : (k + (its.toArray.size : Int)).toNat = j := by
      rw [seqIndex_neg (by omega) h3] at h1
      rw [List.size_toArray, ← hl]
      exact Option.some.inj h1
    exact PySem.W.ki_setBack ho (by omega) (by rw [List.size_toArray, ← hl]; exact h3) (by omega) (by rw [hk]; exact ⟨_, I', q⟩)
theorem slice_bounds (lo hi : Option Int) (n : Nat) : (sliceBounds lo hi none n).1 = ((HT.sIx n 0 lo : Nat) : Int) ∧ (sliceBounds lo hi none n).2.1 = ((HT.sIx n n hi : Nat) : Int) ∧ (sliceBounds lo hi none n).2.2 = 1 := by
  refine ⟨?_, ?_, rfl⟩
  · cases lo with
    | none => simp [sliceBounds, HT.sIx]
    | some i =>
      simp only [sliceBounds, HT.sIx, Option.getD_none, show (1 : Int) > 0 by decide, if_true]
      by_cases h : i < 0
      · simp only [h, if_true] <;> omega
      · simp only [h, if_false] <;> omega
  · cases hi with
    | none => simp [sliceBounds, HT.sIx]
    | some i =>
      simp only [sliceBounds, HT.sIx, Option.getD_none, show (1 : Int) > 0 by decide, if_true]
      by_cases h : i < 0
      · simp only [h, if_true] <;> omega
      · simp only [h, if_false] <;> omega
theorem slicePick_cut (its : List Value) (lo hi : Option Int) : slicePick its.toArray lo hi none = ((its.drop (HT.sIx its.length 0 lo)).take (HT.sIx its.length its.length hi - HT.sIx its.length 0 lo)).toArray := by
  obtain ⟨h1, h2, h3⟩ := slice_bounds lo hi its.toArray.size
  unfold slicePick
  rw [h1, h2, h3]
  simp only [sliceRange_one, pick_run, List.size_toArray] <;> rfl
def rSlL (K : PySem.W.Frag) : V → Option Int → Option Int → Hp → VK → Prop := fun x lo hi H Q => ∃ a xs, x = .ref a ∧ SqL K H a xs ∧ ∀ p, H p = none → Q (.ref p) (upd H p (.lst (cutV xs lo hi)))
theorem sl_list : SlR X (rSlL X.K) := by
  intro pins s σ H x v vl vu lo hi sl Q I rx hs pl pu h
  obtain ⟨a, xs, rfl, hx, q⟩ := h
  cases rx
  obtain ⟨its, r, ht, hz⟩ := I.list hx
  have hlen := r.length
  refine ⟨"list", _, slot_list_getitem.lookup, ht.isList.typeIs, ?_⟩
  refine wpAny_getItem_list_slice ht.isList hs pl pu .none (by simp) ?_ (by rw [List.size_toArray] <;> omega)
  rw [slicePick_cut, ← hlen]
  refine ⟨.ref s.heap.objs.size, _, I.laid (t' := s.toks) (o := .lst (cutV xs lo hi)) (fun b ob q => Heap.get?_push_of_some _ q) (Nat.le_refl _) ?_, rfl, q _ (I.hok.fresh (Nat.le_refl _))⟩
  exact ⟨Nat.le_trans (cutV_length xs lo hi) hz, _, 0, (r.drop (HT.sIx xs.length 0 lo)).take (HT.sIx xs.length xs.length hi - HT.sIx xs.length 0 lo), Heap.get?_push_size _ rfl⟩
theorem call_len_seq : CallR X (.builtin "len") (fun xs H Q => ∃ p ys, xs = [.ref p] ∧ (SqL X.K H p ys ∨ SqT X.K H p ys) ∧ Q (.int ys.length) H) := by
  intro pins s σ H xs us Q I r h
  obtain ⟨p, ys, rfl, hq, q⟩ := h
  obtain ⟨u, rfl, rx⟩ := vals1 r
  cases rx
  have hn := line63
  rcases hq with hq | hq
  · obtain ⟨its, r', pl, hz⟩ := I.list hq
    have hlen := r'.length
    exact Calls.call_len_list pl.isList (by simp only [List.size_toArray] <;> omega) ⟨.int ys.length, H, I.tok _, ⟨s.toks + 1, by rw [List.size_toArray, hlen]⟩, q⟩
  · obtain ⟨its, r', pl, hz⟩ := I.tuple hq
    have hlen := r'.length
    exact len_tuple pl (by simp only [List.size_toArray] <;> omega) ⟨.int ys.length, H, I.tok _, ⟨s.toks + 1, by rw [List.size_toArray, hlen]⟩, q⟩
def tyV (K : PySem.W.Frag) (T : String) (x : V) (H : Hp) : Prop := match x with
  | .str _ => T = "str"
  | .int _ => T = "int"
  | .ref p => (T = "list" ∧ ∃ xs, SqL K H p xs) ∨ (T = "tuple" ∧ ∃ o, K.lookup p = some o ∧ o.cls = .type "tuple" ∧ o.dict = none) ∨
      (T = "dict" ∧ ((∃ kvs, H p = some (.dK kvs)) ∨ ∃ kvs, H p = some (.dT kvs))) ∨ (T = "set" ∧ ∃ S n, H p = some (.set S n))
  | _ => False
theorem tyV_is {pins : List (Addr × Obj)} {σ : St} {H : Hp} {s : Shared} {T : String} {x : V} {v : Value} (I : Inv X pins σ H s) (r : RelV x v) (ty : tyV X.K T x H) :
    s.TypeIs v T ∧ ∀ a, v = .ref a → ∃ ob, s.heap.get? a = some ob ∧ ob.dict = none := by
  cases x with
  | str z =>
    obtain ⟨t, rfl⟩ := r
    cases (show T = "str" from ty)
    exact ⟨typeIs_str s z t, fun _ e => nomatch e⟩
  | int i =>
    obtain ⟨t, rfl⟩ := r
    cases (show T = "int" from ty)
    exact ⟨typeIs_int s i t, fun _ e => nomatch e⟩
  | ref p =>
    cases r
    rcases ty with ⟨rfl, xs, hq⟩ | ⟨rfl, o, hk, hc, hd⟩ | ⟨rfl, hk⟩ | ⟨rfl, S, n, hk⟩
    · obtain ⟨its, _, pl, _⟩ := I.list hq
      refine ⟨pl.isList.typeIs, fun a e => ?_⟩
      cases e
      obtain ⟨o, n, e, c, hd, _⟩ := pl
      exact ⟨o, e, hd⟩
    · refine ⟨⟨o, I.kIn p o hk, hc⟩, fun a e => ?_⟩
      cases e
      exact ⟨o, I.kIn _ o hk, hd⟩
    · have z : ∃ o, s.heap.get? p = some o ∧ o.ExactDict := by
        rcases hk with ⟨kvs, hk⟩ | ⟨kvs, hk⟩
        · obtain ⟨_, _, _, _, o, _, _, e, ex, _⟩ := I.hok p _ hk
          exact ⟨o, e, ex⟩
        · obtain ⟨_, _, _, _, o, _, _, e, ex, _⟩ := I.hok p _ hk
          exact ⟨o, e, ex⟩
      obtain ⟨o, e, ex⟩ := z
      refine ⟨⟨o, e, ex.1⟩, fun a e2 => ?_⟩
      cases e2
      exact ⟨o, e, ex.2.1⟩
    · obtain ⟨o, _, _, _, e, ex, _⟩ := I.hok p _ hk
      refine ⟨⟨o, e, ex.1⟩, fun a e2 => ?_⟩
      cases e2
      exact ⟨o, e, ex.2.1⟩
  | _ => exact False.elim ty
def tBM (K : PySem.W.Frag) (T : String) (r : V → List V → Hp → VK → Prop) (to : TE) (t : TA) : TE := fun σ H Q => to σ H fun x H1 => tyV K T x H1 ∧ t σ H1 fun xs H2 => r x xs H2 Q
variable {o e : Expr} {es : List Expr} {to : TE} {t : TA} {name : Str} {apos cpos : Pos} {T id : String} {r : V → List V → Hp → VK → Prop}
theorem pe_bm (pa : PlainAttrs T) (slot : Slot T name id) (hty : typeOf (.builtin id) = pure (.type "method_descriptor")) (hm : MtR X id r) (ho : PE X o to) (ha : PA X (e :: es) t)
    (hbase : attributeBase o name X.env (eval o X.env) = eval o X.env := by rfl)
    (hfew : ((backTo cpos (starEach (e :: es) X.env)).all (fun x => !x.1) && (backToKw cpos (keywordEach [] X.env)).all (fun x => x.1.isSome)
      && decide ((e :: es).length + ([] : List Keyword).length + (if ([] : List Keyword).isEmpty then 0 else 1) < 30)) = true := by rfl)
    (hline : (apos.endLine == cpos.line) = true := by rfl) (hs : starEach (e :: es) X.env = (false, eval e X.env) :: starEach es X.env := by rfl) (hplain : (backTo cpos (starEach es X.env)).any (·.1) = false := by rfl) :
    PE X (.Call (.Attribute o name apos) (e :: es) [] cpos) (tBM X.K T r to t) := by
  intro pins s σ H Q I h
  refine wpAny_Call_method_late hbase hfew hline rfl (thn (ho pins s σ H _ I h) fun v s1 ⟨x, H1, I1, r1, ty, q1⟩ => ?_)
  obtain ⟨h1, h2⟩ := tyV_is I1 r1 ty
  refine ⟨T, id, pa, slot, hty, h1, h2, ?_⟩
  have hA := ha cpos pins s1 σ H1 _ I1 q1
  rw [hs] at hA ⊢
  refine Calls.callWith_builtin (by show (false || (backTo cpos (starEach es X.env)).any (·.1)) = false; rw [hplain] <;> rfl) (Calls.evalArgs_plain ?_)
  exact thn hA fun us s2 ⟨vs, H2, I2, r2, q2⟩ => hm pins s2 σ H2 x vs v us Q I2 r1 r2 q2
end
end L2
namespace L2
open PySem PySem.Spec PyProof.Rows
def MtM (X : Cx) (id : String) (r : V → List V → Hp → VK → Prop) : Prop :=
  ∀ (pins : List (Addr × Obj)) (s : Shared) (σ : St) (H : Hp) (x : V) (xs : List V) (v : Value) (us : List Value) (Q : VK), Inv X pins σ H s → RelV x v → Vals xs us → r x xs H Q →
    wpAny (model X.prog X.w) X.A (call (.builtin id) (v :: us)) (EP X pins σ Q) X.xe s
theorem Vals.one : ∀ {x : V} {us : List Value}, Vals [x] us → ∃ u, us = [u] ∧ RelV x u
  | _, _, .cons r .nil => ⟨_, rfl, r⟩
theorem Vals.eraseIdx : ∀ {xs : List V} {us : List Value} (i : Nat), Vals xs us → Vals (xs.eraseIdx i) (us.eraseIdx i)
  | _, _, _, .nil => .nil
  | _, _, 0, .cons _ t => t
  | _, _, i + 1, .cons r t => .cons r (Vals.eraseIdx i t)
theorem Vals.rep {xs : List V} {us : List Value} (h : Vals xs us) : ∀ k : Nat, Vals (List.replicate k xs).flatten (List.replicate k us).flatten
  | 0 => .nil
  | k + 1 => by
    rw [List.replicate_succ, List.replicate_succ, List.flatten_cons, List.flatten_cons]
    exact Vals.append h (Vals.rep h k)
theorem len_erase {α : Type} : ∀ (l : List α) (i : Nat), (l.eraseIdx i).length ≤ l.length
  | [], _ => Nat.le_refl _
  | _ :: _, 0 => Nat.le_succ _
  | _ :: r, i + 1 => Nat.succ_le_succ (len_erase r i)
theorem foldl_rep (its : List Value) : ∀ (k : Nat) (acc : List Value),
    List.foldl (fun x1 x2 => x1 ++ x2) acc.toArray (List.replicate k its.toArray) = (acc ++ (List.replicate k its).flatten).toArray
  | 0, acc => by simp
  | k + 1, acc => by
    have e : acc.toArray ++ its.toArray = (acc ++ its).toArray := by simp
    have e2 : (acc ++ its) ++ (List.replicate k its).flatten = acc ++ (List.replicate (k + 1) its).flatten := by
      rw [List.replicate_succ, List.flatten_cons, List.append_assoc]
    rw [← e2, ← foldl_rep its k (acc ++ its), ← e, List.replicate_succ, List.foldl_cons]
section
variable {X : Cx} {pins : List (Addr × Obj)} {σ : St} {H : Hp} {s : Shared} {l b : Addr} {xs ys zs : List V}
theorem Inv.lset {its its' : List Value} {n : Nat} {f : Array Value → Array Value} {t' : Nat} (I : Inv X pins σ H s) (hH : H l = some (.lst xs))
    (e : s.heap.get? l = some { cls := .type "list", data := .seq its.toArray n }) (hf : f its.toArray = its'.toArray) (hv : Vals ys its') (hz : ys.length ≤ sizeLine) :
    Inv X pins σ (upd H l (.lst ys)) { s with heap := s.heap.update l (Obj.mapSeq f), toks := t' } := by
  have q := PySem.IsL.update e f
  rw [hf] at q
  refine I.write (x := l) (e := l) (by rw [hH]; exact trivial) (.inl rfl) (fun b' u hb hu => (Heap.get?_update_other s.heap (Obj.mapSeq f) (Ne.symm hb)).trans hu) ⟨_, q⟩ ?_
  exact ⟨hz, its', _, hv, q⟩
theorem Inv.lnew {its : List Value} {t' : Nat} (I : Inv X pins σ H s) (hv : Vals ys its) (hz : ys.length ≤ sizeLine) :
    Inv X pins σ (upd H s.heap.objs.size (.lst ys)) { s with heap := s.heap.push { cls := .type "list", data := .seq its.toArray }, toks := t' } :=
  I.laid (fun _ _ q => Heap.get?_push_of_some _ q) (Nat.le_refl _) ⟨hz, its, 0, hv, Heap.get?_push_size _ rfl⟩
theorem Inv.fresh (I : Inv X pins σ H s) : H s.heap.objs.size = none := I.hok.fresh (Nat.le_refl _)
theorem Inv.lstM (I : Inv X pins σ H s) (hH : H l = some (.lst xs)) : xs.length ≤ sizeLine ∧ ∃ (its : List Value) (n : Nat), Vals xs its ∧ xs.length = its.length ∧ s.heap.get? l = some { cls := .type "list", data := .seq its.toArray n } := by
  obtain ⟨z, its, n, r, e⟩ := I.hok l _ hH
  exact ⟨z, its, n, r, r.length, e⟩
theorem notLongL {n : Nat} (h : n ≤ sizeLine) : Builtin.List.listTooLong n = false := by
  unfold Builtin.List.listTooLong
  exact decide_eq_false (by omega)
end
section
variable {X : Cx}
def rAppend : V → List V → Hp → VK → Prop := fun x vs H Q => ∃ l xs y, x = .ref l ∧ vs = [y] ∧ H l = some (.lst xs) ∧ xs.length < sizeLine ∧ Q .non (upd H l (.lst (xs ++ [y])))
theorem mt_append : MtM X "list.append" rAppend := by
  intro pins s σ H x vs v us Q I rx rv h
  obtain ⟨l, xs, y, rfl, rfl, hH, hz, q⟩ := h
  cases rx
  obtain ⟨u, rfl, ru⟩ := rv.one
  obtain ⟨z, its, n, r, hl, e⟩ := I.lstM hH
  refine call_meets F.slot_list_append ⟨_, e, rfl⟩ F.entry_list_append (F.args_list_append_2 _ _) (PySem.list_append l its.toArray n u (by rw [List.size_toArray]; omega)) ⟨e, ?_⟩
  refine ⟨.non, _, I.lset (its' := its ++ [u]) hH e (by simp) (r.append (.cons ru .nil)) ?_, rfl, q⟩
  rw [List.length_append, List.length_singleton]
  omega
def rExtend : V → List V → Hp → VK → Prop := fun x vs H Q => ∃ l b xs zs, x = .ref l ∧ vs = [.ref b] ∧ H l = some (.lst xs) ∧ H b = some (.lst zs) ∧ xs.length + zs.length ≤ sizeLine ∧ Q .non (upd H l (.lst (xs ++ zs)))
theorem mt_extend : MtM X "list.extend" rExtend := by
  intro pins s σ H x vs v us Q I rx rv h
  obtain ⟨l, b, xs, zs, rfl, rfl, hH, hB, hz, q⟩ := h
  cases rx
  obtain ⟨u, rfl, ru⟩ := rv.one
  cases ru
  obtain ⟨z, its, n, r, hl, e⟩ := I.lstM hH
  obtain ⟨z2, its2, n2, r2, hl2, e2⟩ := I.lstM hB
  have hsz : its.toArray.size + its2.toArray.size ≤ sizeLine := by rw [List.size_toArray, List.size_toArray]; omega
  have hlong : ¬ (!its.toArray.isEmpty && Builtin.List.listTooLong (its.toArray.size + its2.toArray.size)) = true := by
    rw [notLongL hsz, Bool.and_false]
    exact Bool.false_ne_true
  refine call_meets F.slot_list_extend ⟨_, e, rfl⟩ F.entry_list_extend (F.args_list_extend_2 _ _)
    (AutoSeq1.list_extend_list_list_0 l its.toArray n b its2.toArray n2 hlong (by rw [List.size_toArray]; omega) (by omega)) ⟨e, e2, ?_⟩
  refine ⟨.non, _, I.lset (its' := its ++ its2) hH e (by simp) (r.append r2) ?_, rfl, q⟩
  rw [List.length_append]
  omega
def rPopAt : V → List V → Hp → VK → Prop := fun x vs H Q => ∃ l xs i k y, x = .ref l ∧ vs = [.int i] ∧ H l = some (.lst xs) ∧ -(2 ^ 63) ≤ i ∧ i < 2 ^ 63 ∧ seqIndex? i xs.length = some k ∧ xs[k]? = some y ∧ Q y (upd H l (.lst (xs.eraseIdx k)))
theorem mt_popAt : MtM X "list.pop" rPopAt := by
  intro pins s σ H x vs v us Q I rx rv h
  obtain ⟨l, xs, i, k, y, rfl, rfl, hH, h1, h2, hk, hy, q⟩ := h
  cases rx
  obtain ⟨u, rfl, ru⟩ := rv.one
  obtain ⟨t, rfl⟩ := ru
  obtain ⟨z, its, n, r, hl, e⟩ := I.lstM hH
  obtain ⟨w, hw, rw'⟩ := r.get hy
  refine call_meets F.slot_list_pop ⟨_, e, rfl⟩ F.entry_list_pop (F.args_list_pop_2 _ _)
    (MeetsSeq.list_pop_at l its.toArray n i t k w (fitsIndex_both h1 h2) (by rw [List.size_toArray, ← hl]; exact hk) (by rw [← Array.getElem?_toList]; exact hw) (by rw [List.size_toArray]; omega)) ⟨e, ?_⟩
  refine ⟨y, _, I.lset (its' := its.eraseIdx k) hH e ?_ (r.eraseIdx k) ?_, rw', q⟩
  · show its.toArray.eraseIdxIfInBounds k = (its.eraseIdx k).toArray
    rw [List.eraseIdxIfInBounds_toArray]
  · have := len_erase xs k
    omega
def rCat : R2 := fun x y H Q => ∃ l b xs zs, x = .ref l ∧ y = .ref b ∧ H l = some (.lst xs) ∧ H b = some (.lst zs) ∧ xs.length + zs.length ≤ sizeLine ∧ ∀ p, H p = none → Q (.ref p) (upd H p (.lst (xs ++ zs)))
theorem op_cat : OpR X (binaryOp .Add) rCat := by
  intro pins s σ H x y v u Q I rx ry h
  obtain ⟨l, b, xs, zs, rfl, rfl, hH, hB, hz, q⟩ := h
  cases rx
  cases ry
  obtain ⟨z, its, n, r, hl, e⟩ := I.lstM hH
  obtain ⟨z2, its2, n2, r2, hl2, e2⟩ := I.lstM hB
  refine PySem.P.add_list e e2 ?_ (by rw [List.size_toArray, List.size_toArray]; omega)
  have ea : its.toArray ++ its2.toArray = (its ++ its2).toArray := by simp
  rw [ea]
  exact ⟨.ref _, _, I.lnew (t' := s.toks) (r.append r2) (by rw [List.length_append]; omega), rfl, q _ I.fresh⟩
def rRep : R2 := fun x y H Q => ∃ l k xs, x = .ref l ∧ y = .int k ∧ H l = some (.lst xs) ∧ -(2 ^ 63) ≤ k ∧ k < 2 ^ 63 ∧ xs.length * k.toNat ≤ sizeLine ∧
  ∀ p, H p = none → Q (.ref p) (upd H p (.lst (List.replicate k.toNat xs).flatten))
theorem len_rep {α : Type} (xs : List α) (k : Nat) : (List.replicate k xs).flatten.length = k * xs.length := by
  induction k with
  | zero => simp
  | succ k ih => rw [List.replicate_succ, List.flatten_cons, List.length_append, ih, Nat.succ_mul, Nat.add_comm]
theorem op_rep : OpR X (binaryOp .Mult) rRep := by
  intro pins s σ H x y v u Q I rx ry h
  obtain ⟨l, k, xs, rfl, rfl, hH, h1, h2, hz, q⟩ := h
  cases rx
  obtain ⟨t, rfl⟩ := ry
  obtain ⟨z, its, n, r, hl, e⟩ := I.lstM hH
  have hlen : its.toArray.size * k.toNat ≤ sizeLine := by rw [List.size_toArray, ← hl]; exact hz
  have hcap : ¬ its.toArray.size * k.toNat > (2 ^ 63 - 1) / 8 := by
    have : (sizeLine : Nat) ≤ (2 ^ 63 - 1) / 8 := by decide
    omega
  have hfit : ¬ (!Builtin.List.listFitsIndex k) = true := by
    rw [fitsIndex_both h1 h2]
    exact Bool.false_ne_true
  have hlong : ¬ Builtin.List.listTooLong (its.toArray.size * k.toNat) = true := by
    rw [notLongL hlen]
    exact Bool.false_ne_true
  have hnew : List.foldl (fun x1 x2 => x1 ++ x2) #[] (List.replicate (if its.toArray.isEmpty = true then 0 else k.toNat) its.toArray) = (List.replicate k.toNat its).flatten.toArray := by
    have f0 : ∀ m : Nat, List.foldl (fun x1 x2 => x1 ++ x2) #[] (List.replicate m its.toArray) = (List.replicate m its).flatten.toArray := fun m => by
      have := foldl_rep its m []
      rw [List.nil_append] at this
      exact this
    rw [f0]
    cases its with
    | nil => simp
    | cons a r' => rw [if_neg (by simp)]
  refine wpAny_binaryOp_repeat_ref (T := "list") (U := "int") (by decide) ⟨_, e, rfl⟩ (fun s' => typeIs_int s' k t) noFill_list_mul F.fills_int_mul F.slot_int_rmul repeat_list F.slot_int_index.lookup
    (call_meets F.slot_int_rmul (typeIs_int s k t) F.entry_int_rmul (F.args_int_rmul_2 _ _) (int___rmul___int_list k t l its.toArray n)
      ⟨e, rfl, ⟨_, e, rfl⟩, call_meets F.slot_list_mul ⟨_, e, rfl⟩ F.entry_list_mul (F.args_list_mul_2 _ _) (AutoListH.list___mul___list_int_3 l its.toArray n k t hfit hcap hlong) ⟨e, ?_⟩⟩)
  rw [hnew]
  exact ⟨.ref _, _, I.lnew (t' := s.toks) (r.rep k.toNat) (by rw [len_rep, Nat.mul_comm]; exact hz), rfl, q _ I.fresh⟩
end
section
variable {prog : Program} {w : World} {A : Around} {E : Value → Shared → Prop} {s : Shared}
set_option maxRecDepth 100000 in
end
section
variable {X : Cx}
end
end L2
namespace L2
open PySem PySem.Spec PyProof.Rows
theorem Vals.ints : ∀ {ns : List Int} {us : List Value}, Vals (ns.map V.int) us → IntsAre us ns
  | [], us, h => by
    rw [List.map_nil] at h
    cases h
    exact IntsAre.nil
  | n :: ns, us, h => by
    rw [List.map_cons] at h
    cases h with
    | cons r t =>
      obtain ⟨k, rfl⟩ := r
      exact IntsAre.cons n k (Vals.ints t)
theorem Vals.bls : ∀ {bs : List Bool} {us : List Value}, Vals (bs.map V.bl) us → us = bs.map Value.bool
  | [], us, h => by
    rw [List.map_nil] at h
    cases h
    rfl
  | b :: bs, us, h => by
    rw [List.map_cons] at h
    cases h with
    | cons r t =>
      cases r
      rw [Vals.bls t, List.map_cons]
theorem Vals.ref1 {a : Addr} {us : List Value} (r : Vals [V.ref a] us) : us = [Value.ref a] := by
  cases r with
  | cons r t =>
    cases t
    cases r
    rfl
section
variable {prog : Program} {w : World} {A : Around} {E : Value → Shared → Prop} {s : Shared} {l : Addr} {its : List Value} {ns : List Int} {Q : Value → Shared → Prop}
theorem sum_raw (hh : A.handled = none) (hl : s.heap.IsList l its.toArray) (hi : IntsAre its ns)
    (h : ∀ h' tk t', (∀ b o, s.heap.get? b = some o → h'.get? b = some o) → Q (.int ns.sum t') { s with heap := h', toks := tk }) : wpAny (model prog w) A (call (.builtin "sum") [.ref l]) Q E s := by
  obtain ⟨xs, e⟩ := hi.allInts.items
  have hn : numsOf (intItems xs).toList = ns := by rw [← e]; exact hi.numsOf
  rw [nums_intItems] at hn
  rw [e] at hl
  refine PySem.sum_intListG hh hl fun h' tk t' hk => ?_
  have := h h' tk t' hk
  rw [preSum_eq, List.take_of_length_le (by simp), hn]; exact this
end
section
variable {X : Cx}
def rSum (K : PySem.W.Frag) : List V → Hp → VK → Prop := fun vs H Q => ∃ (a : Addr) (ns : List Int), vs = [V.ref a] ∧ SqL K H a (ns.map V.int) ∧ Q (.int ns.sum) H
theorem cr_sum (hc : X.calm = true) : CallR X (.builtin "sum") (rSum X.K) := by
  intro pins s σ H vs us Q I r h
  obtain ⟨a, ns, rfl, hs, q⟩ := h
  obtain ⟨its, rv, hl, _⟩ := I.list hs
  rw [Vals.ref1 r]
  exact sum_raw (I.ok.hd hc) hl.isList rv.ints fun h' tk t' hk => ⟨.int _, H, I.kept hk, ⟨_, rfl⟩, q⟩
end
section
variable {X : Cx}
end
section
variable {X : Cx}
end
theorem iter_any {prog : Program} {w : World} {A : Around} {E : Value → Shared → Prop} {s : Shared} {l : Addr} {items : Array Value} {Q : Value → Shared → Prop} (hl : s.heap.IsList l items)
    (h : ∀ s₂ : Shared, s₂ = { s with heap := s.heap.push { cls := .type "list_iterator", data := .fields #[.ref l, .int 0 0] } } →
      (s₂.heap.IsListIter s.heap.objs.size l 0 ∧ s₂.heap.IsList l items) → l ≠ s.heap.objs.size → Q (.ref s.heap.objs.size) s₂) : wpAny (model prog w) A (pyIter (.ref l)) Q E s := by
  have hlt : l < s.heap.objs.size := by obtain ⟨_, e, _⟩ := hl; exact Heap.lt_size e
  exact wpAny_pyIter_list hl (h _ rfl ⟨⟨_, Heap.get?_push_size _ rfl, rfl, rfl⟩, hl.push _⟩ (Nat.ne_of_lt hlt))
theorem truth_bools {prog : Program} {w : World} {A : Around} {bs : List Bool} {its : List Value} (e : its = bs.map Value.bool) :
    TruthOf prog w A (fun i v => its.toArray[i]? = some v) (fun i => bs.getD i false) := fun i v s Q E hv hq => by
  have hv' : its[i]? = some v := by simpa using hv
  rw [e, List.getElem?_map] at hv'
  obtain ⟨b, hb, rfl⟩ := Option.map_eq_some_iff.mp hv'
  have hg : bs.getD i false = b := by rw [List.getD_eq_getElem?_getD, hb] <;> rfl
  have hq' : Q (bs.getD i false) s := hq
  rw [hg] at hq'
  exact wpAny_truthy_bool hq'
theorem all_range : ∀ bs : List Bool, (List.range bs.length).all (fun i => bs.getD i false) = bs.all id
  | [] => rfl
  | b :: bs => by
    rw [List.length_cons, List.range_succ_eq_map, List.all_cons, List.all_map, List.all_cons, ← all_range bs]
    all_goals rfl
section
variable {X : Cx}
def rAll (K : PySem.W.Frag) : List V → Hp → VK → Prop := fun vs H Q => ∃ (a : Addr) (bs : List Bool), vs = [V.ref a] ∧ SqL K H a (bs.map V.bl) ∧ Q (.bl (bs.all id)) H
theorem cr_all (hc : X.calm = true) : CallR X (.builtin "all") (rAll X.K) := by
  intro pins s σ H vs us Q I r h
  obtain ⟨a, bs, rfl, hs, q⟩ := h
  obtain ⟨its, rv, hl, _⟩ := I.list hs
  rw [Vals.ref1 r]
  have hb := rv.bls
  refine call_all_walk (iter_any hl.isList fun s₂ e2 st hne => ?_)
  subst e2
  refine ⟨_, _, _, _, _, _, _, rfl, Walks.list (A := X.A.in1) (I.ok.hd hc) _ a hne its.toArray, st, truth_bools hb, fun h' tk hk => ?_⟩
  refine ⟨.bl _, H, I.kept fun b o eo => hk b o (fun hmem => ?_) (Heap.get?_push_of_some _ eo), ?_, q⟩
  · rcases List.mem_cons.mp hmem with e1 | hmem
    · exact absurd (e1 ▸ Heap.lt_size eo) (Nat.lt_irrefl _)
    · cases hmem
  · show Value.bool _ = Value.bool _
    rw [← all_range, hb, List.size_toArray, List.length_map]
end
mutual
inductive Dp (K : PySem.W.Frag) (H : Hp) : V → PyData → Prop
  | non : Dp K H .non .none
  | bl (b : Bool) : Dp K H (.bl b) (.bool b)
  | int (i : Int) : Dp K H (.int i) (.int i)
  | str (x : Str) : Dp K H (.str x) (.str x)
  | lst {a : Addr} {xs : List V} {ds : List PyData} : SqL K H a xs → DpAll K H xs ds → Dp K H (.ref a) (.list ds)
  | tup {a : Addr} {xs : List V} {ds : List PyData} : SqT K H a xs → DpAll K H xs ds → Dp K H (.ref a) (.tuple ds)
inductive DpAll (K : PySem.W.Frag) (H : Hp) : List V → List PyData → Prop
  | nil : DpAll K H [] []
  | cons {v : V} {vs : List V} {d : PyData} {ds : List PyData} : Dp K H v d → DpAll K H vs ds → DpAll K H (v :: vs) (d :: ds)
end
section
variable {X : Cx} {pins : List (Addr × Obj)} {σ : St} {H : Hp} {s : Shared}
mutual
theorem Dp.reads (I : Inv X pins σ H s) : ∀ (d : PyData) (v : V) (u : Value), Dp X.K H v d → RelV v u → ∃ as, Reads s.heap u d as
  | .none, _, _, h, r => by
    cases h
    cases r
    exact ⟨_, Reads.none⟩
  | .bool b, _, _, h, r => by
    cases h
    cases r
    exact ⟨_, Reads.bool b⟩
  | .int i, _, _, h, r => by
    cases h
    obtain ⟨t, rfl⟩ := r
    exact ⟨_, Reads.int i t⟩
  | .str x, _, _, h, r => by
    cases h
    obtain ⟨t, rfl⟩ := r
    exact ⟨_, Reads.str x t⟩
  | .list ds, _, _, h, r => by
    cases h with
    | lst hs ha =>
      cases r
      obtain ⟨its, rv, ⟨o, n, ho, hc, _, hd⟩, _⟩ := I.list hs
      obtain ⟨as, hr⟩ := Dp.readsAll I ds _ its ha rv
      exact ⟨_, Reads.list ho hc hd hr⟩
  | .tuple ds, _, _, h, r => by
    cases h with
    | tup hs ha =>
      cases r
      obtain ⟨its, rv, ⟨o, ho, hc, n, hd⟩, _⟩ := I.tuple hs
      obtain ⟨as, hr⟩ := Dp.readsAll I ds _ its ha rv
      exact ⟨_, Reads.tuple ho hc hd hr⟩
  | .dict _, _, _, h, _ => by cases h
theorem Dp.readsAll (I : Inv X pins σ H s) : ∀ (ds : List PyData) (vs : List V) (us : List Value), DpAll X.K H vs ds → Vals vs us → ∃ as, ReadsAll s.heap us ds as
  | [], _, _, h, r => by
    cases h
    cases r
    exact ⟨_, ReadsAll.nil⟩
  | d :: ds, _, _, h, r => by
    cases h with
    | cons h1 h2 =>
      cases r with
      | cons r1 r2 =>
        obtain ⟨as, q1⟩ := Dp.reads I d _ _ h1 r1
        obtain ⟨bs, q2⟩ := Dp.readsAll I ds _ _ h2 r2
        exact ⟨_, ReadsAll.cons q1 q2⟩
end
end
section
variable {X : Cx}
end
end L2
namespace L2
open PySem PySem.Spec PyProof.Rows
abbrev CellAt (h : Heap) (c : Addr) (v : Option Value) : Prop := h.IsCell c v
def relS (scope sc : Scope) : Scope :=
  { scope with names := scope.names.map fun (n, k) => if (k == .free && sc.kind == .function && sc.names.lookup n == some .cell) then (n, .cell) else (n, k) }
def cloFrom (cells : List (Str × Addr)) : List (Str × NameKind) → List (Str × Addr) → List (Str × Addr)
  | [], acc => acc
  | (n, k) :: r, acc => if k == .free then cloFrom cells r ((n, (cells.lookup n).getD 0) :: acc) else cloFrom cells r acc
theorem closure_loop (env : Env) (f : Str × NameKind → List (Str × Addr) → Sem (ForInStep (List (Str × Addr))))
    (hf : ∀ n k c, f (n, k) c = if k == .free then (do let a ← cellOf env n; pure (.yield ((n, a) :: c))) else pure (.yield c)) :
    ∀ (names : List (Str × NameKind)) (acc : List (Str × Addr)), (∀ y ∈ names, y.2 = .free → ∃ c, env.cells.lookup y.1 = some c) → forIn names acc f = pure (cloFrom env.cells names acc)
  | [], acc, _ => by rw [List.forIn_nil]; rfl
  | (n, k) :: r, acc, h => by
    rw [List.forIn_cons, hf]
    have ih := fun acc => closure_loop env f hf r acc fun y hy => h y (List.mem_cons_of_mem _ hy)
    unfold cloFrom
    by_cases hk : (k == NameKind.free) = true
    · rw [if_pos hk, if_pos hk]
      obtain ⟨c, hc⟩ := h (n, k) List.mem_cons_self (by simpa using hk)
      have e : cellOf env n = pure c := by unfold cellOf; rw [hc]
      rw [e]
      have e2 : (env.cells.lookup n).getD 0 = c := by rw [hc]; rfl
      rw [e2]
      exact ih _
    · rw [if_neg hk, if_neg hk]
      exact ih _
theorem closure_ok {scope : Scope} {env : Env} (h : ∀ y ∈ scope.names, y.2 = .free → ∃ c, env.cells.lookup y.1 = some c) : closureFor scope env = pure (cloFrom env.cells scope.names []) := by
  simp only [closureFor]
  rw [closure_loop env _ (fun n k c => rfl) scope.names [] h]
  rfl
theorem mem_lookup {α : Type} : ∀ {l : List (Str × α)} {n : Str} {c : α}, (n, c) ∈ l → ∃ c', l.lookup n = some c'
  | (k, v) :: r, n, c, h => by
    rw [List.lookup_cons]
    cases hb : n == k with
    | true => exact ⟨_, rfl⟩
    | false =>
      rcases List.mem_cons.mp h with e | h
      · cases e; simp at hb
      · exact mem_lookup h
theorem cloFrom_mem {cells : List (Str × Addr)} : ∀ {names : List (Str × NameKind)} {acc : List (Str × Addr)} {n : Str} {c : Addr}, (n, c) ∈ cloFrom cells names acc → (n, c) ∈ acc ∨ ((n, .free) ∈ names ∧ c = (cells.lookup n).getD 0)
  | [], _, _, _, h => .inl h
  | (m, k) :: r, acc, n, c, h => by
    unfold cloFrom at h
    split at h
    · rename_i hk
      have hk : k = .free := by simpa using hk
      rcases cloFrom_mem h with h | ⟨h1, h2⟩
      · rcases List.mem_cons.mp h with e | h
        · cases e; exact .inr ⟨hk ▸ List.mem_cons_self, rfl⟩
        · exact .inl h
      · exact .inr ⟨List.mem_cons_of_mem _ h1, h2⟩
    · rcases cloFrom_mem h with h | ⟨h1, h2⟩
      · exact .inl h
      · exact .inr ⟨List.mem_cons_of_mem _ h1, h2⟩
theorem cloFrom_acc {cells : List (Str × Addr)} : ∀ {names : List (Str × NameKind)} {acc : List (Str × Addr)} {p : Str × Addr}, p ∈ acc → p ∈ cloFrom cells names acc
  | [], _, _, h => h
  | (m, k) :: r, acc, p, h => by
    unfold cloFrom
    split
    · exact cloFrom_acc (List.mem_cons_of_mem _ h)
    · exact cloFrom_acc h
theorem cloFrom_has {cells : List (Str × Addr)} : ∀ {names : List (Str × NameKind)} {acc : List (Str × Addr)} {n : Str}, (n, .free) ∈ names → (n, (cells.lookup n).getD 0) ∈ cloFrom cells names acc
  | (m, k) :: r, acc, n, h => by
    unfold cloFrom
    rcases List.mem_cons.mp h with e | h
    · cases e
      exact cloFrom_acc List.mem_cons_self
    · split
      · exact cloFrom_has h
      · exact cloFrom_has h
theorem cells_mem : ∀ {names : List (Str × NameKind)} {h : Heap} {acc : List (Str × Addr)} {x : Str} {c : Addr}, (x, c) ∈ cellsFrom h.objs.size names acc →
    (x, c) ∈ acc ∨ ((x, .cell) ∈ names ∧ h.objs.size ≤ c ∧ CellAt (pushCells h names) c none)
  | [], _, _, _, _, h => .inl h
  | (n, k) :: r, h, acc, x, c, hm => by
    unfold cellsFrom at hm
    unfold pushCells
    split at hm
    · rename_i hk
      rw [if_pos hk]
      have hk : k = .cell := by simpa using hk
      rw [← Heap.size_push h { cls := .type "cell", data := .cell none }] at hm
      rcases cells_mem hm with hm | ⟨h1, h2, h3⟩
      · rcases List.mem_cons.mp hm with e | hm
        · cases e
          exact .inr ⟨hk ▸ List.mem_cons_self, Nat.le_refl _, _, pushCells_keeps r _ _ _ (Heap.get?_push_size _ rfl), rfl⟩
        · exact .inl hm
      · rw [Heap.size_push] at h2
        exact .inr ⟨List.mem_cons_of_mem _ h1, Nat.le_of_succ_le h2, h3⟩
    · rename_i hk
      rw [if_neg hk]
      rcases cells_mem hm with hm | ⟨h1, h2, h3⟩
      · exact .inl hm
      · exact .inr ⟨List.mem_cons_of_mem _ h1, h2, h3⟩
theorem cells_acc : ∀ {names : List (Str × NameKind)} {n : Nat} {acc : List (Str × Addr)} {p : Str × Addr}, p ∈ acc → p ∈ cellsFrom n names acc
  | [], _, _, _, h => h
  | (m, k) :: r, n, acc, p, h => by
    unfold cellsFrom
    split
    · exact cells_acc (List.mem_cons_of_mem _ h)
    · exact cells_acc h
theorem cells_has : ∀ {names : List (Str × NameKind)} {n : Nat} {acc : List (Str × Addr)} {x : Str}, (x, .cell) ∈ names → ∃ c, (x, c) ∈ cellsFrom n names acc
  | (m, k) :: r, n, acc, x, h => by
    unfold cellsFrom
    rcases List.mem_cons.mp h with e | h
    · cases e
      exact ⟨n, cells_acc List.mem_cons_self⟩
    · split
      · exact cells_has h
      · exact cells_has h
theorem cells_inj : ∀ {names : List (Str × NameKind)} {h : Heap} {acc : List (Str × Addr)} {x y : Str} {c : Addr}, (∀ p ∈ acc, p.2 < h.objs.size) → (∀ x y c, (x, c) ∈ acc → (y, c) ∈ acc → x = y) →
    (x, c) ∈ cellsFrom h.objs.size names acc → (y, c) ∈ cellsFrom h.objs.size names acc → x = y
  | [], _, _, _, _, _, _, hi, h1, h2 => hi _ _ _ h1 h2
  | (n, k) :: r, h, acc, x, y, c, hl, hi, h1, h2 => by
    unfold cellsFrom at h1 h2
    split at h1
    · rename_i hk
      rw [if_pos hk] at h2
      rw [← Heap.size_push h { cls := .type "cell", data := .cell none }] at h1 h2
      refine cells_inj (h := h.push _) (fun p hp => ?_) (fun x y c a b => ?_) h1 h2
      · rw [Heap.size_push]
        rcases List.mem_cons.mp hp with rfl | hp
        · exact Nat.lt_succ_self _
        · exact Nat.lt_succ_of_lt (hl p hp)
      · rcases List.mem_cons.mp a with e | a <;> rcases List.mem_cons.mp b with e' | b
        · cases e; cases e'; rfl
        · cases e; exact absurd (hl _ b) (Nat.lt_irrefl _)
        · cases e'; exact absurd (hl _ a) (Nat.lt_irrefl _)
        · exact hi _ _ _ a b
    · rename_i hk
      rw [if_neg hk] at h2
      exact cells_inj hl hi h1 h2
theorem newEnv_comp {M : Model} {A : Around} {E : Value → Shared → Prop} {s : Shared} {scope : Scope} {globals : Addr} {closure : List (Str × Addr)} {qual : Str} {func : Option Addr} {code : Value} {around : Env} {builtins : Addr} {Q : Env → Shared → Prop}
    (h : Q (newEnv scope s.heap.objs.size globals (cellsFrom (s.heap.objs.size + 1) scope.names closure) qual func code (some around) builtins)
      { s with heap := pushCells (s.heap.push { cls := .type "dict", data := .dict #[] }) scope.names }) :
    wpAny M A (newFunctionEnv scope globals closure [] qual func code (some around) builtins) Q E s := by
  simp only [newFunctionEnv, Option.isSome_some, if_true]
  refine wpAny_bind (wpAny_alloc ?_)
  refine wpAny_bind (wpAny_layCells _ (fun n k c => rfl) scope.names closure _ _ ?_)
  rw [show ({ s with heap := s.heap.push { cls := .type "dict", data := .dict #[] } } : Shared).heap.objs.size = s.heap.objs.size + 1 from Heap.size_push ..]
  rw [List.forIn_nil]
  exact wpAny_bind (wpAny_pure (wpAny_pure h))
theorem lookup_relS {sc : Scope} : ∀ {names : List (Str × NameKind)} {x : Str} {k : NameKind},
    (names.map fun (n, k) => if (k == NameKind.free && sc.kind == .function && sc.names.lookup n == some .cell) then (n, NameKind.cell) else (n, k)).lookup x = some k →
    ∃ k', names.lookup x = some k' ∧ (k = k' ∨ (k' = .free ∧ k = .cell))
  | [], _, _, h => by simp at h
  | (n, k₀) :: r, x, k, h => by
    have ih := @lookup_relS sc r x k
    have h' : List.lookup x ((if (k₀ == NameKind.free && sc.kind == .function && sc.names.lookup n == some .cell) = true then (n, NameKind.cell) else (n, k₀)) :: (r.map _)) = some k := h
    cases hx : x == n with
    | true =>
      simp only [List.lookup_cons, hx]
      by_cases hc : (k₀ == NameKind.free && sc.kind == .function && sc.names.lookup n == some .cell) = true
      · rw [if_pos hc] at h'
        simp only [List.lookup_cons, hx] at h'
        cases h'
        simp only [Bool.and_eq_true, beq_iff_eq] at hc
        exact ⟨k₀, rfl, .inr ⟨hc.1.1, rfl⟩⟩
      · rw [if_neg hc] at h'
        simp only [List.lookup_cons, hx] at h'
        cases h'
        exact ⟨_, rfl, .inl rfl⟩
    | false =>
      simp only [List.lookup_cons, hx]
      by_cases hc : (k₀ == NameKind.free && sc.kind == .function && sc.names.lookup n == some .cell) = true
      · rw [if_pos hc] at h'
        simp only [List.lookup_cons, hx] at h'
        exact ih h'
      · rw [if_neg hc] at h'
        simp only [List.lookup_cons, hx] at h'
        exact ih h'
structure BlkOk (N : List Str) (sc scope : Scope) (own : List (Str × Nat)) : Prop where
  kind : scope.kind = .function
  uniq : ∀ y ∈ scope.names, scope.names.lookup y.1 = some y.2
  ix : ∀ p ∈ own, N[p.2]? = some p.1
  free : ∀ y ∈ scope.names, y.2 = .free → sc.names.lookup y.1 = some .cell ∨ sc.names.lookup y.1 = some .free
  own : ∀ y ∈ scope.names, y.2 = .local ∨ y.2 = .cell → y.1 ∈ own.map (·.1) ∨ y.1 ∉ N
def wipe (σ : St) : List Nat → St
  | [] => σ
  | v :: vs => (wipe σ vs).set v none
theorem wipe_length (σ : St) : ∀ vs : List Nat, (wipe σ vs).length = σ.length
  | [] => rfl
  | v :: vs => by unfold wipe; rw [List.length_set, wipe_length σ vs]
theorem wipe_some {σ : St} {i : Nat} {x : V} : ∀ {vs : List Nat}, (wipe σ vs)[i]? = some (some x) → σ[i]? = some (some x) ∧ i ∉ vs
  | [], h => ⟨h, by simp⟩
  | v :: vs, h => by
    unfold wipe at h
    by_cases hi : v = i
    · subst hi
      by_cases hv : v < (wipe σ vs).length
      · rw [List.getElem?_set_self hv] at h; cases h
      · rw [List.getElem?_eq_none (by simpa using hv)] at h; cases h
    · rw [List.getElem?_set_ne hi] at h
      obtain ⟨h1, h2⟩ := wipe_some h
      exact ⟨h1, by simp only [List.mem_cons, not_or]; exact ⟨fun e => hi e.symm, h2⟩⟩
abbrev Cx.blk (X : Cx) (s : Shared) (H : Hp) (scope : Scope) (cenv : Env) (fp : List Addr) : Cx := { X with s_0 := s, H_0 := H, env := cenv, outer := X.stack, ex := fp, fn := fun x => scope.names.lookup x == some .cell, pn := [], xe := fun _ _ => False }
section
variable {X : Cx} {pins : List (Addr × Obj)} {σ : St} {H : Hp} {s : Shared}
theorem block_start {scope : Scope} {own : List (Str × Nat)} {fp : List Addr} (I : Inv X pins σ H s) (ok : BlkOk X.N X.env.scope scope own) (hN : X.N.Nodup) (hfp : ∀ b ∈ fp, FpOk X pins H b ∧ b < s.heap.objs.size) :
    Inv (X.blk s H scope (compEnvC scope (cellsFrom (s.heap.objs.size + 1) scope.names (cloFrom X.env.cells scope.names [])) s.heap.objs.size X.env) fp) [] (wipe σ (own.map (·.2))) H { s with heap := pushCells (s.heap.push { cls := .type "dict", data := .dict #[] }) scope.names } := by
  have hfree : ∀ y ∈ scope.names, y.2 = .free → ∃ c, X.env.cells.lookup y.1 = some c := fun y hy e => by
    rcases ok.free y hy e with k | k
    · exact I.ok.has _ (.inl k)
    · exact I.ok.has _ (.inr k)
  generalize hcenv : compEnvC scope (cellsFrom (s.heap.objs.size + 1) scope.names (cloFrom X.env.cells scope.names [])) s.heap.objs.size X.env = cenv
  have kp : ∀ b o, s.heap.get? b = some o → (pushCells (s.heap.push { cls := .type "dict", data := .dict #[] }) scope.names).get? b = some o := fun b o e => pushCells_keeps _ _ _ _ (Heap.get?_push_of_some _ e)
  have hL : cenv.locals = s.heap.objs.size := by rw [← hcenv]; rfl
  have hcl : cenv.cells = cellsFrom (s.heap.objs.size + 1) scope.names (cloFrom X.env.cells scope.names []) := by rw [← hcenv]; rfl
  have hsc : cenv.scope = relS scope X.env.scope := by rw [← hcenv]; rfl
  rw [← Heap.size_push s.heap { cls := .type "dict", data := .dict #[] }] at hcl
  have cm : ∀ {y c}, (y, c) ∈ cloFrom X.env.cells scope.names [] → X.env.cells.lookup y = some c ∧ c < s.heap.objs.size := fun {y c} hm => by
    rcases cloFrom_mem hm with hm | ⟨h1, rfl⟩
    · cases hm
    · obtain ⟨c, hc⟩ := hfree _ h1 rfl
      rw [hc]
      obtain ⟨w, z⟩ := I.cell _ _ hc
      exact ⟨rfl, z.lt⟩
  have mem : ∀ {y c}, cenv.cells.lookup y = some c → (X.env.cells.lookup y = some c ∧ c < s.heap.objs.size) ∨ (s.heap.objs.size + 1 ≤ c ∧ CellAt (pushCells (s.heap.push { cls := .type "dict", data := .dict #[] }) scope.names) c none) := fun {y c} e => by
    rw [hcl] at e
    rcases cells_mem (PySem.mem_of_lookup e) with hm | ⟨_, h2, h3⟩
    · exact .inl (cm hm)
    · rw [Heap.size_push] at h2; exact .inr ⟨h2, h3⟩
  have look : ∀ {y}, scope.names.lookup y = some .free → ∃ c, cenv.cells.lookup y = some c ∧ X.env.cells.lookup y = some c := fun {y} hl => by
    have hy : (y, NameKind.free) ∈ scope.names := PySem.mem_of_lookup hl
    obtain ⟨c', e'⟩ := mem_lookup (cells_acc (names := scope.names) (n := (s.heap.push { cls := .type "dict", data := .dict #[] }).objs.size) (cloFrom_has (cells := X.env.cells) (acc := []) hy))
    rw [← hcl] at e'
    refine ⟨c', e', ?_⟩
    rw [hcl] at e'
    rcases cells_mem (PySem.mem_of_lookup e') with hm | ⟨h1, _, _⟩
    · exact (cm hm).1
    · have := ok.uniq _ h1
      rw [hl] at this; cases this
  have okB : (X.blk s H scope cenv fp).Ok := by
    refine ⟨I.ok.mod, by show cenv.scope.kind = _; rw [hsc]; exact ok.kind, by show cenv.globals = _; rw [← hcenv]; exact I.ok.glob, by show cenv.builtins = _; rw [← hcenv]; exact I.ok.blt, by show s.heap.objs.size ≤ cenv.locals; rw [hL]; exact Nat.le_refl _,
      fun y z c e1 e2 => ?_, fun y hy => ?_, fun y c z e => ?_, I.ok.hd, I.ok.frames, .inl rfl, fun b hb => ⟨?_, fun y c e z => ?_⟩, I.bs, Nat.le_trans I.ok.bsz I.sz, fun b o e hb => ?_, fun b hb z => ?_, I.stack, I.stkFree⟩
    · have e1 : cenv.cells.lookup y = some c := e1
      have e2 : cenv.cells.lookup z = some c := e2
      rw [hcl] at e1 e2
      refine cells_inj (fun p hp => ?_) (fun y z c a b => I.ok.inj y z c (cm a).1 (cm b).1) (PySem.mem_of_lookup e1) (PySem.mem_of_lookup e2)
      rw [Heap.size_push]
      exact Nat.lt_succ_of_lt (cm (y := p.1) (c := p.2) hp).2
    · show ∃ c, cenv.cells.lookup y = some c
      have key : ∀ k, cenv.kindOf y = some k → (k = .cell ∨ k = .free) → ∃ c, cenv.cells.lookup y = some c := fun k hk hk' => by
        unfold Env.kindOf at hk
        rw [hsc] at hk
        obtain ⟨k', e, r⟩ := lookup_relS hk
        have : k' = .cell ∨ k' = .free := by
          rcases r with rfl | ⟨rfl, _⟩
          · exact hk'
          · exact .inr rfl
        rcases this with rfl | rfl
        · obtain ⟨c, hm⟩ := cells_has (n := (s.heap.push { cls := .type "dict", data := .dict #[] }).objs.size) (acc := cloFrom X.env.cells scope.names []) (PySem.mem_of_lookup e)
          obtain ⟨c', e'⟩ := mem_lookup hm
          exact ⟨c', by rw [hcl]; exact e'⟩
        · obtain ⟨c, h1, _⟩ := look e
          exact ⟨c, h1⟩
      rcases hy with hy | hy
      · exact key _ hy (.inl rfl)
      · exact key _ hy (.inr rfl)
    · have z : (scope.names.lookup y == some NameKind.cell) = true := z
      have z : scope.names.lookup y = some .cell := by simpa using z
      have e : cenv.cells.lookup y = some c := e
      rw [hcl] at e
      rcases cells_mem (PySem.mem_of_lookup e) with hm | ⟨_, h2, _⟩
      · rcases cloFrom_mem hm with hm | ⟨h1, _⟩
        · cases hm
        · have q := ok.uniq _ h1
          rw [z] at q; cases q
      · rw [Heap.size_push] at h2
        exact Nat.le_of_succ_le h2
    · show b ≠ cenv.locals
      rw [hL]; exact Nat.ne_of_lt (hfp b hb).2
    · have e : cenv.cells.lookup y = some c := e
      rcases mem e with ⟨h1, _⟩ | ⟨h1, _⟩
      · exact (hfp b hb).1.2.2.2.2.1 y c h1 z
      · have h2 : s.heap.objs.size + 1 ≤ b := by rw [← z]; exact h1
        exact absurd (Nat.lt_of_lt_of_le (hfp b hb).2 (Nat.le_of_succ_le h2)) (Nat.lt_irrefl _)
    · rcases (hfp b hb).1.2.2.2.1 with z | z
      · exact I.ok.noex b o e z
      · exact absurd (Nat.lt_of_lt_of_le (Heap.lt_size e) (Nat.le_trans I.ok.bsz z)) (Nat.lt_irrefl _)
    · rcases List.mem_cons.mp (I.stkSub b z) with z | z
      · exact (hfp b hb).1.2.1 z
      · exact (hfp b hb).1.2.2.1 z
  refine ⟨okB, rfl, I.bare, Un.kept kp, ⟨fun _ => none, ?_, fun i y av e1 e2 e3 => ?_⟩, fun y c e => ?_, ?_, fun y c e => ?_, fun p hp => ?_, I.hok.kept kp, by rw [wipe_length]; exact I.len⟩
  · show Heap.Ns _ cenv.locals _
    rw [hL]
    exact Heap.Ns.keeps (Heap.Ns.new ..) fun b o e => pushCells_keeps _ _ _ _ e
  · obtain ⟨e2, hne⟩ := wipe_some e2
    have hfr : scope.names.lookup y = some .free ∧ (cenv.kindOf y = some .cell ∨ cenv.kindOf y = some .free) := by
      have key : ∀ k, cenv.scope.names.lookup y = some k → k = .local ∨ k = .cell ∨ k = .free → scope.names.lookup y = some .free ∧ (cenv.kindOf y = some .cell ∨ cenv.kindOf y = some .free) := fun k hk hk' => by
        have hk0 := hk
        rw [hsc] at hk
        obtain ⟨k', e, r⟩ := lookup_relS hk
        have no : ¬ (k' = .local ∨ k' = .cell) := fun hh => by
          rcases ok.own _ (PySem.mem_of_lookup e) hh with e' | e'
          · obtain ⟨p, hp, hpy⟩ := List.mem_map.mp e'
            have e3 := ok.ix p hp
            have : p.1 = y := hpy
            rw [this] at e3
            exact hne (List.mem_map.mpr ⟨p, hp, nodup_ix hN e3 e1⟩)
          · exact e' (List.mem_of_getElem? e1)
        rcases r with rfl | ⟨rfl, rfl⟩
        · rcases hk' with rfl | rfl | rfl
          · exact absurd (.inl rfl) no
          · exact absurd (.inr rfl) no
          · exact ⟨e, .inr hk0⟩
        · exact ⟨e, .inl hk0⟩
      have e3 : Vis cenv.scope y := e3
      rcases e3 with e3 | e3 | e3
      · exact key _ e3 (.inl rfl)
      · exact key _ e3 (.inr (.inl rfl))
      · exact key _ e3 (.inr (.inr rfl))
    obtain ⟨m, hn, hl⟩ := I.loc
    have hvis : Vis X.env.scope y := (ok.free _ (PySem.mem_of_lookup hfr.1) rfl).elim (fun k => .inr (.inl k)) (fun k => .inr (.inr k))
    obtain ⟨w, r, q⟩ := hl i y av e1 e2 hvis
    refine ⟨w, r, .inr ⟨hfr.2, ?_⟩⟩
    obtain ⟨c, h1, h2⟩ := look hfr.1
    rcases q with ⟨k, _⟩ | ⟨_, c', e', z⟩
    · have k : X.env.scope.names.lookup y = some .local := k
      rcases ok.free _ (PySem.mem_of_lookup hfr.1) rfl with k' | k' <;> rw [show X.env.scope.names.lookup y = _ from k'] at k <;> cases k
    · rw [h2] at e'; cases e'
      exact ⟨c, h1, z.keeps kp⟩
  · have e : cenv.cells.lookup y = some c := e
    rcases mem e with ⟨h1, _⟩ | ⟨_, z⟩
    · obtain ⟨w, z⟩ := I.cell y c h1
      exact ⟨w, z.keeps kp⟩
    · exact ⟨_, z⟩
  · show H cenv.locals = none
    rw [hL]; exact I.hok.fresh (Nat.le_refl _)
  · have e : cenv.cells.lookup y = some c := e
    rcases mem e with ⟨h1, _⟩ | ⟨h1, _⟩
    · exact I.freeC y c h1
    · exact I.hok.fresh (Nat.le_of_succ_le h1)
  · exact absurd (show p ∈ ([] : List (Addr × Obj)) ++ [] from hp) (by simp)
theorem app_ok {E : Value → Shared → Prop} {D : Addr} {xs : List V} {y : V} {v : Value} {Q : Value → Shared → Prop} (I : Inv X pins σ H s) (hD : H D = some (.lst xs)) (hz : xs.length < sizeLine) (r : RelV y v)
    (h : ∀ s', Inv X pins σ (upd H D (.lst (xs ++ [y]))) s' → Q .none s') : wpAny (model X.prog X.w) X.A (call (.builtin "list.append") [.ref D, v]) Q E s := by
  obtain ⟨hz', its, n, ri, e⟩ := I.hok D _ hD
  have hl := ri.length
  refine append_at (hsz := by rw [List.size_toArray]; omega) e fun h' sb ho' => ?_
  refine h { s with heap := h' } (I.write (t' := s.toks) (by rw [hD]; trivial) (.inl rfl) (fun b u hb q => (sb.2 b hb).trans q) ⟨_, ho'⟩ ⟨by rw [List.length_append]; exact hz, its ++ [v], n + 1, ri.append (.cons r .nil), ?_⟩)
  rw [ho']
  simp
def PTs (X : Cx) (ifs : List Expr) (t : TT) : Prop :=
  ∀ (pins : List (Addr × Obj)) (s : Shared) (σ : St) (H : Hp) (Q : Bool → Hp → Prop), Inv X pins σ H s → t σ H Q →
    wpAny (model X.prog X.w) X.A (forIn ifs true fun c r => if r = true then do let ok ← isTrue c X.env (eval c X.env); pure (ForInStep.yield ok) else pure (ForInStep.yield r)) (TP X pins σ Q) X.xe s
def tYes : TT := fun _ H Q => Q true H
theorem pts_nil : PTs X [] tYes := fun _ _ _ H _ I h => wpAny_tests_nil ⟨H, I, h⟩
theorem pts_one {c : Expr} {t : TT} (h : PT X c t) : PTs X [c] t := fun pins s σ H Q I hw => wpAny_tests_one (h pins s σ H Q I hw)
end
theorem thnF {α : Type} {t : Sem α} {Q Q' : α → Shared → Prop} {M : Model} {A : Around} {E : Value → Shared → Prop} {s : Shared} (h : wpAny M A t Q (fun _ _ => False) s) (hQ : ∀ a s, Q a s → Q' a s) : wpAny M A t Q' E s := wpAny_mono h hQ fun _ _ z => False.elim z
theorem compLoop_any {prog : Program} {w : World} {A : Around} {R : Result → Shared → Prop} {s : Shared} {elt target iter : Expr} {ifs : List Expr} {scope : Scope} {pos : Pos} {it acc : Value} {env : Env} (I : Nat → Shared → Prop)
    (turn : ∀ n s, I n s → wpAny (model prog w) A (pyNext it) (fun r s₁ => match r with
      | none => R (.ok .next) s₁
      | some v => wpAny (model prog w) A (letOwnedTupleGo target it v) (fun _ s₁' => wpAny (model prog w) A (assign target env v) (fun _ s₂ =>
          wpAny (model prog w) A (forIn ifs true fun c r => if r = true then do let ok ← isTrue c env (eval c env); pure (ForInStep.yield ok) else pure (ForInStep.yield r)) (fun ok s₃ =>
            if ok = true then wpAny (model prog w) A (eval elt env) (fun x s₄ =>
              wpAny (model prog w) A (call (.builtin "list.append") [acc, x]) (fun _ s₅ => ∃ m, m < n ∧ I m s₅) (notedBy (model prog w) A env fun e s' => R (.error e) s') s₄) (notedBy (model prog w) A env fun e s' => R (.error e) s') s₃
            else ∃ m, m < n ∧ I m s₃) (notedBy (model prog w) A env fun e s' => R (.error e) s') s₂) (notedBy (model prog w) A env fun e s' => R (.error e) s') s₁') (notedBy (model prog w) A env fun e s' => R (.error e) s') s₁) (notedBy (model prog w) A env fun e s' => R (.error e) s') s)
    (n : Nat) (h : I n s) :
    codeAny (model prog w) A (.compLoop (.ListComp elt [⟨target, iter, ifs, 0⟩] scope pos) 0 it acc env) R s := by
  refine codeAny_loop rfl I (fun n s hI => ?_) n h
  show wpAny _ A ((compTurn (.ListComp elt [⟨target, iter, ifs, 0⟩] scope pos) 0 it acc env).onRaise (fun x => do noteFrame x env; theTreesLotGoes x)) _ _ s
  refine wpAny_noted ?_
  rw [compTurn_list]
  refine wpAny_bind (wpAny_standAt (wpAny_bind (wpAny_mono (turn n s hI) (fun r s₁ h₁ => ?_) fun _ _ h' => h')))
  cases r with
  | none => exact wpAny_pure h₁
  | some v =>
    refine wpAny_bind (wpAny_mono h₁ (fun _ s₁' h₁' => ?_) fun _ _ h' => h')
    refine wpAny_bind (wpAny_mono h₁' (fun _ s₂ h₂ => wpAny_bind (wpAny_mono h₂ (fun ok s₃ h₃ => ?_) fun _ _ h' => h')) fun _ _ h' => h')
    cases ok with
    | false => exact wpAny_pure ⟨rfl, h₃⟩
    | true =>
      exact wpAny_bind (wpAny_bind (wpAny_mono h₃ (fun x s₄ h₄ => wpAny_bind (wpAny_mono h₄ (fun _ s₅ h₅ => wpAny_pure (wpAny_pure ⟨rfl, h₅⟩)) fun _ _ h' => h')) fun _ _ h' => h'))
section
variable {X : Cx}
def tLc (wi : TI) (g : TG) (tt : TT) (te : TE) (vs : List Nat) : TE := fun σ H Q => wi σ H fun J H1 => ∀ D, H1 D = none → ∃ W : Nat → Nat → Hp → Prop, (∃ m, W 0 m (upd H1 D (.lst []))) ∧ ∀ i m H, W i m H →
  (J.stop i H ∧ Q (.ref D) H) ∨ (J.go i H ∧ ∃ Nx : Hp → Prop, (∀ H', Nx H' → ∃ m', m' < m ∧ W (i + 1) m' H') ∧ ∀ x H', J.yld i H x H' → g x (wipe σ vs) H' fun σ2 H2 => wipe σ2 vs = wipe σ vs ∧ tt σ2 H2 fun b H3 =>
    if b = true then te σ2 H3 fun y H4 => ∃ acc, H4 D = some (.lst acc) ∧ acc.length < sizeLine ∧ Nx (upd H4 D (.lst (acc ++ [y]))) else Nx H3)
theorem lc_core {pins : List (Addr × Obj)} {s : Shared} {σ : St} {H : Hp} {Q : VK} {elt tg iter : Expr} {ifs : List Expr} {scope : Scope} {own : List (Str × Nat)} {pos pos' : Pos} {wi : TI} {g : TG} {tt : TT} {te : TE} {use : Option (Value → Sem Unit)} {Qf : Value → Shared → Prop}
    (hc : X.calm = true) (hN : X.N.Nodup) (I : Inv X pins σ H s) (hi : PI X tg iter wi) (ok : BlkOk X.N X.env.scope scope own)
    (hg : ∀ (s : Shared) (H : Hp) (C : Addr) (cl : List (Str × Addr)) (fp : List Addr), PG (X.blk s H scope (compEnvC scope cl C X.env) fp) tg g) (ht : ∀ (s : Shared) (H : Hp) (C : Addr) (cl : List (Str × Addr)) (fp : List Addr), PTs (X.blk s H scope (compEnvC scope cl C X.env) fp) ifs tt)
    (he : ∀ (s : Shared) (H : Hp) (C : Addr) (cl : List (Str × Addr)) (fp : List Addr), PE (X.blk s H scope (compEnvC scope cl C X.env) fp) elt te) (hs : ∀ x, foldedSetIterable iter X.env x = pure x)
    (h : tLc wi g tt te (own.map (·.2)) σ H Q)
    (hRR : ∀ D C s' m H', Inv X pins σ H' s' → Q (.ref D) H' → s'.heap.Ns C m → FpOk X pins H' C → compPost (model X.prog X.w) X.A X.xe use Qf (.ref D) C (.ok .next) s') :
    wpAny (model X.prog X.w) X.A (comprehension (.ListComp elt [⟨tg, iter, ifs, 0⟩] scope pos) scope X.env pos' (newList []) false (eval iter X.env) use) Qf X.xe s := by
  have hfree : ∀ y ∈ scope.names, y.2 = .free → ∃ c, X.env.cells.lookup y.1 = some c := fun y hy e => by
    rcases ok.free y hy e with k | k
    · exact I.ok.has _ (.inl k)
    · exact I.ok.has _ (.inr k)
  refine wpAny_comprehension_free (use := use) rfl hs (closure_ok hfree) ok.kind (fun y hy e => by rw [ok.uniq y hy, e])
    (thn (hi pins s σ H _ I h) fun xv s1 hx => thn hx fun itv s2 h2 => ?_)
  obtain ⟨it, fp, tn, J, H2, e, I2, T, st2, f2, q⟩ := h2
  subst e
  refine wpAny_newObj_type (newEnv_comp ?_) (by show 0 ≤ sizeLine; decide)
  generalize hD : s2.heap.objs.size = D
  have hDn : H2 D = none := I2.hok.fresh (Nat.le_of_eq hD)
  obtain ⟨W, ⟨m0, w0⟩, turn⟩ := q D hDn
  generalize hs3 : ({ s2 with heap := s2.heap.push { cls := .type "list", data := .seq ([] : List Value).toArray } } : Shared) = s3
  have I3 : Inv X pins σ (upd H2 D (.lst [])) s3 := by
    rw [← hs3]
    refine I2.laid (t' := s2.toks) (fun b o e => Heap.get?_push_of_some _ e) (Nat.le_of_eq hD) ⟨Nat.zero_le _, [], 0, .nil, ?_⟩
    rw [← hD]
    exact Heap.get?_push_size _ rfl
  have h3 : s3.heap = s2.heap.push { cls := .type "list", data := .seq ([] : List Value).toArray } := by rw [← hs3]
  have sz : ∀ b ∈ fp, b < s2.heap.objs.size := fun b hb => by
    obtain ⟨o, e, _⟩ := T.obj _ _ st2 b hb
    exact Heap.lt_size e
  have f3 : ∀ b ∈ fp, FpOk X pins (upd H2 D (.lst [])) b ∧ b < s3.heap.objs.size := fun b hb => by
    have hlt := sz b hb
    refine ⟨⟨?_, (f2 b hb).2⟩, by rw [h3, Heap.size_push]; exact Nat.lt_succ_of_lt hlt⟩
    rw [upd_ne (by rw [← hD]; exact Nat.ne_of_lt hlt)]
    exact (f2 b hb).1
  have st3 : tn 0 s3.heap := T.keep _ _ _ st2 fun b _ o e => by rw [h3]; exact Heap.get?_push_of_some _ e
  have I4 := block_start I3 ok hN f3
  have pg := hg s3 (upd H2 D (.lst [])) s3.heap.objs.size (cellsFrom (s3.heap.objs.size + 1) scope.names (cloFrom X.env.cells scope.names [])) fp
  have pt := ht s3 (upd H2 D (.lst [])) s3.heap.objs.size (cellsFrom (s3.heap.objs.size + 1) scope.names (cloFrom X.env.cells scope.names [])) fp
  have pe := he s3 (upd H2 D (.lst [])) s3.heap.objs.size (cellsFrom (s3.heap.objs.size + 1) scope.names (cloFrom X.env.cells scope.names [])) fp
  show codeAny _ _ (.compStart (.ListComp elt [⟨tg, iter, ifs, 0⟩] scope pos) 0 (.ref it) (.ref D) (compEnvC scope (cellsFrom (s3.heap.objs.size + 1) scope.names (cloFrom X.env.cells scope.names [])) s3.heap.objs.size X.env)) (compPost (model X.prog X.w) X.A X.xe use Qf (.ref D) s3.heap.objs.size) { s3 with heap := pushCells (s3.heap.push { cls := .type "dict", data := .dict #[] }) scope.names }
  have nfp : ∀ b ∈ fp, (upd H2 D (.lst [])) b = none := fun b hb => (f3 b hb).1.1
  generalize hce : compEnvC scope (cellsFrom (s3.heap.objs.size + 1) scope.names (cloFrom X.env.cells scope.names [])) s3.heap.objs.size X.env = ce at I4 pg pt pe ⊢
  have cL : ce.locals = s3.heap.objs.size := by subst hce; rfl
  generalize hH3 : upd H2 D (.lst []) = H3 at I3 I4 pg pt pe w0 nfp f3
  generalize hs4 : ({ s3 with heap := pushCells (s3.heap.push { cls := .type "dict", data := .dict #[] }) scope.names } : Shared) = s4 at I4 ⊢
  have st4 : tn 0 s4.heap := T.keep _ _ _ st3 fun b _ o e => by rw [← hs4]; exact pushCells_keeps _ _ _ _ (Heap.get?_push_of_some _ e)
  have stat : ∀ {σ' : St} {H' : Hp} {s' : Shared}, Inv (X.blk s3 H3 scope ce fp) [] σ' H' s' → (∀ b ∈ fp, H' b = none) → ∀ b ∈ fp, FpOk (X.blk s3 H3 scope ce fp) [] H' b := fun {σ' H' s'} I' hn b hb =>
    ⟨hn b hb, (I'.ok.exf b hb).1, I'.ok.exfs b hb, .inl hb, fun x c e => (I'.ok.exf b hb).2 x c e, fun p hp => absurd (show p ∈ ([] : List (Addr × Obj)) ++ [] from hp) (by simp)⟩
  have loop : codeAny (model X.prog X.w) X.A (.compLoop (.ListComp elt [⟨tg, iter, ifs, 0⟩] scope pos) 0 (.ref it) (.ref D) ce) (compPost (model X.prog X.w) X.A X.xe use Qf (.ref D) s3.heap.objs.size) s4 := by
    refine compLoop_any (fun n s' => ∃ i H', Inv (X.blk s3 H3 scope ce fp) [] (wipe σ (own.map (·.2))) H' s' ∧ tn i s'.heap ∧ (∀ b ∈ fp, H' b = none) ∧ W i n H') ?_ m0 ⟨0, H3, I4, st4, nfp, w0⟩
    rintro n s5 ⟨i, H5, I5, st5, n5, w5⟩
    rcases turn i n H5 w5 with ⟨stop, qq⟩ | ⟨go, Nx, hNx, step⟩
    · have td := T.done (X.blk s3 H3 scope ce fp) rfl rfl rfl hc i [] s5 _ H5 (fun _ _ => False) I5 (stat I5 n5) st5 stop
      refine thnF td fun r s6 ⟨hr, I6⟩ => ?_
      subst hr
      have I7 : Inv X pins σ H5 s6 := I3.call' (ch := fp) I6.os I6.base I6.hok I6.bare fun b hb => ⟨(f3 b hb).1.2.2.2.1, (f3 b hb).1.2.1, (f3 b hb).1.2.2.2.2.1, (f3 b hb).1.2.2.2.2.2⟩
      have nC : H5 s3.heap.objs.size = none := by
        have z : H5 ce.locals = none := I6.free
        rw [cL] at z
        exact z
      obtain ⟨m, hn, _⟩ := I6.loc
      have hn : s6.heap.Ns ce.locals m := hn
      rw [cL] at hn
      exact hRR D s3.heap.objs.size s6 m H5 I7 qq hn (I3.fpOk (Nat.le_refl _) nC)
    · have ti := T.item (X.blk s3 H3 scope ce fp) rfl rfl rfl hc i [] s5 _ H5 (fun _ _ => False) I5 (stat I5 n5) st5 go
      refine thnF ti fun r s6 ⟨u, hr, h6⟩ => ?_
      subst hr
      refine thnF h6 fun _ s7 ⟨x, H7, I7, r7, y7, st7, n7⟩ => ?_
      have I7' := I7.pinned (stat I7 n7) (T.obj _ _ st7)
      refine thnF (pg _ s7 _ H7 x u _ I7' r7 (step x H7 y7)) fun _ s8 ⟨σ8, H8, I8, hw8, q8⟩ => ?_
      refine thnF (pt _ s8 σ8 H8 _ I8 q8) fun b s9 ⟨H9, I9, q9⟩ => ?_
      have fin : ∀ {s' : Shared} {H' : Hp}, Inv (X.blk s3 H3 scope ce fp) ([] ++ pinsAt fp s7.heap) σ8 H' s' → Nx H' → ∃ m, m < n ∧ ∃ i H', Inv (X.blk s3 H3 scope ce fp) [] (wipe σ (own.map (·.2))) H' s' ∧ tn i s'.heap ∧ (∀ b ∈ fp, H' b = none) ∧ W i m H' := fun {s' H'} I' nx => by
        obtain ⟨m', hm, w'⟩ := hNx H' nx
        have pin' : ∀ b ∈ fp, ∀ o, s7.heap.get? b = some o → s'.heap.get? b = some o ∧ H' b = none := fun b hb o e =>
          let z := I'.pin (b, o) (List.mem_append_right _ (List.mem_append_right _ (mem_pinsAt hb e)))
          ⟨z.1, z.2.1⟩
        have hl : (wipe σ (own.map (·.2))).length = σ8.length := by rw [← hw8, wipe_length]
        refine ⟨m', hm, i + 1, H', (I'.unpinned (pins := [])).weak hl (fun j v e => ?_), T.keep _ _ _ st7 fun b hb o e => (pin' b hb o e).1, fun b hb => ?_, w'⟩
        · rw [← hw8] at e
          exact (wipe_some e).1
        · obtain ⟨o, e, _⟩ := T.obj _ _ st7 b hb
          exact (pin' b hb o e).2
      cases b with
      | false =>
        simp only [Bool.false_eq_true, if_false] at q9 ⊢
        exact fin I9 q9
      | true =>
        simp only [if_true] at q9 ⊢
        refine thnF (pe _ s9 σ8 H9 _ I9 q9) fun z s10 ⟨yv, H10, I10, r10, acc, hD10, hz10, nx⟩ => ?_
        exact app_ok (X := X.blk s3 H3 scope ce fp) I10 hD10 hz10 r10 fun s11 I11 => fin I11 nx
  exact codeAny_compStart_list loop (T.self X.A 0 _ _ _ st4 loop)
theorem pe_lc {elt tg iter : Expr} {ifs : List Expr} {scope : Scope} {own : List (Str × Nat)} {pos : Pos} {wi : TI} {g : TG} {tt : TT} {te : TE} (hc : X.calm = true) (hN : X.N.Nodup) (hi : PI X tg iter wi) (ok : BlkOk X.N X.env.scope scope own)
    (hg : ∀ (s : Shared) (H : Hp) (C : Addr) (cl : List (Str × Addr)) (fp : List Addr), PG (X.blk s H scope (compEnvC scope cl C X.env) fp) tg g) (ht : ∀ (s : Shared) (H : Hp) (C : Addr) (cl : List (Str × Addr)) (fp : List Addr), PTs (X.blk s H scope (compEnvC scope cl C X.env) fp) ifs tt)
    (he : ∀ (s : Shared) (H : Hp) (C : Addr) (cl : List (Str × Addr)) (fp : List Addr), PE (X.blk s H scope (compEnvC scope cl C X.env) fp) elt te) (hs : ∀ x, foldedSetIterable iter X.env x = pure x := by intro _; rfl) :
    PE X (.ListComp elt [⟨tg, iter, ifs, 0⟩] scope pos) (tLc wi g tt te (own.map (·.2))) := by
  intro pins s σ H Q I h
  rw [eval_ListComp]
  refine lc_core hc hN I hi ok hg ht he hs h fun D C s' m H' I' q hn f => ⟨m, hn, fun h'' sb => ?_⟩
  obtain ⟨f0, f1, f2, f3, f4, f5⟩ := f
  exact ⟨.ref D, H', I'.turned (t' := s'.toks) (fun b o hb e => (sb.2 b hb).trans e) f0 f1 f3 f4 f5, rfl, q⟩
theorem ps_setLc {i : Nat} {y : Str} {py : Pos} {elt tg iter : Expr} {ifs : List Expr} {scope : Scope} {own : List (Str × Nat)} {pos spos : Pos} {wi : TI} {g : TG} {tt : TT} {te : TE} (hc : X.calm = true) (hN : X.N.Nodup) (hy : X.N[i]? = some y) (hyl : X.env.scope.names.lookup y = some .local)
    (hsw : swapsWith (.ListComp elt [⟨tg, iter, ifs, 0⟩] scope pos) (some (.Name y py)) spos.line X.env = pure true) (hi : PI X tg iter wi) (ok : BlkOk X.N X.env.scope scope own)
    (hg : ∀ (s : Shared) (H : Hp) (C : Addr) (cl : List (Str × Addr)) (fp : List Addr), PG (X.blk s H scope (compEnvC scope cl C X.env) fp) tg g) (ht : ∀ (s : Shared) (H : Hp) (C : Addr) (cl : List (Str × Addr)) (fp : List Addr), PTs (X.blk s H scope (compEnvC scope cl C X.env) fp) ifs tt)
    (he : ∀ (s : Shared) (H : Hp) (C : Addr) (cl : List (Str × Addr)) (fp : List Addr), PE (X.blk s H scope (compEnvC scope cl C X.env) fp) elt te) (hs : ∀ x, foldedSetIterable iter X.env x = pure x := by intro _; rfl) :
    PS X (.Assign [.Name y py] (.ListComp elt [⟨tg, iter, ifs, 0⟩] scope pos) spos) (tAsg (tLc wi g tt te (own.map (·.2))) (gName i)) := by
  intro pins s σ H D I h
  rw [exec_Assign_Name_used _ _ _ _ hsw]
  refine wpAny_bind (wpAny_standAt (wpAny_bind ?_))
  show wpAny _ X.A (do let _ ← comprehension (.ListComp elt [⟨tg, iter, ifs, 0⟩] scope pos) scope X.env (firstIterPos [⟨tg, iter, ifs, 0⟩] pos) (newList []) false (eval iter X.env) (some (assign (.Name y py) X.env))) _ _ s
  have h : tLc wi g tt te (own.map (·.2)) σ H (fun x H1 => gName i x σ H1 D.nx) := h
  refine wpAny_bind (thn (lc_core (Qf := fun _ s' => SP X pins D .next s') hc hN I hi ok hg ht he hs h fun L C s' m H' I' q hn f => ?_) fun _ s' hq => wpAny_pure (wpAny_pure hq))
  show wpAny _ _ (assign (.Name y py) X.env (.ref L)) _ _ _
  refine wpAny_assign_Name (store_ok2 (v := V.ref L) I' hN hy (.inl hyl) rfl (fun s2 I2 ⟨a, sb, ha⟩ => ?_) (.inr hyl))
  obtain ⟨f0, f1, f2, f3, f4, f5⟩ := f
  have haC : C ≠ a := by
    rcases ha with z | z
    · rw [z]; exact f1
    · exact fun e => f4 y a z e.symm
  refine ⟨m, hn.sameBut sb haC, fun h3 sb3 => ?_⟩
  exact ⟨_, H', I2.turned (t' := s2.toks) (fun b o hb e => (sb3.2 b hb).trans e) f0 f1 f3 f4 f5, q⟩
theorem sw_true {elt : Expr} {gs : List Comprehension} {scope : Scope} {pos py : Pos} {y : Str} {l : Nat} {env : Env} (hk : env.scope.kind = .function) (hy : env.scope.names.lookup y = some .local) (hl : (py.line == pos.line) = true)
    (ha : (scope.names.any fun (n, k) => n == y && (k == .local || k == .cell)) = false) : swapsWith (.ListComp elt gs scope pos) (some (.Name y py)) l env = pure true := by
  have ky : env.kindOf y = some .local := hy
  have hb : env.blockKind = .function := by unfold Env.blockKind; rw [hk]; rfl
  unfold swapsWith
  simp only [hb, ky, ha, Expr.pos, hl]
  rfl
end
theorem lc_range {lo : Int} {n : Nat} {g : TG} {tt : TT} {te : TE} {vs : List Nat} {σ : St} {H1 : Hp} {D : Addr} {Qd : Hp → Prop} (Pv : Nat → Hp → Prop) (h0 : Pv 0 (upd H1 D (.lst [])))
    (hs : ∀ i H, i < n → Pv i H → g (.int (lo + i)) (wipe σ vs) H fun σ2 H2 => wipe σ2 vs = wipe σ vs ∧ tt σ2 H2 fun b H3 =>
      if b = true then te σ2 H3 fun y H4 => ∃ acc, H4 D = some (.lst acc) ∧ acc.length < sizeLine ∧ Pv (i + 1) (upd H4 D (.lst (acc ++ [y]))) else Pv (i + 1) H3) (hd : ∀ H, Pv n H → Qd H) :
    ∃ W : Nat → Nat → Hp → Prop, (∃ m, W 0 m (upd H1 D (.lst []))) ∧ ∀ i m H, W i m H →
      ((Itr lo n).stop i H ∧ Qd H) ∨ ((Itr lo n).go i H ∧ ∃ Nx : Hp → Prop, (∀ H', Nx H' → ∃ m', m' < m ∧ W (i + 1) m' H') ∧ ∀ x H', (Itr lo n).yld i H x H' → g x (wipe σ vs) H' fun σ2 H2 => wipe σ2 vs = wipe σ vs ∧ tt σ2 H2 fun b H3 =>
        if b = true then te σ2 H3 fun y H4 => ∃ acc, H4 D = some (.lst acc) ∧ acc.length < sizeLine ∧ Nx (upd H4 D (.lst (acc ++ [y]))) else Nx H3) := by
  refine ⟨fun i m H => m = n - i ∧ i ≤ n ∧ Pv i H, ⟨n, by simp, Nat.zero_le _, h0⟩, ?_⟩
  rintro i m H ⟨rfl, hi, p⟩
  by_cases hlt : i < n
  · refine .inr ⟨hlt, Pv (i + 1), fun H' p' => ⟨n - (i + 1), by omega, rfl, hlt, p'⟩, fun x H' y => ?_⟩
    obtain ⟨e, y⟩ := y
    subst e y
    exact hs i _ hlt p
  · have e : i = n := by omega
    subst e
    exact .inl ⟨Nat.le_refl _, hd H p⟩
theorem lc_list {K : PySem.W.Frag} {a : Addr} {xs : List V} {g : TG} {tt : TT} {te : TE} {vs : List Nat} {σ : St} {H1 : Hp} {D : Addr} {Qd : Hp → Prop} (Pv : Nat → Hp → Prop) (h0 : Pv 0 (upd H1 D (.lst []))) (hl : ∀ i H, i ≤ xs.length → Pv i H → SqL K H a xs)
    (hs : ∀ i x H, xs[i]? = some x → Pv i H → g x (wipe σ vs) H fun σ2 H2 => wipe σ2 vs = wipe σ vs ∧ tt σ2 H2 fun b H3 =>
      if b = true then te σ2 H3 fun y H4 => ∃ acc, H4 D = some (.lst acc) ∧ acc.length < sizeLine ∧ Pv (i + 1) (upd H4 D (.lst (acc ++ [y]))) else Pv (i + 1) H3) (hd : ∀ H, Pv xs.length H → Qd H) :
    ∃ W : Nat → Nat → Hp → Prop, (∃ m, W 0 m (upd H1 D (.lst []))) ∧ ∀ i m H, W i m H →
      ((Itl K a).stop i H ∧ Qd H) ∨ ((Itl K a).go i H ∧ ∃ Nx : Hp → Prop, (∀ H', Nx H' → ∃ m', m' < m ∧ W (i + 1) m' H') ∧ ∀ x H', (Itl K a).yld i H x H' → g x (wipe σ vs) H' fun σ2 H2 => wipe σ2 vs = wipe σ vs ∧ tt σ2 H2 fun b H3 =>
        if b = true then te σ2 H3 fun y H4 => ∃ acc, H4 D = some (.lst acc) ∧ acc.length < sizeLine ∧ Nx (upd H4 D (.lst (acc ++ [y]))) else Nx H3) := by
  refine ⟨fun i m H => m = xs.length - i ∧ i ≤ xs.length ∧ Pv i H, ⟨xs.length, by simp, Nat.zero_le _, h0⟩, ?_⟩
  rintro i m H ⟨rfl, hi, p⟩
  have q := hl i H hi p
  by_cases hlt : i < xs.length
  · refine .inr ⟨⟨xs, xs[i], q, by simp [hlt]⟩, Pv (i + 1), fun H' p' => ⟨xs.length - (i + 1), by omega, rfl, hlt, p'⟩, fun x H' y => ?_⟩
    obtain ⟨e, y⟩ := y
    subst e
    exact hs i x _ (y xs q) p
  · have e : i = xs.length := by omega
    subst e
    exact .inl ⟨⟨xs, q, Nat.le_refl _⟩, hd H p⟩
def blkC (N : List Str) (sc scope : Scope) (own : List (Str × Nat)) : Bool :=
  (match scope.kind with | .function => true | _ => false) && (scope.names.all fun y => decide (scope.names.lookup y.1 = some y.2)) && (own.all fun p => decide (N[p.2]? = some p.1)) &&
    (scope.names.all fun y => match y.2 with
      | .free => (match sc.names.lookup y.1 with | some .cell => true | some .free => true | _ => false)
      | .local => decide (y.1 ∈ own.map (·.1)) || decide (y.1 ∉ N)
      | .cell => decide (y.1 ∈ own.map (·.1)) || decide (y.1 ∉ N)
      | _ => true)
theorem blkOk_by {N : List Str} {sc scope : Scope} {own : List (Str × Nat)} (h : blkC N sc scope own = true) : BlkOk N sc scope own := by
  unfold blkC at h
  simp only [Bool.and_eq_true, List.all_eq_true, decide_eq_true_eq] at h
  obtain ⟨⟨⟨h1, h2⟩, h3⟩, h4⟩ := h
  refine ⟨?_, h2, h3, fun y hy e => ?_, fun y hy e => ?_⟩
  · split at h1
    · assumption
    · cases h1
  · have q := h4 y hy
    simp only [e] at q
    split at q <;> first | exact .inl (by assumption) | exact .inr (by assumption) | cases q
  · have q := h4 y hy
    rcases e with e | e <;> (simp only [e, Bool.or_eq_true, decide_eq_true_eq] at q; exact q)
end L2
namespace L2
open PySem PySem.Spec PyProof.Rows
section
variable {prog : Program} {w : World} {A : Around} {R : Result → Shared → Prop} {s : Shared} {elt t0 i0 t1 i1 : Expr} {ifs0 ifs1 : List Expr} {scope : Scope} {pos : Pos} {it acc : Value} {env : Env}
end
section
variable {X : Cx}
end
end L2
namespace L2
open PySem PySem.Spec PyProof.Rows
section
variable {κ : Type} [DecidableEq κ]
end
section
variable {P : Program} {w : World} {H : Hp} {h : Heap} {a : Addr}
end
section
variable {X : Cx} {pins : List (Addr × Obj)} {σ : St} {H : Hp} {s : Shared} {a : Addr} {y v : V} {u r : Value} {o : Option V} {A : Around} {E : Value → Shared → Prop}
end
section
variable {X : Cx} {pins : List (Addr × Obj)} {σ : St} {H : Hp} {s : Shared} {a : Addr} {kvs : List (Key × V)} {k : Key} {u : Value} {A : Around} {E : Value → Shared → Prop}
end
section
variable {X : Cx} {o i e value : Expr} {pos pos' tpos : Pos} {td ty tv : TE}
end
section
variable {X : Cx} {pos : Pos}
end
structure M1 (X : Cx) (o : Expr) (m : Str) (apos : Pos) (e : Expr) (cpos : Pos) : Prop where
  base : attributeBase o m X.env (eval o X.env) = eval o X.env
  few : ((backTo cpos (starEach [e] X.env)).all (fun x => !x.1) && (backToKw cpos (keywordEach [] X.env)).all (fun x => x.1.isSome)
    && decide (([e] : List Expr).length + ([] : List Keyword).length + (if ([] : List Keyword).isEmpty then 0 else 1) < 30)) = true
  line : (apos.endLine == cpos.line) = true
  trees : backTo cpos (starEach [e] X.env) = [(false, eval e X.env)]
structure M2 (X : Cx) (o : Expr) (m : Str) (apos : Pos) (e f : Expr) (cpos : Pos) : Prop where
  base : attributeBase o m X.env (eval o X.env) = eval o X.env
  few : ((backTo cpos (starEach [e, f] X.env)).all (fun x => !x.1) && (backToKw cpos (keywordEach [] X.env)).all (fun x => x.1.isSome)
    && decide (([e, f] : List Expr).length + ([] : List Keyword).length + (if ([] : List Keyword).isEmpty then 0 else 1) < 30)) = true
  line : (apos.endLine == cpos.line) = true
  trees : backTo cpos (starEach [e, f] X.env) = [(false, eval e X.env), (false, eval f X.env)]
section
variable {X : Cx} {pins : List (Addr × Obj)} {σ : St} {H : Hp} {s : Shared} {a : Addr} {y d : V} {u r : Value} {o : Option V} {A : Around} {E : Value → Shared → Prop}
end
section
variable {X : Cx} {o e f : Expr} {apos cpos : Pos} {td ty tx : TE}
end
section
variable {X : Cx} {pins : List (Addr × Obj)} {σ : St} {H : Hp} {s : Shared} {a : Addr} {kvs : List (Key × V)} {A : Around} {E : Value → Shared → Prop}
end
section
variable {X : Cx} {pins : List (Addr × Obj)} {σ : St} {H : Hp} {s : Shared} {a : Addr} {y : V} {u : Value} {A : Around} {E : Value → Shared → Prop}
end
end L2
namespace L2
open PySem PySem.Spec PyProof.Rows
section
variable {prog : Program} {w : World} {A : Around} {E : Value → Shared → Prop}
end
section
variable {X : Cx}
end
end L2
namespace L2
open PySem PySem.Spec PyProof.Rows
theorem boot_reversed5 : bootBuiltins "reversed" = some (.type "reversed") := by decide +kernel
section
variable {X : Cx} {pins : List (Addr × Obj)} {σ : St} {H : Hp} {s : Shared} {h' : Heap}
theorem Inv.turnedL {t' : Nat} {ch : List Addr} (I : Inv X pins σ H s) (k : ∀ b o, b ∉ ch → s.heap.get? b = some o → h'.get? b = some o) (hf : ∀ b ∈ ch, FpOk X pins H b) : Inv X pins σ H { s with heap := h', toks := t' } := by
  have nit : ∀ b u, H b = some u → b ∉ ch := fun b u e z => by
    have q := (hf b z).1
    rw [q] at e; cases e
  refine I.step (g' := s.gens) (d' := s.drawn) (ch := ch) (fun b hb => ⟨(hf b hb).2.2.2.1, (hf b hb).2.1, (hf b hb).2.2.2.2.1, (hf b hb).2.2.2.2.2⟩) (fun b o _ _ hc e _ => k b o hc e) (fun b o _ _ hc e _ => ⟨o.slots, k b o hc e⟩)
    (fun _ _ _ _ n => n) (fun b o hc e => ⟨o, k b o hc e⟩) (fun _ _ e => e) (fun _ _ _ e => e) (fun b ps e => ⟨#[], by rw [e]; simp⟩) (fun m hm => ?_) (fun b u e => ?_) I.bare
  · obtain ⟨o, es, ep, ho, r⟩ := hm
    exact ⟨o, es, ep, k _ o (fun z => (hf _ z).2.1 rfl) ho, r⟩
  · refine (I.hok b u e).stay (fun c v hc q => k c v ?_ q) (fun _ q => q) fun _ _ q => q
    rcases hc with z | z
    · rw [z]; exact nit b u e
    · exact nit c _ z
theorem Inv.turnedNew {t' : Nat} {ch : List Addr} {T : Addr} {ob : HO} (I : Inv X pins σ H s) (k : ∀ b o, b ∉ ch → s.heap.get? b = some o → h'.get? b = some o) (hf : ∀ b ∈ ch, FpOk X pins H b) (hT : s.heap.objs.size ≤ T)
    (new : ObjOk X.prog X.w (upd H T ob) h' T ob) : Inv X pins σ (upd H T ob) { s with heap := h', toks := t' } := by
  have hn : H T = none := I.hok.fresh hT
  have nit : ∀ b u, H b = some u → b ∉ ch := fun b u e z => by
    have q := (hf b z).1
    rw [q] at e; cases e
  refine I.step (g' := s.gens) (d' := s.drawn) (ch := ch) (fun b hb => ⟨(hf b hb).2.2.2.1, (hf b hb).2.1, (hf b hb).2.2.2.2.1, (hf b hb).2.2.2.2.2⟩) (fun b o _ _ hc e _ => k b o hc e) (fun b o _ _ hc e _ => ⟨o.slots, k b o hc e⟩)
    (fun b o _ e n => ?_) (fun b o hc e => ⟨o, k b o hc e⟩) (fun b xs e => ?_) (fun b o u e => ?_) (fun b ps e => ⟨#[], ?_⟩) (fun m hm => ?_) (fun b u e => ?_) I.bare
  · rw [upd_ne (Nat.ne_of_lt (Nat.lt_of_lt_of_le (Heap.lt_size e) hT))]; exact n
  · rw [upd_ne (ne_of_none e hn)]; exact e
  · rw [upd_ne (ne_of_none e hn)]; exact e
  · rw [upd_ne (ne_of_none e hn), e]; simp
  · obtain ⟨o, es, ep, ho, r⟩ := hm
    exact ⟨o, es, ep, k _ o (fun z => (hf _ z).2.1 rfl) ho, r⟩
  · by_cases hb : b = T
    · subst hb
      rw [upd_same] at e
      cases e
      exact new
    · rw [upd_ne hb] at e
      refine (I.hok b u e).stay (fun c v hc q => k c v ?_ q) (fun c q => by rw [upd_ne (ne_of_none q hn)]; exact q) fun c xs q => by rw [upd_ne (ne_of_none q hn)]; exact q
      rcases hc with z | z
      · rw [z]; exact nit b u e
      · exact nit c _ z
end
section
variable {X : Cx}
theorem pi_one {tg : Expr} {pins : List (Addr × Obj)} {σ : St} {H : Hp} {s : Shared} {R : It → Hp → Prop} {J : It} {tn : Nat → Heap → Prop} {tk : Nat} (I : Inv X pins σ H s) (o : Obj)
    (T : Turn X.prog X.w X.K tg J [s.heap.objs.size] s.heap.objs.size tn) (st : tn 0 (s.heap.push o)) (q : R J H) : PIE X pins σ tg R (.ref s.heap.objs.size) { s with heap := s.heap.push o, toks := tk } := by
  refine ⟨s.heap.objs.size, [s.heap.objs.size], tn, J, H, rfl, I.kept fun b ob e => Heap.get?_push_of_some _ e, T, st, fun b hb => ?_, q⟩
  have e : b = s.heap.objs.size := by simpa using hb
  subst e
  exact I.fpOk (Nat.le_refl _) (I.hok.fresh (Nat.le_refl _))
end
section
variable {X : Cx} {tg : Expr}
end
def Itv (K : PySem.W.Frag) (a : Addr) (n : Nat) : It :=
  ⟨fun i H => i < n ∧ ∃ (xs : List V) (x : V), SqL K H a xs ∧ xs[n - 1 - i]? = some x, fun i H x H' => H' = H ∧ ∀ xs, SqL K H a xs → xs[n - 1 - i]? = some x, fun i _ => n ≤ i⟩
theorem turn_rev {P : Program} {w : World} {K : PySem.W.Frag} {tg : Expr} (a it : Addr) (n : Nat) : Turn P w K tg (Itv K a n) [it] it (fun i h => i ≤ n ∧ h.IsRevIter it a ((n : Int) - 1 - (i : Nat))) where
  mem := by simp
  obj := fun i h st b hb => by
    have e : b = it := by simpa using hb
    subst e
    obtain ⟨_, o, e, c, d⟩ := st
    exact ⟨o, e, fun v z => by rw [d] at z; cases z⟩
  keep := fun i h h' st k => ⟨st.1, st.2.at fun o e => k it (by simp) o e⟩
  item := by
    intro X hP hw hK hc i pins s σ H E I hf st hg
    subst hP hw hK
    obtain ⟨hin, xs, x, hq, hx⟩ := hg
    obtain ⟨its, rv, p, hz⟩ := I.list hq
    obtain ⟨u, hu, ru⟩ := rv.get hx
    obtain ⟨f0, f1, f2, f3, f4, f5⟩ := hf it (by simp)
    obtain ⟨_, hit⟩ := st
    have e1 : (n : Int) - 1 - ((i : Nat) : Int) = ((n - 1 - i : Nat) : Int) := by omega
    rw [e1] at hit
    refine wpAny_pyNext_rev_item hit p.isList (x := u) (by simpa using hu) fun h' st' sb => ?_
    have e2 : ((n - 1 - i : Nat) : Int) - 1 = (n : Int) - 1 - ((i + 1 : Nat) : Int) := by omega
    rw [e2] at st'
    have I1 : Inv X pins σ H { s with heap := h' } := I.turned (t' := s.toks) (fun b o hb e => (sb.2 b hb).trans e) f0 f1 f3 f4 f5
    obtain ⟨o, e, c, d⟩ := id st'
    exact ⟨u, rfl, go_of (s := { s with heap := h' }) e c d (by decide) ⟨x, H, I1, ru, ⟨rfl, fun ys hy => by rw [I.list_inj hy hq]; exact hx⟩, ⟨hin, st'⟩, fun b hb => (hf b hb).1⟩⟩
  done := by
    intro X hP hw hK hc i pins s σ H E I hf st hg
    subst hP hw hK
    obtain ⟨f0, f1, f2, f3, f4, f5⟩ := hf it (by simp)
    obtain ⟨hin, hit⟩ := st
    have hge : n ≤ i := hg
    have e1 : (n : Int) - 1 - ((i : Nat) : Int) = -1 := by omega
    rw [e1] at hit
    exact wpAny_pyNext_rev_end (I.ok.hd hc) hit fun h' eb => ⟨rfl, I.turned (t' := s.toks) (fun b o hb e => eb b o hb e) f0 f1 f3 f4 f5⟩
  self := fun A i s Q E st h => wpAny_pyIter_revIter st.2 h
def iRev (K : PySem.W.Frag) (ta : TA) : TI := fun σ H R => ta σ H fun vs H1 => ∃ (a : Addr) (xs : List V), vs = [.ref a] ∧ SqL K H1 a xs ∧ R (Itv K a xs.length) H1
section
variable {X : Cx} {tg : Expr}
theorem pi_reversed {e : Expr} {ta : TA} {p pos : Pos} (hg : Gl X "reversed") (hm : X.mg "reversed" = none) (ha : PA X [e] ta) (hs : starEach [e] X.env = [(false, eval e X.env)] := by rfl) : PI X tg (.Call (.Name "reversed" p) [e] [] pos) (iRev X.K ta) := by
  intro pins s σ H R I h
  refine Call_ (ld_blt I hg hm boot_reversed5 (PyProof.Rows.callWith_type1 (thn (ha pos pins s σ H _ I h) fun us s1 ⟨vs, H1, I1, r1, q1⟩ => ?_) hs rfl))
  obtain ⟨a, xs, e, hq, q⟩ := q1
  subst e
  cases r1 with
  | cons r rr =>
    cases rr
    cases r
    obtain ⟨its, rv, p', hz⟩ := I1.list hq
    have hl := rv.length
    have e1 : ((its.toArray.size : Nat) : Int) - 1 = (xs.length : Int) - 1 - ((0 : Nat) : Int) := by simp only [List.size_toArray]; omega
    refine call_reversed_list p'.isList (wpAny_pyIter_revIter (l := a) (i := ((its.toArray.size : Nat) : Int) - 1) ⟨_, Heap.get?_push_size _ rfl, rfl, rfl⟩ ?_)
    refine pi_one (tk := s1.toks) I1 _ (turn_rev a _ xs.length) ⟨Nat.zero_le _, ?_⟩ q
    rw [← e1]
    exact ⟨_, Heap.get?_push_size _ rfl, rfl, rfl⟩
end
section
variable {prog : Program} {w : World} {A : Around} {E : Value → Shared → Prop} {s : Shared}
end
theorem paired_get {α β : Type} {G : α → β → Prop} {l₁ : List α} {l₂ : List β} (h : Paired G l₁ l₂) : ∀ {i : Nat} {a : α}, l₁[i]? = some a → ∃ b, l₂[i]? = some b ∧ G a b := by
  induction h with
  | nil => intro i a e; simp at e
  | @cons a b l₁ l₂ r t ih =>
    intro i a' e
    cases i with
    | zero =>
      simp only [List.getElem?_cons_zero, Option.some.injEq] at e
      subst e
      exact ⟨b, rfl, r⟩
    | succ j =>
      simp only [List.getElem?_cons_succ] at e ⊢
      exact ih e
section
variable {X : Cx} {pins : List (Addr × Obj)} {σ : St} {H : Hp} {s : Shared} {d : Addr} {o : Obj}
end
section
variable {P : Program} {w : World} {K : PySem.W.Frag} {tg : Expr} {d : Addr} {o : Obj} {es : Array DictEntry} {ep : Nat}
end
section
variable {X : Cx} {tg e : Expr} {td : TE} {apos cpos : Pos}
end
def Ite (K : PySem.W.Frag) (a : Addr) : It :=
  ⟨fun i H => ∃ (xs : List V) (x : V), SqL K H a xs ∧ xs[i]? = some x, fun i H v H' => ∃ T x, v = .ref T ∧ H T = none ∧ H' = upd H T (.tup [.int (i : Nat), x]) ∧ ∀ xs, SqL K H a xs → xs[i]? = some x, fun i H => ∃ xs : List V, SqL K H a xs ∧ xs.length ≤ i⟩
theorem turn_enum {P : Program} {w : World} {K : PySem.W.Frag} {elts : List Expr} {kk : Nat} {tpos : Pos} (a e it : Addr) :
    Turn P w K (.Tuple elts kk tpos) (Ite K a) [e, it] e (fun i h => (∃ old, IsEnum h e it ((i : Nat) : Int) old) ∧ h.IsListIter it a i ∧ e ≠ it) where
  mem := by simp
  obj := fun i h st b hb => by
    obtain ⟨⟨old, he⟩, ⟨o, ho, hc, hd⟩, _⟩ := st
    have e' : b = e ∨ b = it := by simpa using hb
    rcases e' with z | z
    · rw [z]; exact ⟨_, he, fun v q => nomatch q⟩
    · rw [z]; exact ⟨o, ho, fun v q => by rw [hd] at q; cases q⟩
  keep := fun i h h' st k => let ⟨⟨old, he⟩, hi, hne⟩ := st; ⟨⟨old, k e (by simp) _ he⟩, hi.at fun o q => k it (by simp) o q, hne⟩
  item := by
    intro X hP hw hK hc i pins s σ H E I hf st hg
    subst hP hw hK
    obtain ⟨⟨old, he⟩, hit, hne⟩ := st
    obtain ⟨xs, x, hq, hx⟩ := hg
    obtain ⟨its, rv, p, hz⟩ := I.list hq
    obtain ⟨u, hu, ru⟩ := rv.get hx
    have hel : e < s.heap.objs.size := Heap.lt_size he
    have hil : it < s.heap.objs.size := by obtain ⟨_, q, _⟩ := hit; exact Heap.lt_size q
    refine wpAny_pyNext_enum_item he hit p.isList (x := u) (by simpa using hu) hne fun h' ho hit' hT hsz hk => ?_
    refine ⟨_, rfl, wpAny_letOwnedTupleGo_enum (s := { s with heap := h', toks := s.toks + 1 }) ho fun h'' he' sb => ?_⟩
    have hT2 : h''.get? s.heap.objs.size = some { cls := .type "tuple", data := .seq #[.int i s.toks, u] } := (sb.2 _ (Nat.ne_of_gt hel)).trans hT
    have new : ObjOk X.prog X.w (upd H s.heap.objs.size (.tup [.int (i : Nat), x])) h'' s.heap.objs.size (.tup [.int (i : Nat), x]) :=
      ⟨by show 2 ≤ sizeLine; decide, [.int i s.toks, u], .cons ⟨_, rfl⟩ (.cons ru .nil), ⟨_, hT2, rfl, _, rfl⟩⟩
    have I1 : Inv X pins σ (upd H s.heap.objs.size (.tup [.int (i : Nat), x])) { s with heap := h'', toks := s.toks + 1 } :=
      I.turnedNew (ch := [e, it]) (fun b ob hb q => (sb.2 b (fun z => hb (by simp [z]))).trans (hk b ob (fun z => hb (by simp [z])) (fun z => hb (by simp [z])) q)) hf (Nat.le_refl _) new
    refine ⟨.ref s.heap.objs.size, _, I1, rfl, ⟨_, x, rfl, I.hok.fresh (Nat.le_refl _), rfl, fun ys hy => by rw [I.list_inj hy hq]; exact hx⟩, ⟨⟨u, ?_⟩, hit'.at fun o q => (sb.2 it (Ne.symm hne)).trans q, hne⟩, fun b hb => ?_⟩
    · have e1 : ((i + 1 : Nat) : Int) = (i : Int) + 1 := by omega
      rw [e1]; exact he'
    · have hb' : b < s.heap.objs.size := by
        have e' : b = e ∨ b = it := by simpa using hb
        rcases e' with z | z
        · rw [z]; exact hel
        · rw [z]; exact hil
      rw [upd_ne (Nat.ne_of_lt hb')]
      exact (hf b hb).1
  done := by
    intro X hP hw hK hc i pins s σ H E I hf st hg
    subst hP hw hK
    obtain ⟨⟨old, he⟩, hit, hne⟩ := st
    obtain ⟨xs, hq, hx⟩ := hg
    obtain ⟨its, rv, p, hz⟩ := I.list hq
    obtain ⟨f0, f1, f2, f3, f4, f5⟩ := hf it (by simp)
    have hl := rv.length
    exact wpAny_pyNext_enum_end (I.ok.hd hc) he hit p.isList (by simp; omega) fun h' eb => ⟨rfl, I.turned (t' := s.toks) (fun b o hb q => eb b o hb q) f0 f1 f3 f4 f5⟩
  self := fun A i s Q E st h => let ⟨⟨_, he⟩, _⟩ := st; wpAny_pyIter_enum he h
def iEnum (K : PySem.W.Frag) (ta : TA) : TI := fun σ H R => ta σ H fun vs H1 => ∃ a xs, vs = [.ref a] ∧ SqL K H1 a xs ∧ R (Ite K a) H1
theorem pi_enum {X : Cx} {e : Expr} {ta : TA} {p pos tpos : Pos} {elts : List Expr} {kk : Nat} (hg : Gl X "enumerate") (hm : X.mg "enumerate" = none) (ha : PA X [e] ta) (hs : starEach [e] X.env = [(false, eval e X.env)] := by rfl) :
    PI X (.Tuple elts kk tpos) (.Call (.Name "enumerate" p) [e] [] pos) (iEnum X.K ta) := by
  intro pins s σ H R I h
  refine Call_ (ld_blt I hg hm boot_enumerate (PyProof.Rows.callWith_type1 (thn (ha pos pins s σ H _ I h) fun us s1 ⟨vs, H1, I1, r1, q1⟩ => ?_) hs rfl))
  obtain ⟨a, xs, ex, hq, q⟩ := q1
  subst ex
  cases r1 with
  | cons r rr =>
    cases rr
    cases r
    obtain ⟨its, rv, p', hz⟩ := I1.list hq
    refine call_enumerate_list p'.isList fun h' he hit hsz hk => wpAny_pyIter_enum he ?_
    have I2 : Inv X pins σ H1 { s1 with heap := h' } := I1.kept (t' := s1.toks) hk
    refine ⟨s1.heap.objs.size + 1, [s1.heap.objs.size + 1, s1.heap.objs.size], _, _, H1, rfl, I2, turn_enum a (s1.heap.objs.size + 1) s1.heap.objs.size, ⟨⟨.none, he⟩, hit, Nat.succ_ne_self _⟩, fun b hb => ?_, q⟩
    have e' : b = s1.heap.objs.size + 1 ∨ b = s1.heap.objs.size := by simpa using hb
    have hle : s1.heap.objs.size ≤ b := by
      rcases e' with z | z
      · rw [z]; exact Nat.le_add_right _ _
      · rw [z]; exact Nat.le_refl _
    exact I1.fpOk hle (I1.hok.fresh hle)
theorem boot_zip5 : bootBuiltins "zip" = some (.type "zip") := by decide +kernel
def Itz (K : PySem.W.Frag) (a b : Addr) : It :=
  ⟨fun i H => ∃ (xs ys : List V) (x y : V), SqL K H a xs ∧ SqL K H b ys ∧ xs[i]? = some x ∧ ys[i]? = some y,
    fun i H v H' => ∃ T x y, v = .ref T ∧ H T = none ∧ H' = upd H T (.tup [x, y]) ∧ (∀ xs, SqL K H a xs → xs[i]? = some x) ∧ ∀ ys, SqL K H b ys → ys[i]? = some y,
    fun i H => ∃ xs ys : List V, SqL K H a xs ∧ SqL K H b ys ∧ (xs.length ≤ i ∨ ys.length ≤ i)⟩
theorem turn_zip {P : Program} {w : World} {K : PySem.W.Frag} {elts : List Expr} {kk : Nat} {tpos : Pos} {a b z TI TO i1 i2 : Addr} (D : ZipApart z TI TO i1 i2 a b) :
    Turn P w K (.Tuple elts kk tpos) (Itz K a b) [z, TI, TO, i1, i2] z (fun i h => IsZip h z TI TO .none ∧ IsPair h TI (.ref i1) (.ref i2) ∧ (∃ x y, IsPair h TO x y) ∧ h.IsListIter i1 a i ∧ h.IsListIter i2 b i) where
  mem := by simp
  obj := fun i h st c hc => by
    obtain ⟨hz, hTI, ⟨x, y, hTO⟩, ⟨o1, e1, _, d1⟩, ⟨o2, e2, _, d2⟩⟩ := st
    have e' : c = z ∨ c = TI ∨ c = TO ∨ c = i1 ∨ c = i2 := by simpa using hc
    rcases e' with q | q | q | q | q
    · rw [q]; exact ⟨_, hz, fun v q => nomatch q⟩
    · rw [q]; exact ⟨_, hTI, fun v q => nomatch q⟩
    · rw [q]; exact ⟨_, hTO, fun v q => nomatch q⟩
    · rw [q]; exact ⟨o1, e1, fun v q => by rw [d1] at q; cases q⟩
    · rw [q]; exact ⟨o2, e2, fun v q => by rw [d2] at q; cases q⟩
  keep := fun i h h' st k => by
    obtain ⟨hz, hTI, ⟨x, y, hTO⟩, h1, h2⟩ := st
    exact ⟨k z (by simp) _ hz, k TI (by simp) _ hTI, ⟨x, y, k TO (by simp) _ hTO⟩, h1.at fun o q => k i1 (by simp) o q, h2.at fun o q => k i2 (by simp) o q⟩
  item := by
    intro X hP hw hK hc i pins s σ H E I hf st hg
    subst hP hw hK
    obtain ⟨hz, hTI, ⟨x0, y0, hTO⟩, h1, h2⟩ := st
    obtain ⟨xs, ys, x, y, hqx, hqy, hx, hy⟩ := hg
    obtain ⟨its, rv, p, _⟩ := I.list hqx
    obtain ⟨its2, rv2, p2, _⟩ := I.list hqy
    obtain ⟨u, hu, ru⟩ := rv.get hx
    obtain ⟨u2, hu2, ru2⟩ := rv2.get hy
    have hzl : z < s.heap.objs.size := Heap.lt_size hz
    refine wpAny_pyNext_zip_item D hz hTI hTO h1 h2 p.isList p2.isList (x := u) (y := u2) (by simpa using hu) (by simpa using hu2) fun h' z' TO' h1' h2' hT hsz hk => ?_
    refine ⟨_, rfl, wpAny_letOwnedTupleGo_zip (s := { s with heap := h' }) z' fun h'' z'' sb => ?_⟩
    have hT2 : h''.get? s.heap.objs.size = some { cls := .type "tuple", data := .seq #[u, u2] } := (sb.2 _ (Nat.ne_of_gt hzl)).trans hT
    have new : ObjOk X.prog X.w (upd H s.heap.objs.size (.tup [x, y])) h'' s.heap.objs.size (.tup [x, y]) :=
      ⟨by show 2 ≤ sizeLine; decide, [u, u2], .cons ru (.cons ru2 .nil), ⟨_, hT2, rfl, _, rfl⟩⟩
    have I1 : Inv X pins σ (upd H s.heap.objs.size (.tup [x, y])) { s with heap := h'' } :=
      I.turnedNew (t' := s.toks) (ch := [z, TI, TO, i1, i2]) (fun c o hb q => (sb.2 c (fun q' => hb (by simp [q']))).trans (hk c o (fun q' => hb (by simp [q'])) (fun q' => hb (by simp [q'])) (fun q' => hb (by simp [q'])) (fun q' => hb (by simp [q'])) q)) hf (Nat.le_refl _) new
    refine ⟨.ref s.heap.objs.size, _, I1, rfl, ⟨_, x, y, rfl, I.hok.fresh (Nat.le_refl _), rfl, fun l hl => by rw [I.list_inj hl hqx]; exact hx, fun l hl => by rw [I.list_inj hl hqy]; exact hy⟩, ⟨z'', ?_, ⟨u, u2, ?_⟩, ?_, ?_⟩, fun c hcm => ?_⟩
    · exact (sb.2 _ D.TIz).trans (hk _ _ D.TIz D.TITO D.TIi1 D.TIi2 hTI)
    · exact (sb.2 _ D.TOz).trans TO'
    · exact h1'.at fun o q => (sb.2 _ D.i1z).trans q
    · exact h2'.at fun o q => (sb.2 _ D.i2z).trans q
    · have hlt : c < s.heap.objs.size := by
        have e' : c = z ∨ c = TI ∨ c = TO ∨ c = i1 ∨ c = i2 := by simpa using hcm
        rcases e' with q | q | q | q | q
        · rw [q]; exact hzl
        · rw [q]; exact Heap.lt_size hTI
        · rw [q]; exact Heap.lt_size hTO
        · rw [q]; obtain ⟨_, e1, _⟩ := h1; exact Heap.lt_size e1
        · rw [q]; obtain ⟨_, e2, _⟩ := h2; exact Heap.lt_size e2
      rw [upd_ne (Nat.ne_of_lt hlt)]
      exact (hf c hcm).1
  done := by
    intro X hP hw hK hc i pins s σ H E I hf st hg
    subst hP hw hK
    obtain ⟨hz, hTI, ⟨x0, y0, hTO⟩, h1, h2⟩ := st
    obtain ⟨xs, ys, hqx, hqy, hend⟩ := hg
    obtain ⟨its, rv, p, _⟩ := I.list hqx
    obtain ⟨its2, rv2, p2, _⟩ := I.list hqy
    have l1 := rv.length
    have l2 := rv2.length
    have he : its.toArray[i]? = none ∨ its2.toArray[i]? = none := by
      rcases hend with q | q
      · exact .inl (by simp; omega)
      · exact .inr (by simp; omega)
    exact wpAny_pyNext_zip_end (I.ok.hd hc) D hz hTI hTO h1 h2 p.isList p2.isList he fun h' hk => ⟨rfl, I.turnedL (t' := s.toks) (ch := [z, TI, TO, i1, i2]) (fun c o hb q =>
      hk c o (fun q' => hb (by simp [q'])) (fun q' => hb (by simp [q'])) (fun q' => hb (by simp [q'])) (fun q' => hb (by simp [q'])) q) hf⟩
  self := fun A i s Q E st h => wpAny_pyIter_zip st.1 h
def iZip (K : PySem.W.Frag) (ta : TA) : TI := fun σ H R => ta σ H fun vs H1 => ∃ a b xs ys, vs = [.ref a, .ref b] ∧ SqL K H1 a xs ∧ SqL K H1 b ys ∧ R (Itz K a b) H1
theorem pi_zip {X : Cx} {e e2 : Expr} {ta : TA} {p pos tpos : Pos} {elts : List Expr} {kk : Nat} (hg : Gl X "zip") (hm : X.mg "zip" = none) (ha : PA X [e, e2] ta)
    (hs : starEach [e, e2] X.env = (false, eval e X.env) :: starEach [e2] X.env := by rfl) (hpl : (backTo pos (starEach [e2] X.env)).any (·.1) = false := by rfl) :
    PI X (.Tuple elts kk tpos) (.Call (.Name "zip" p) [e, e2] [] pos) (iZip X.K ta) := by
  intro pins s σ H R I h
  refine Call_ (ld_blt I hg hm boot_zip5 (PyProof.Rows.callWith_type1 (thn (ha pos pins s σ H _ I h) fun us s1 ⟨vs, H1, I1, r1, q1⟩ => ?_) hs hpl))
  obtain ⟨a, b, xs, ys, ex, hqx, hqy, q⟩ := q1
  subst ex
  cases r1 with
  | cons r rr =>
    cases rr with
    | cons r' rr =>
      cases rr
      cases r
      cases r'
      obtain ⟨its, rv, p1, _⟩ := I1.list hqx
      obtain ⟨its2, rv2, p2, _⟩ := I1.list hqy
      have la : a < s1.heap.objs.size := p1.lt
      have lb : b < s1.heap.objs.size := p2.lt
      refine call_zip_2 p1.isList p2.isList fun h' hz hTI hTO h1 h2 hsz hk => wpAny_pyIter_zip hz ?_
      have I2 : Inv X pins σ H1 { s1 with heap := h' } := I1.kept (t' := s1.toks) hk
      refine ⟨s1.heap.objs.size + 4, [s1.heap.objs.size + 4, s1.heap.objs.size + 2, s1.heap.objs.size + 3, s1.heap.objs.size, s1.heap.objs.size + 1], _, _, H1, rfl, I2, turn_zip (PySem.W.ktu_apart s1.heap.objs.size a b la lb), ⟨hz, hTI, ⟨_, _, hTO⟩, h1, h2⟩, fun c hcm => ?_, q⟩
      have e' : c = s1.heap.objs.size + 4 ∨ c = s1.heap.objs.size + 2 ∨ c = s1.heap.objs.size + 3 ∨ c = s1.heap.objs.size ∨ c = s1.heap.objs.size + 1 := by simpa using hcm
      have hle : s1.heap.objs.size ≤ c := by
        rcases e' with z | z | z | z | z
        · rw [z]; exact Nat.le_add_right _ _
        · rw [z]; exact Nat.le_add_right _ _
        · rw [z]; exact Nat.le_add_right _ _
        · rw [z]; exact Nat.le_refl _
        · rw [z]; exact Nat.le_add_right _ _
      exact I1.fpOk hle (I1.hok.fresh hle)
end L2
section
namespace Bits
open PySem PyProof.Rows
end Bits
end
section
namespace TL
open PySem PySem.Builtin PySem.Builtin.Str PySem.StrLaws
end TL
end
namespace L2
open PySem PySem.Spec PyProof.Rows
section
variable {X : Cx} {pins : List (Addr × Obj)} {σ : St} {H : Hp} {s : Shared} {Q : VK}
end
section
variable {X : Cx}
end
section
variable {X : Cx} {o e : Expr} {to te : TE}
end
end L2
namespace L2
open PySem PySem.Spec PyProof.Rows
section
variable {X : Cx}
end
end L2
namespace Att
open PySem PySem.W PySem.Calls PyProof.Rows
section
variable {prog : Program} {w : World} {A : Around} {E : Value → Shared → Prop} {s : Shared} {K : Frag}
end
end Att
namespace L2
open PySem PySem.Spec PyProof.Rows
end L2
namespace L2
open PySem PySem.Spec PyProof.Rows
end L2
namespace L2
open PySem PySem.Spec PyProof.Rows
def inClass (s : Stmt) (j : Nat) : Stmt := match s with
  | .ClassDef _ _ _ body _ _ _ _ _ _ _ => body.getD j (.Pass ⟨0, 0, 0, 0⟩)
  | _ => .Pass ⟨0, 0, 0, 0⟩
def defArgs (s : Stmt) : Arguments := match s with
  | .FunctionDef _ a _ _ _ _ _ _ _ _ => a
  | _ => { posonlyargs := [], args := [], vararg := none, kwonlyargs := [], kw_defaults := [], kwarg := none, defaults := [] }
def defBody (s : Stmt) : List Stmt := match s with
  | .FunctionDef _ _ b _ _ _ _ _ _ _ => b
  | _ => []
def defScope (s : Stmt) : Scope := match s with
  | .FunctionDef _ _ _ _ _ _ sc _ _ _ => sc
  | _ => { kind := .function, names := [], isGenerator := false, isCoroutine := false }
abbrev CX0 : CXT := fun _ _ _ _ _ _ => False
abbrev E0 : XK := fun _ _ _ => False
theorem pass0 {X : Cx} : Passes CX0 X E0 := fun _ _ _ _ _ _ _ h => h.elim
structure Fun (K : PySem.W.Frag) (x qual : Str) (st : Stmt) (f : Addr) (fd : FuncData) : Prop where
  ex : ∃ (oc : Value) (od : Option Addr) (kV doc pm : Value) (an : Option Addr) (cdv ct : Value) (osl : Array (Option Value)),
    fd = PySem.W.fnOf x qual (defArgs st) (defBody st) (defScope st) .none kV doc pm an cdv ct ∧ K.lookup f = some ⟨oc, od, .func fd, osl⟩ ∧ PySem.W.codeIn K cdv qual = true
  kp : PySem.W.keepIn K (.ref f) = true
section
variable {P : Program} {w : World} {K : PySem.W.Frag} {mg : Str → Option Value} {base : Heap}
theorem Fun.ok {x qual : Str} {st : Stmt} {f : Addr} {fd : FuncData} {N ps : List Str} {k : Nat} {sp : Sp} (F : Fun K x qual st f fd) (S : FnScope N ps (defScope st)) (len : ∀ vs H Q E, sp vs H Q E → vs.length = ps.length)
    (hbody : ∀ (cdv : Value) (A : Around) (outer : List Env) (s : Shared) (H : Hp) (vs : List V) (Q : VK) (E : XK), Room k (A.deeper (envOfC qual (defScope st) s.heap.objs.size f cdv)) → sp vs H Q E →
      ∃ t, PSs (cxOf CX0 P w K mg base N qual (defScope st) f cdv A outer s H E).nox (defBody st) t ∧ t { nx := fun _ H' => Q .non H', rt := Q } (start N vs) H) : FnOk P w K mg base CX0 (k + 1) f fd ps sp := by
  obtain ⟨oc, od, kV, doc, pm, an, cdv, ct, osl, rfl, lk, hcd⟩ := F.ex
  refine fn_of lk hcd S len fun A outer s H vs Q E hr hsp => ?_
  obtain ⟨t, h, q⟩ := hbody cdv A outer s H vs Q E hr hsp
  exact ⟨t, h.nox, q⟩
theorem Fun.binds {x qual : Str} {st : Stmt} {f : Addr} {fd : FuncData} {ps : List Str} (F : Fun K x qual st f fd)
    (h : ∀ (kV doc pm : Value) (an : Option Addr) (cdv ct : Value) (us : List Value), us.length = ps.length → bindArgs (PySem.W.fnOf x qual (defArgs st) (defBody st) (defScope st) .none kV doc pm an cdv ct) ⟨us, []⟩ = pure (ps.zip us)) : Binds K fd ps [] := by
  obtain ⟨oc, od, kV, doc, pm, an, cdv, ct, osl, rfl, lk, hcd⟩ := F.ex
  exact .all (h kV doc pm an cdv ct)
theorem fun_mk {x qual : Str} {st : Stmt} {f : Addr} {oc : Value} {od an : Option Addr} {osl : Array (Option Value)} {kV doc pm cdv ct : Value} (l : K.lookup f = some ⟨oc, od, .func (PySem.W.fnOf x qual (defArgs st) (defBody st) (defScope st) .none kV doc pm an cdv ct), osl⟩)
    (c : PySem.W.codeIn K cdv qual = true) (k : PySem.W.keepIn K (.ref f) = true) : Fun K x qual st f (PySem.W.fnOf x qual (defArgs st) (defBody st) (defScope st) .none kV doc pm an cdv ct) := ⟨⟨oc, od, kV, doc, pm, an, cdv, ct, osl, rfl, l, c⟩, k⟩
end
section
variable {X : Cx}
theorem pv (i : Nat) {x : Str} {pos : Pos} (hN : X.N[i]? = some x := by rfl) (hv : Vis X.env.scope x := by first | exact Or.inl rfl | exact Or.inr (Or.inl rfl) | exact Or.inr (Or.inr rfl)) (hd : (x == ("__debug__" : Str)) = false := by decide)
    (hcd : (x == ("__classdict__" : Str)) = false := by decide) : PE X (.Name x pos) (tVar i) := pe_var hN hv hd hcd
end
theorem iteF {A B : Prop} (h : B) : if false = true then A else B := by
  rw [if_neg Bool.false_ne_true]
  exact h
theorem iteT {A B : Prop} (h : A) : if true = true then A else B := by
  rw [if_pos rfl]
  exact h
theorem ite2 {c A B : Prop} [Decidable c] (h1 : c → A) (h2 : ¬ c → B) : if c then A else B := by
  by_cases h : c
  · rw [if_pos h]
    exact h1 h
  · rw [if_neg h]
    exact h2 h
def Same (H H' : Hp) : Prop := ∀ b o, H b = some o → H' b = some o
theorem Same.trans {H H1 H2 : Hp} (a : Same H H1) (b : Same H1 H2) : Same H H2 := fun c o h => b c o (a c o h)
theorem Same.free {H H' : Hp} (e : Same H H') {l : Addr} (h : H' l = Option.none) : H l = Option.none := by
  cases q : H l with
  | none => rfl
  | some o =>
    rw [e l o q] at h
    cases h
theorem Same.seq {K : PySem.W.Frag} {H H' : Hp} {a : Addr} {xs : List V} (e : Same H H') (h : SqL K H a xs) : SqL K H' a xs := by
  rcases h with (h | ⟨o, h⟩) | h
  · exact .inl (.inl (e _ _ h))
  · exact .inl (.inr ⟨o, e _ _ h⟩)
  · exact .inr h
section
variable {κ : Type} [DecidableEq κ]
end
theorem at_of {xs : List V} {z : Int} {j : Nat} {v : V} (e : z = (j : Int)) (h : xs[j]? = some v) : atI xs z = some v := by
  rw [e]
  exact atI_nat h
end L2
section
set_option Elab.async false
set_option linter.all false
set_option maxRecDepth 100000
set_option maxHeartbeats 2000000
namespace L2
open PySem PySem.Spec PyProof.Rows
open PySem.W (WData Codec OpenSpec Well WellAll ReadsW ReadsAllW)
mutual
inductive Dw (K : PySem.W.Frag) (H : Hp) : V → WData → Prop
  | non : Dw K H .non .none
  | bl (b : Bool) : Dw K H (.bl b) (.bool b)
  | int (i : Int) : Dw K H (.int i) (.int i)
  | str (x : Str) : Dw K H (.str x) (.str x)
  | byt (b : Array UInt8) : Dw K H (.byt b) (.bytes b.toList)
  | lst {a : Addr} {xs : List V} {ds : List WData} : SqL K H a xs → DwAll K H xs ds → Dw K H (.ref a) (.list ds)
  | tup {a : Addr} {xs : List V} {ds : List WData} : SqT K H a xs → DwAll K H xs ds → Dw K H (.ref a) (.tuple ds)
inductive DwAll (K : PySem.W.Frag) (H : Hp) : List V → List WData → Prop
  | nil : DwAll K H [] []
  | cons {v : V} {vs : List V} {d : WData} {ds : List WData} : Dw K H v d → DwAll K H vs ds → DwAll K H (v :: vs) (d :: ds)
end
theorem dw_ints {K : PySem.W.Frag} {H : Hp} : ∀ ns : List Int, DwAll K H (ns.map V.int) (ns.map WData.int)
  | [] => .nil
  | n :: r => .cons (.int n) (dw_ints r)
theorem ints_dw {K : PySem.W.Frag} {H : Hp} : ∀ (ns : List Int) (xs : List V), DwAll K H xs (ns.map WData.int) → xs = ns.map V.int
  | [], xs, h => by
    cases h
    rfl
  | n :: r, xs, h => by
    cases h with
    | cons h1 h2 =>
      cases h1
      rw [ints_dw r _ h2] <;> rfl
section
variable {P : Program} {w : World} {K : PySem.W.Frag} {H : Hp} {h : Heap} {R : PySem.W.WRecords} {cl : Str → Option Addr}
theorem sqL_at {a : Addr} {xs : List V} (hok : HOk P w H h) (KX : K.In h) (q : SqL K H a xs) : ∃ (its : List Value) (o : Obj) (n : Nat), Vals xs its ∧ h.get? a = some o ∧ o.cls = .type "list" ∧ o.data = .seq its.toArray n := by
  rcases q with q | ⟨o, its, n, e, hc, _, hd, _, hv⟩
  · obtain ⟨_, its, n, hv, e⟩ := (show ObjOk P w H h a (.lst xs) from q.ok hok)
    exact ⟨its, _, n, hv, e, rfl, rfl⟩
  · exact ⟨its.toList, o, n, hv, KX _ _ e, hc, by simp [hd]⟩
theorem sqT_at {a : Addr} {xs : List V} (hok : HOk P w H h) (KX : K.In h) (q : SqT K H a xs) : ∃ (its : List Value) (o : Obj) (n : Nat), Vals xs its ∧ h.get? a = some o ∧ o.cls = .type "tuple" ∧ o.data = .seq its.toArray n := by
  rcases q with q | ⟨o, its, n, e, hc, hd, _, hv⟩
  · obtain ⟨_, its, hv, o, e, hc, n, hd⟩ := (show ObjOk P w H h a (.tup xs) from q.ok hok)
    exact ⟨its, o, n, hv, e, hc, hd⟩
  · exact ⟨its.toList, o, n, hv, KX _ _ e, hc, by simp [hd]⟩
mutual
theorem Dw.reads (hok : HOk P w H h) (KX : K.In h) : ∀ (d : WData) (v : V) (u : Value), Dw K H v d → RelV v u → ∃ as, ReadsW R cl h u d as
  | .none, _, _, x, r => by
    cases x
    cases r
    exact ⟨_, ReadsW.none⟩
  | .bool b, _, _, x, r => by
    cases x
    cases r
    exact ⟨_, ReadsW.bool b⟩
  | .int i, _, _, x, r => by
    cases x
    obtain ⟨t, rfl⟩ := r
    exact ⟨_, ReadsW.int i t⟩
  | .str s, _, _, x, r => by
    cases x
    obtain ⟨t, rfl⟩ := r
    exact ⟨_, ReadsW.str s t⟩
  | .bytes b, _, _, x, r => by
    cases x
    obtain ⟨t, rfl⟩ := r
    exact ⟨_, ReadsW.bytes _ t⟩
  | .list ds, _, _, x, r => by
    cases x with
    | lst hs ha =>
      cases r
      obtain ⟨its, o, n, rv, ho, hc, hd⟩ := sqL_at hok KX hs
      obtain ⟨as, hr⟩ := Dw.readsAll hok KX ds _ its ha rv
      exact ⟨_, ReadsW.list ho hc hd hr⟩
  | .tuple ds, _, _, x, r => by
    cases x with
    | tup hs ha =>
      cases r
      obtain ⟨its, o, n, rv, ho, hc, hd⟩ := sqT_at hok KX hs
      obtain ⟨as, hr⟩ := Dw.readsAll hok KX ds _ its ha rv
      exact ⟨_, ReadsW.tuple ho hc hd hr⟩
  | .float _, _, _, x, _ => by cases x
  | .dict _, _, _, x, _ => by cases x
  | .bytearray _, _, _, x, _ => by cases x
  | .set _, _, _, x, _ => by cases x
  | .frozenset _, _, _, x, _ => by cases x
  | .obj _ _, _, _, x, _ => by cases x
theorem Dw.readsAll (hok : HOk P w H h) (KX : K.In h) : ∀ (ds : List WData) (vs : List V) (us : List Value), DwAll K H vs ds → Vals vs us → ∃ as, ReadsAllW R cl h us ds as
  | [], _, _, x, r => by
    cases x
    cases r
    exact ⟨_, ReadsAllW.nil⟩
  | d :: ds, _, _, x, r => by
    cases x with
    | cons h1 h2 =>
      cases r with
      | cons r1 r2 =>
        obtain ⟨as, q1⟩ := Dw.reads hok KX d _ _ h1 r1
        obtain ⟨bs, q2⟩ := Dw.readsAll hok KX ds _ _ h2 r2
        exact ⟨_, ReadsAllW.cons q1 q2⟩
end
end
mutual
def plW : WData → Bool
  | .none => true
  | .bool _ => true
  | .int _ => true
  | .str _ => true
  | .bytes _ => true
  | .list xs => plWs xs
  | .tuple xs => plWs xs
  | _ => false
def plWs : List WData → Bool
  | [] => true
  | x :: r => plW x && plWs r
end
theorem plWs_map {α : Type} {f : α → WData} (h : ∀ a, plW (f a) = true) : ∀ l : List α, plWs (l.map f) = true
  | [] => rfl
  | x :: r => by
    show (plW (f x) && plWs (r.map f)) = true
    rw [h x, plWs_map h r] <;> rfl
theorem pl_enc : ∀ (c : Codec) (a : c.denote), plW (c.enc a) = true
  | .unit, _ => rfl
  | .bool, _ => rfl
  | .int _ _, _ => rfl
  | .nat _ _, _ => rfl
  | .u8, _ => rfl
  | .bytes _ _, _ => rfl
  | .text _ _ _ _, _ => rfl
  | .list _ _ c, a => plWs_map (fun x => pl_enc c x) a
  | .pair c d, a => by
    show (plW (c.enc a.1) && (plW (d.enc a.2) && true)) = true
    rw [pl_enc c a.1, pl_enc d a.2] <;> rfl
  | .triple c d e, a => by
    show (plW (c.enc a.1) && (plW (d.enc a.2.1) && (plW (e.enc a.2.2) && true))) = true
    rw [pl_enc c a.1, pl_enc d a.2.1, pl_enc e a.2.2] <;> rfl
  | .option c, none => rfl
  | .option c, some x => pl_enc c x
theorem pl_encAll : ∀ (cs : List Codec) (a : Codec.denoteAll cs), plWs (Codec.encAll cs a) = true
  | [], _ => rfl
  | c :: cs, a => by
    show (plW (c.enc a.1) && plWs (Codec.encAll cs a.2)) = true
    rw [pl_enc c a.1, pl_encAll cs a.2] <;> rfl
theorem weight_mem : ∀ {xs : List WData} {d : WData}, d ∈ xs → d.weight ≤ WData.weightAll xs
  | [], d, h => absurd h (by simp)
  | x :: r, d, h => by
    show d.weight ≤ x.weight + 1 + WData.weightAll r
    rcases List.mem_cons.mp h with e | m
    · rw [e]
      omega
    · have z := weight_mem m
      omega
def toV : Value → V
  | .none => .non
  | .bool b => .bl b
  | .int i _ => .int i
  | .str x _ => .str x
  | .bytes b _ => .byt b
  | .ref a => .ref a
  | _ => .non
def OkU (A : List Addr) : Value → Prop
  | .none => True
  | .bool _ => True
  | .int _ _ => True
  | .str _ _ => True
  | .bytes _ _ => True
  | .ref a => a ∈ A
  | _ => False
theorem OkU.mono {A B : List Addr} (h : ∀ a ∈ A, a ∈ B) : ∀ {u : Value}, OkU A u → OkU B u := fun {u} x => by
  cases u with
  | ref a => exact h a x
  | none => trivial
  | bool b => trivial
  | int i t => trivial
  | str s t => trivial
  | bytes b t => trivial
  | _ => exact False.elim x
theorem relV_toV {A : List Addr} {u : Value} (x : OkU A u) : RelV (toV u) u := by
  cases u with
  | ref a => rfl
  | none => rfl
  | bool b => rfl
  | int i t => exact ⟨t, rfl⟩
  | str s t => exact ⟨t, rfl⟩
  | bytes b t => exact ⟨t, rfl⟩
  | _ => exact False.elim x
theorem vals_toV {A : List Addr} : ∀ {vs : List Value}, (∀ u ∈ vs, OkU A u) → Vals (vs.map toV) vs
  | [], _ => .nil
  | u :: r, h => .cons (relV_toV (h u (List.mem_cons_self ..))) (vals_toV fun x hx => h x (List.mem_cons_of_mem _ hx))
def ArgOb (h : Heap) (A : List Addr) (a : Addr) : Prop := ∃ vs : List Value, vs.length ≤ sizeLine ∧ (∀ u ∈ vs, OkU A u) ∧
  (h.get? a = some { cls := .type "list", data := .seq vs.toArray } ∨ h.get? a = some { cls := .type "tuple", data := .seq vs.toArray })
theorem ArgOb.mono {h : Heap} {A B : List Addr} {a : Addr} (k : ∀ a ∈ A, a ∈ B) (x : ArgOb h A a) : ArgOb h B a := by
  obtain ⟨vs, h1, h2, h3⟩ := x
  exact ⟨vs, h1, fun u hu => (h2 u hu).mono k, h3⟩
theorem wellAll_len {P : Params} {h : Heap} : ∀ {vs : List Value} {ds : List WData}, WellAll P h vs ds → vs.length = ds.length
  | _, _, .nil => rfl
  | _, _, .cons _ b => by
    show _ + 1 = _ + 1
    rw [wellAll_len b]
theorem well_list {P : Params} {h : Heap} {v : Value} {ds : List WData} (x : Well P h v (.list ds)) : ∃ (a : Addr) (vs : List Value), v = .ref a ∧ h.get? a = some { cls := .type "list", data := .seq vs.toArray } ∧ WellAll P h vs ds := by
  cases x with
  | list ho hall => exact ⟨_, _, rfl, ho, hall⟩
theorem well_tuple {P : Params} {h : Heap} {v : Value} {ds : List WData} (x : Well P h v (.tuple ds)) : ∃ (a : Addr) (vs : List Value), v = .ref a ∧ h.get? a = some { cls := .type "tuple", data := .seq vs.toArray } ∧ WellAll P h vs ds := by
  cases x with
  | tuple ho hall => exact ⟨_, _, rfl, ho, hall⟩
theorem well_cons {P : Params} {h : Heap} {us : List Value} {d : WData} {ds : List WData} (x : WellAll P h us (d :: ds)) : ∃ (v : Value) (vs : List Value), us = v :: vs ∧ Well P h v d ∧ WellAll P h vs ds := by
  cases x with
  | cons a b => exact ⟨_, _, rfl, a, b⟩
theorem line_of {n : Nat} (h : n ≤ 1048576) : n ≤ sizeLine := Nat.le_trans h (by decide)
section
variable {P : Params} {h : Heap}
mutual
theorem area_one : ∀ (d : WData) (v : Value), Well P h v d → plW d = true → d.weight ≤ 1048576 → ∃ A : List Addr, OkU A v ∧ ∀ a ∈ A, ArgOb h A a
  | .none, _, x, _, _ => by
    cases x
    exact ⟨[], trivial, fun a m => absurd m (by simp)⟩
  | .bool b, _, x, _, _ => by
    cases x
    exact ⟨[], trivial, fun a m => absurd m (by simp)⟩
  | .int i, _, x, _, _ => by
    cases x
    exact ⟨[], trivial, fun a m => absurd m (by simp)⟩
  | .str s, _, x, _, _ => by
    cases x
    exact ⟨[], trivial, fun a m => absurd m (by simp)⟩
  | .bytes b, _, x, _, _ => by
    cases x
    exact ⟨[], trivial, fun a m => absurd m (by simp)⟩
  | .list ds, _, x, p, z => by
    obtain ⟨a, vs, rfl, ho, hall⟩ := well_list x
    have z2 : WData.weightAll ds ≤ 1048576 := z
    obtain ⟨A, h1, h2⟩ := area_all ds _ hall p fun d hd => Nat.le_trans (weight_mem hd) z2
    have k : ∀ b ∈ A, b ∈ a :: A := fun b hb => List.mem_cons_of_mem _ hb
    refine ⟨a :: A, List.mem_cons_self .., fun b hb => ?_⟩
    rcases List.mem_cons.mp hb with e | m
    · rw [e]
      exact ⟨vs, line_of (by rw [wellAll_len hall]; exact Nat.le_trans (PySem.W.length_le_weightAllW ds) z2), fun u hu => (h1 u hu).mono k, .inl ho⟩
    · exact (h2 b m).mono k
  | .tuple ds, _, x, p, z => by
    obtain ⟨a, vs, rfl, ho, hall⟩ := well_tuple x
    have z2 : WData.weightAll ds ≤ 1048576 := z
    obtain ⟨A, h1, h2⟩ := area_all ds _ hall p fun d hd => Nat.le_trans (weight_mem hd) z2
    have k : ∀ b ∈ A, b ∈ a :: A := fun b hb => List.mem_cons_of_mem _ hb
    refine ⟨a :: A, List.mem_cons_self .., fun b hb => ?_⟩
    rcases List.mem_cons.mp hb with e | m
    · rw [e]
      exact ⟨vs, line_of (by rw [wellAll_len hall]; exact Nat.le_trans (PySem.W.length_le_weightAllW ds) z2), fun u hu => (h1 u hu).mono k, .inr ho⟩
    · exact (h2 b m).mono k
  | .float _, _, _, p, _ => Bool.noConfusion (show false = true from p)
  | .dict _, _, _, p, _ => Bool.noConfusion (show false = true from p)
  | .bytearray _, _, _, p, _ => Bool.noConfusion (show false = true from p)
  | .set _, _, _, p, _ => Bool.noConfusion (show false = true from p)
  | .frozenset _, _, _, p, _ => Bool.noConfusion (show false = true from p)
  | .obj _ _, _, _, p, _ => Bool.noConfusion (show false = true from p)
theorem area_all : ∀ (ds : List WData) (vs : List Value), WellAll P h vs ds → plWs ds = true → (∀ d ∈ ds, d.weight ≤ 1048576) → ∃ A : List Addr, (∀ u ∈ vs, OkU A u) ∧ ∀ a ∈ A, ArgOb h A a
  | [], _, x, _, _ => by
    cases x
    exact ⟨[], fun u m => absurd m (by simp), fun a m => absurd m (by simp)⟩
  | d :: ds, _, x, p, z => by
    obtain ⟨v, vs, rfl, x1, x2⟩ := well_cons x
    have q : plW d = true ∧ plWs ds = true := Bool.and_eq_true_iff.mp p
    obtain ⟨A, a1, a2⟩ := area_one d v x1 q.1 (z d (List.mem_cons_self ..))
    obtain ⟨B, b1, b2⟩ := area_all ds vs x2 q.2 fun e he => z e (List.mem_cons_of_mem _ he)
    have kA : ∀ b ∈ A, b ∈ A ++ B := fun b hb => List.mem_append.mpr (.inl hb)
    have kB : ∀ b ∈ B, b ∈ A ++ B := fun b hb => List.mem_append.mpr (.inr hb)
    refine ⟨A ++ B, fun u hu => ?_, fun b hb => ?_⟩
    · rcases List.mem_cons.mp hu with e | m
      · rw [e]
        exact a1.mono kA
      · exact (b1 u m).mono kB
    · rcases List.mem_append.mp hb with m | m
      · exact (a2 b m).mono kA
      · exact (b2 b m).mono kB
end
end
def hoOf (o : Obj) : Option HO := match o.data with
  | .seq vs _ => if (o.cls == Value.type "list") = true then some (.frz o (.lst (vs.toList.map toV))) else some (.frz o (.tup (vs.toList.map toV)))
  | _ => none
def argH (K : PySem.W.Frag) (h : Heap) (A : List Addr) : Hp := fun b => if b ∈ A then (if (K.lookup b).isNone = true then (h.get? b).bind hoOf else none) else none
def OnlyF (H : Hp) : Prop := ∀ b, H b = none ∨ ∃ o u, H b = some (.frz o u)
theorem hoOf_lst (vs : List Value) : hoOf { cls := .type "list", data := .seq vs.toArray } = some (.frz { cls := .type "list", data := .seq vs.toArray } (.lst (vs.map toV))) := by
  show (if (Value.type "list" == Value.type "list") = true then some (HO.frz { cls := .type "list", data := .seq vs.toArray } (.lst (vs.toArray.toList.map toV))) else some (HO.frz { cls := .type "list", data := .seq vs.toArray } (.tup (vs.toArray.toList.map toV)))) = _
  rw [if_pos (beq_self_eq_true _)]
theorem hoOf_tup (vs : List Value) : hoOf { cls := .type "tuple", data := .seq vs.toArray } = some (.frz { cls := .type "tuple", data := .seq vs.toArray } (.tup (vs.map toV))) := by
  show (if (Value.type "tuple" == Value.type "list") = true then some (HO.frz { cls := .type "tuple", data := .seq vs.toArray } (.lst (vs.toArray.toList.map toV))) else some (HO.frz { cls := .type "tuple", data := .seq vs.toArray } (.tup (vs.toArray.toList.map toV)))) = _
  rw [if_neg (by decide)]
section
variable {P : Program} {w : World} {K : PySem.W.Frag} {h : Heap} {A : List Addr}
theorem argH_at {b : Addr} {o : Obj} (hb : b ∈ A) (hk : K.lookup b = none) (e : h.get? b = some o) : argH K h A b = hoOf o := by
  unfold argH
  rw [if_pos hb, hk, if_pos (show (none : Option Obj).isNone = true from rfl), e] <;> rfl
theorem of_argH {b : Addr} {u : HO} (q : argH K h A b = some u) : b ∈ A ∧ K.lookup b = none := by
  unfold argH at q
  by_cases hb : b ∈ A
  · rw [if_pos hb] at q
    cases hk : K.lookup b with
    | none => exact ⟨hb, rfl⟩
    | some o =>
      rw [hk, if_neg (by simp)] at q
      cases q
  · rw [if_neg hb] at q
    cases q
theorem argH_is (ar : ∀ a ∈ A, ArgOb h A a) {b : Addr} {u : HO} (q : argH K h A b = some u) : K.lookup b = none ∧ ∃ vs : List Value, vs.length ≤ sizeLine ∧ (∀ u ∈ vs, OkU A u) ∧
    ((h.get? b = some { cls := .type "list", data := .seq vs.toArray } ∧ u = .frz { cls := .type "list", data := .seq vs.toArray } (.lst (vs.map toV))) ∨
     (h.get? b = some { cls := .type "tuple", data := .seq vs.toArray } ∧ u = .frz { cls := .type "tuple", data := .seq vs.toArray } (.tup (vs.map toV)))) := by
  obtain ⟨hb, hk⟩ := of_argH q
  obtain ⟨vs, h1, h2, h3⟩ := ar b hb
  refine ⟨hk, vs, h1, h2, ?_⟩
  rcases h3 with e | e
  · rw [argH_at hb hk e, hoOf_lst] at q
    exact .inl ⟨e, (Option.some.inj q).symm⟩
  · rw [argH_at hb hk e, hoOf_tup] at q
    exact .inr ⟨e, (Option.some.inj q).symm⟩
theorem argH_only (ar : ∀ a ∈ A, ArgOb h A a) : OnlyF (argH K h A) := fun b => by
  cases q : argH K h A b with
  | none => exact .inl rfl
  | some u =>
    obtain ⟨_, vs, _, _, ⟨_, e⟩ | ⟨_, e⟩⟩ := argH_is ar q
    · exact .inr ⟨_, _, by rw [e]⟩
    · exact .inr ⟨_, _, by rw [e]⟩
theorem argH_ok (ar : ∀ a ∈ A, ArgOb h A a) : HOk P w (argH K h A) h := fun b u q => by
  obtain ⟨_, vs, h1, h2, ⟨e, rfl⟩ | ⟨e, rfl⟩⟩ := argH_is ar q
  · exact ⟨e, by rw [List.length_map]; exact h1, vs, _, vals_toV h2, e⟩
  · exact ⟨e, by rw [List.length_map]; exact h1, vs, vals_toV h2, _, e, rfl, _, rfl⟩
theorem seq_inj {c c' : Value} {vs us : List Value} (e : (some { cls := c, data := .seq vs.toArray } : Option Obj) = some { cls := c', data := .seq us.toArray }) : c = c' ∧ vs = us := by
  have e1 := Option.some.inj e
  have e2 : c = c' := congrArg Obj.cls e1
  have e3 : Data.seq vs.toArray = Data.seq us.toArray := congrArg Obj.data e1
  injection e3 with e4
  refine ⟨e2, ?_⟩
  have e5 := congrArg Array.toList e4
  simpa using e5
theorem argL (KX : K.In h) (ar : ∀ a ∈ A, ArgOb h A a) {a : Addr} {vs : List Value} (ha : a ∈ A) (e : h.get? a = some { cls := .type "list", data := .seq vs.toArray }) : (∀ u ∈ vs, OkU A u) ∧ SqL K (argH K h A) a (vs.map toV) := by
  obtain ⟨us, h1, h2, h3⟩ := ar a ha
  have hu : us = vs := by
    rcases h3 with q | q
    · rw [e] at q
      exact (seq_inj q).2.symm
    · rw [e] at q
      exact absurd (Value.type.inj (seq_inj q).1) (by decide)
  subst hu
  refine ⟨h2, ?_⟩
  cases hk : K.lookup a with
  | none => exact .inl (.inr ⟨_, by rw [argH_at ha hk e, hoOf_lst]⟩)
  | some o =>
    have e2 := KX a o hk
    rw [e] at e2
    obtain rfl := Option.some.inj e2
    exact .inr ⟨_, us.toArray, _, hk, rfl, rfl, rfl, by rw [List.size_toArray]; exact h1, by simpa using vals_toV h2⟩
theorem argT (KX : K.In h) (ar : ∀ a ∈ A, ArgOb h A a) {a : Addr} {vs : List Value} (ha : a ∈ A) (e : h.get? a = some { cls := .type "tuple", data := .seq vs.toArray }) : (∀ u ∈ vs, OkU A u) ∧ SqT K (argH K h A) a (vs.map toV) := by
  obtain ⟨us, h1, h2, h3⟩ := ar a ha
  have hu : us = vs := by
    rcases h3 with q | q
    · rw [e] at q
      exact absurd (Value.type.inj (seq_inj q).1) (by decide)
    · rw [e] at q
      exact (seq_inj q).2.symm
  subst hu
  refine ⟨h2, ?_⟩
  cases hk : K.lookup a with
  | none => exact .inl (.inr ⟨_, by rw [argH_at ha hk e, hoOf_tup]⟩)
  | some o =>
    have e2 := KX a o hk
    rw [e] at e2
    obtain rfl := Option.some.inj e2
    exact .inr ⟨_, us.toArray, _, hk, rfl, rfl, by rw [List.size_toArray]; exact h1, by simpa using vals_toV h2⟩
mutual
theorem dw_one {Pm : Params} (KX : K.In h) (ar : ∀ a ∈ A, ArgOb h A a) : ∀ (d : WData) (v : Value), Well Pm h v d → plW d = true → OkU A v → Dw K (argH K h A) (toV v) d
  | .none, _, x, _, _ => by
    cases x
    exact .non
  | .bool b, _, x, _, _ => by
    cases x
    exact .bl b
  | .int i, _, x, _, _ => by
    cases x
    exact .int i
  | .str s, _, x, _, _ => by
    cases x
    exact .str s
  | .bytes b, _, x, _, _ => by
    cases x
    have z := Dw.byt (K := K) (H := argH K h A) b.toArray
    exact z
  | .list ds, _, x, p, hu => by
    obtain ⟨a, vs, rfl, ho, hall⟩ := well_list x
    obtain ⟨h2, hs⟩ := argL KX ar hu ho
    exact .lst hs (dw_all KX ar ds _ hall p h2)
  | .tuple ds, _, x, p, hu => by
    obtain ⟨a, vs, rfl, ho, hall⟩ := well_tuple x
    obtain ⟨h2, hs⟩ := argT KX ar hu ho
    exact .tup hs (dw_all KX ar ds _ hall p h2)
  | .float _, _, _, p, _ => Bool.noConfusion (show false = true from p)
  | .dict _, _, _, p, _ => Bool.noConfusion (show false = true from p)
  | .bytearray _, _, _, p, _ => Bool.noConfusion (show false = true from p)
  | .set _, _, _, p, _ => Bool.noConfusion (show false = true from p)
  | .frozenset _, _, _, p, _ => Bool.noConfusion (show false = true from p)
  | .obj _ _, _, _, p, _ => Bool.noConfusion (show false = true from p)
theorem dw_all {Pm : Params} (KX : K.In h) (ar : ∀ a ∈ A, ArgOb h A a) : ∀ (ds : List WData) (vs : List Value), WellAll Pm h vs ds → plWs ds = true → (∀ u ∈ vs, OkU A u) → DwAll K (argH K h A) (vs.map toV) ds
  | [], _, x, _, _ => by
    cases x
    exact .nil
  | d :: ds, _, x, p, hu => by
    obtain ⟨v, vs, rfl, x1, x2⟩ := well_cons x
    have q : plW d = true ∧ plWs ds = true := Bool.and_eq_true_iff.mp p
    exact .cons (dw_one KX ar d v x1 q.1 (hu _ (List.mem_cons_self ..))) (dw_all KX ar ds vs x2 q.2 fun u m => hu u (List.mem_cons_of_mem _ m))
end
end
theorem spec_call {P : Program} {w : World} {K : PySem.W.Frag} {mg mb : Str → Option Value} {CX : CXT} {k : Nat} {fa : Addr} {fd : FuncData} {ps : List Str} {sp : Sp} {s₁ : Shared} {vals : List Value} {ds : List WData} {R : PySem.W.WRecords} {cl : Str → Option Addr} {d0 : WData}
    (KX : K.In s₁.heap) (hns : s₁.heap.Ns mainGlobals mg) (hb : s₁.heap.Ns builtinsNs mb) (hbb : ∀ x : Str, x ≠ "__name__" → mb x = bootBuiltins x) (hlim : s₁.heap.NoLimit) (hg : s₁.gens = #[])
    (hwl : WellAll w.params s₁.heap vals ds) (hpl : plWs ds = true) (hwt : ∀ d ∈ ds, d.weight ≤ 1048576) (hr : Room k callerA)
    (F : ∀ base : Heap, K.In base → base.Ns mainGlobals mg → FnOk P w K mg base CX k fa fd ps sp) (hbind : ∀ (s : Shared) (us : List Value), us.length = ps.length → BindsTo s fd ⟨us, []⟩ (ps.zip us)) (hlen : ds.length = ps.length)
    (hsp : ∀ (H : Hp) (xs : List V), OnlyF H → DwAll K H xs ds → sp xs H (fun v H' => Dw K H' v d0) fun _ _ _ => False)
    (hCX : ∀ H e s', CX [] H s₁ (fun _ _ _ => False) e s' → False) :
    codeAny (model P w) callerA (.call (.ref fa) ⟨vals, []⟩) (fun r s' => ∃ u as, r = .ok (.ret u) ∧ ReadsW R cl s'.heap u d0 as ∧ OldK s₁.heap s'.heap ∧ s'.os = s₁.os ∧ AllBare s'.gens) s₁ := by
  obtain ⟨A, ho, ar⟩ := area_all ds vals hwl hpl hwt
  have hO : OnlyF (argH K s₁.heap A) := argH_only ar
  have hok : HOk P w (argH K s₁.heap A) s₁.heap := argH_ok ar
  have hS := dw_all KX ar ds vals hwl hpl ho
  have hV := vals_toV ho
  have hK : ∀ b u, argH K s₁.heap A b = some u → K.lookup b = none := fun b u q => (argH_is ar q).1
  have noA : ∀ {b : Addr} {o : Obj} {es : Array DictEntry} {ep : Nat}, s₁.heap.get? b = some o → o.data = .dict es ep → argH K s₁.heap A b = none := fun {b o es ep} e d => by
    cases q : argH K s₁.heap A b with
    | none => rfl
    | some u =>
      obtain ⟨_, vs, _, _, ⟨e2, _⟩ | ⟨e2, _⟩⟩ := argH_is ar q
      · rw [e2] at e
        cases e
        have d' : Data.seq vs.toArray _ = Data.dict es ep := d
        cases d'
      · rw [e2] at e
        cases e
        have d' : Data.seq vs.toArray _ = Data.dict es ep := d
        cases d'
  generalize argH K s₁.heap A = H at hO hok hS hK noA
  have base_of : ∀ {b : Addr} {o : Obj}, s₁.heap.get? b = some o → H b = none → (hidT s₁.heap H).get? b = some o := fun e n => hidT_get e n
  have nsK : ∀ {b : Addr} {m : Str → Option Value}, s₁.heap.Ns b m → (hidT s₁.heap H).Ns b m := fun {b m} ⟨o, es, ep, e, d, r⟩ => ⟨o, es, ep, base_of e (noA e d), d, r⟩
  have nK : ∀ b o, K.lookup b = some o → H b = none := fun b o e => by
    cases q : H b with
    | none => rfl
    | some u =>
      rw [hK b u q] at e
      cases e
  have hKb : K.In (hidT s₁.heap H) := fun b o e => base_of (KX b o e) (nK b o e)
  have hM : Mod K mg (hidT s₁.heap H) := ⟨hKb, nsK hns, ⟨mb, nsK hb, hbb⟩, let ⟨mc, h1, h2⟩ := hlim; ⟨mc, nsK h1, h2⟩⟩
  have e0 : Env0 P w K mg (hidT s₁.heap H) callerA [] s₁ H := ⟨rfl, hM, fun b o e => of_hidT e, Nat.le_of_eq (hidT_size _ _), trivial, fun b hb => absurd (show b ∈ ([] : List Addr) from hb) (by simp), hok, .of_eq hg⟩
  have hl : vals.length = ps.length := by rw [wellAll_len hwl]; exact hlen
  refine codeAny_mono ((F _ hKb (nsK hns)).run callerA [] s₁ H ⟨vals, []⟩ vals (vals.map toV) _ _ hr e0 (hbind s₁ vals hl) hV (hsp H _ hO hS)) fun r s' x => ?_
  cases r with
  | error e => exact (hCX H e s' x).elim
  | ok fl =>
    cases fl with
    | next => exact False.elim x
    | brk => exact False.elim x
    | cont => exact False.elim x
    | ret u =>
      obtain ⟨v, H', os, bare, un, hok', r', q⟩ := x
      have kept : ∀ b o, s₁.heap.get? b = some o → s'.heap.get? b = some o := fun b o e => by
        cases q2 : H b with
        | none => exact un.keep b o e q2 (by intro z; exact absurd (show b ∈ ([] : List Addr) from z) (by simp)) (by simp)
        | some u2 =>
          rcases hO b with z | ⟨ob, u3, z⟩
          · rw [q2] at z
            cases z
          · have z2 := un.frzs b ob _ z
            obtain ⟨e1, _⟩ := hok b _ z
            obtain ⟨e2, _⟩ := hok' b _ z2
            rw [e] at e1
            cases e1
            exact e2
      have KX' : K.In s'.heap := fun b o e => kept b o (KX b o e)
      obtain ⟨as, hrd⟩ := Dw.reads (R := R) (cl := cl) hok' KX' d0 v u q r'
      exact ⟨u, as, rfl, hrd, OldK.of_keep kept, os, bare⟩
theorem layable_weight {ds : List WData} (h : WData.layableAll ds = true) : ∀ d ∈ ds, d.weight ≤ 1048576 := fun d hd =>
  (PySem.W.layableW_iff.mp (List.all_eq_true.mp h d hd)).2.2
theorem encAll_len : ∀ (cs : List Codec) (a : Codec.denoteAll cs), (Codec.encAll cs a).length = cs.length
  | [], _ => rfl
  | c :: cs, a => by
    show (Codec.encAll cs a.2).length + 1 = cs.length + 1
    rw [encAll_len cs a.2]
theorem walk_spec {r : OpenSpec} {k : Nat} {q : Program} {loose : List Str} {XP : (Str → Option Value) → Heap → Prop} {YP : World → Heap → Prop} {d : DefRec} {K : Params → PySem.W.Frag} {CX : World → CXT} {ps : List Str} {sp : World → Sp}
    (hwell : r.wellSaid = true) (hdf : d.params.defaults = []) (hlen : r.args.length = ps.length) (hr : Room k callerA)
    (hY : ∀ (w : World) (h : Heap), YP w h → (K w.params).In h)
    (F : ∀ (w : World) (mg : Str → Option Value) (fa : Addr) (h : Heap), YP w h → (K w.params).In h → h.Ns mainGlobals mg → mg d.name = some (.ref fa) →
      ∃ fd : FuncData, (∀ (s : Shared) (us : List Value), us.length = ps.length → BindsTo s fd ⟨us, []⟩ (ps.zip us)) ∧
        ∀ base : Heap, (K w.params).In base → base.Ns mainGlobals mg → FnOk r.prog w (K w.params) mg base (CX w) k fa fd ps (sp w))
    (hsp : ∀ (w : World) (H : Hp) (xs : List V) (a : Codec.denoteAll r.args), OnlyF H → Codec.withinAll r.args a = true → Codec.app r.args r.asked a = true → DwAll (K w.params) H xs (Codec.encAll r.args a) →
      sp w xs H (fun v H' => Dw (K w.params) H' v (r.ret.enc (Codec.app r.args r.f a))) fun _ _ _ => False)
    (hCX : ∀ (w : World) (H : Hp) (s : Shared) (e : Value) (s' : Shared), CX w [] H s (fun _ _ _ => False) e s' → False) :
    PySem.W.WalkOS q loose XP YP r d [] (fun f vs => PySem.call f vs) := by
  intro w s_0 s₁ mg mb G Y fa o pm cd doc dV kV ho hd hcd hD hmg hg args vals as hpre hlay hrd hwl hlo
  obtain ⟨a, e1, e2⟩ := PySem.W.os_pre_some hpre
  obtain ⟨e3, hwi⟩ := Codec.encAll_of_decAll r.args args a e1
  subst e3
  have KX := hY w _ Y
  obtain ⟨fd, hb, hF⟩ := F w mg fa _ Y KX G.T.g hmg
  refine PySem.W.enter_call (codeAny_mono (spec_call (R := []) (cl := classAt s_0.heap) (d0 := r.ret.enc (Codec.app r.args r.f a)) KX G.T.g G.T.b G.T.builtins G.T.nolimit hg hwl (pl_encAll _ _) (layable_weight hlay) hr hF hb (by rw [encAll_len]; exact hlen)
    (fun H xs hO hS => hsp w H xs a hO hwi e2 hS) fun H e s' => hCX w H s₁ e s') fun r' s' hq => ?_)
  obtain ⟨u, as', rfl, h1, h2, h3, h4⟩ := hq
  exact ⟨.inl ⟨u, _, as', rfl, fun _ => rfl, h1, (OpenSpec.post_iff hwell hwi _ _).mpr rfl, fun z => Bool.noConfusion (show false = true from z)⟩, h2, h3, h4⟩
theorem walk_specK {r : OpenSpec} {k : Nat} {q : Program} {loose : List Str} {XP : (Str → Option Value) → Heap → Prop} {YP : World → Heap → Prop} {d : DefRec} {K : Params → PySem.W.Frag} {CX : CXT} {ps : List Str} {sp : PySem.W.Frag → Sp}
    (hwell : r.wellSaid = true) (hdf : d.params.defaults = []) (hlen : r.args.length = ps.length) (hr : Room k callerA)
    (hY : ∀ (w : World) (h : Heap), YP w h → (K w.params).In h)
    (F : ∀ (w : World) (mg : Str → Option Value) (fa : Addr) (h : Heap), YP w h → (K w.params).In h → h.Ns mainGlobals mg → mg d.name = some (.ref fa) →
      ∃ fd : FuncData, (∀ (s : Shared) (us : List Value), us.length = ps.length → BindsTo s fd ⟨us, []⟩ (ps.zip us)) ∧
        ∀ base : Heap, (K w.params).In base → base.Ns mainGlobals mg → FnOk r.prog w (K w.params) mg base CX k fa fd ps (sp (K w.params)))
    (hsp : ∀ (K : PySem.W.Frag) (H : Hp) (xs : List V) (a : Codec.denoteAll r.args), OnlyF H → Codec.withinAll r.args a = true → Codec.app r.args r.asked a = true → DwAll K H xs (Codec.encAll r.args a) →
      sp K xs H (fun v H' => Dw K H' v (r.ret.enc (Codec.app r.args r.f a))) fun _ _ _ => False)
    (hCX : ∀ (H : Hp) (s : Shared) (e : Value) (s' : Shared), CX [] H s (fun _ _ _ => False) e s' → False) :
    PySem.W.WalkOS q loose XP YP r d [] (fun f vs => PySem.call f vs) :=
  walk_spec (K := K) (CX := fun _ => CX) (sp := fun w => sp (K w.params)) hwell hdf hlen hr hY F (fun w H xs a h1 h2 h3 h4 => hsp (K w.params) H xs a h1 h2 h3 h4) fun _ H s e s' => hCX H s e s'
end L2
end

set_option Elab.async false
set_option linter.all false
set_option maxRecDepth 100000
set_option maxHeartbeats 4000000
namespace Ck
open PySem PySem.Spec PyProof.Rows L2
section
variable {X : Cx} {pos p : Pos}
theorem pe_gint {x : Str} {n : Int} (hg : Gl X x) (hm : ∃ t, X.mg x = some (.int n t)) (hd : (x == ("__debug__" : Str)) = false := by decide) : PE X (.Name x pos) (tC (.int n)) := by
  obtain ⟨t, hm⟩ := hm
  exact pe_glob hg hm ⟨t, rfl⟩ hd
theorem pe_gref {x : Str} {a : Addr} (hg : Gl X x) (hm : X.mg x = some (.ref a)) (hd : (x == ("__debug__" : Str)) = false := by decide) : PE X (.Name x pos) (tC (.ref a)) := pe_glob hg hm rfl hd
theorem PE.imp {e : Expr} {t t' : TE} (h : PE X e t) (k : ∀ σ H Q, t' σ H Q → t σ H Q) : PE X e t' := fun pins s σ H Q I q => h pins s σ H Q I (k σ H Q q)
def tChain3 (r r' r'' : R2) (ta tb tc td : TE) : TE := fun σ H Q => ta σ H fun x H1 => tb σ H1 fun y H2 => r x y H2 fun z H3 => ∃ k, z = .bl k ∧
  (if k = true then tc σ H3 fun w' H4 => r' y w' H4 fun z' H5 => ∃ k', z' = .bl k' ∧ (if k' = true then td σ H5 fun v' H6 => r'' w' v' H6 Q else Q (.bl false) H5) else Q (.bl false) H3)
theorem pe_chain3 {op op' op'' : CmpOp} {r r' r'' : R2} {a b c d : Expr} {ta tb tc td : TE} (ho : OpR X (compareOp op) r) (ho' : OpR X (compareOp op') r') (ho'' : OpR X (compareOp op'') r'') (ha : PE X a ta) (hb : PE X b tb) (hc : PE X c tc) (hd : PE X d td)
    (hm : lastMarks [op, op', op''] [b, c, d] = false := by with_unfolding_all rfl) : PE X (.Compare a [op, op', op''] [b, c, d] pos) (tChain3 r r' r'' ta tb tc td) := by
  intro pins s σ H Q I h
  refine Compare_chain (thn (ha pins s σ H _ I h) fun v s1 ⟨x, H1, I1, r1, q1⟩ => chain_link (thn (hb pins s1 σ H1 _ I1 q1) fun u s2 ⟨y, H2, I2, r2, q2⟩ =>
    thn (ho pins s2 σ H2 x y v u _ I2 r1 r2 q2) fun d' s3 ⟨z, H3, I3, r3, k, e, q3⟩ => ?_)) hm
  subst e
  cases r3
  refine wpAny_truthy_bool ?_
  cases k with
  | false => exact ite_ff ⟨.bl false, H3, I3, rfl, q3⟩
  | true =>
    refine ite_tt (chain_link (thn (hc pins s3 σ H3 _ I3 q3) fun w' s4 ⟨z', H4, I4, r4, q4⟩ => thn (ho' pins s4 σ H4 y z' u w' _ I4 r2 r4 q4) fun d2 s5 ⟨z2, H5, I5, r5, k2, e2, q5⟩ => ?_))
    subst e2
    cases r5
    refine wpAny_truthy_bool ?_
    cases k2 with
    | false => exact ite_ff ⟨.bl false, H5, I5, rfl, q5⟩
    | true => exact ite_tt (chain_last (thn (hd pins s5 σ H5 _ I5 q5) fun w2 s6 ⟨z3, H6, I6, r6, q6⟩ => ho'' pins s6 σ H6 z' z3 w' w2 Q I6 r4 r6 q6))
end
section
variable {X : Cx}
theorem CallR.imp {f : Value} {r r' : List V → Hp → VK → Prop} (h : CallR X f r) (k : ∀ xs H Q, r' xs H Q → r xs H Q) : CallR X f r' := fun pins s σ H xs us Q I v q => h pins s σ H xs us Q I v (k _ _ _ q)
theorem IxR.imp {r r' : R2} (h : IxR X r) (k : ∀ x y H Q, r' x y H Q → r x y H Q) : IxR X r' := fun va sl pins s σ H x y v u Q I rx ry q => h va sl pins s σ H x y v u Q I rx ry (k _ _ _ _ q)
def rLenL : List V → Hp → VK → Prop := fun xs H Q => ∃ p ys, xs = [.ref p] ∧ H p = some (.lst ys) ∧ Q (.int ys.length) H
theorem call_lenL : CallR X (.builtin "len") rLenL := CallR.imp call_len_seq fun _ _ _ ⟨p, ys, e, h, q⟩ => ⟨p, ys, e, .inl (SqL.of h), q⟩
def rIxO : R2 := fun x y H Q => ∃ p xs i v, x = .ref p ∧ y = .int i ∧ H p = some (.lst xs) ∧ atI xs i = some v ∧ Q v H
theorem ix_own : IxR X rIxO := IxR.imp ix_list fun _ _ _ _ ⟨p, xs, i, v, e1, e2, h, a, q⟩ => ⟨p, xs, i, v, e1, e2, SqL.of h, a, q⟩
theorem tyV_lst {K : PySem.W.Frag} {H : Hp} {p : Addr} {xs : List V} (h : H p = some (.lst xs)) : tyV K "list" (.ref p) H := .inl ⟨rfl, xs, SqL.of h⟩
theorem scal_int {i j : Int} : scal (.int i) (.int j) = true := rfl
end
theorem cmul_two {j : Int} : CMul 2 j = True := eq_true (.inl ⟨by decide, by decide⟩)
structure IntsAt (H0 H : Hp) (l : Addr) (L : List Int) : Prop where
  same : Same H0 H
  new : H0 l = none
  lst : H l = some (.lst (L.map V.int))
theorem IntsAt.grow {H0 H H' : Hp} {l : Addr} {L : List Int} (h : IntsAt H0 H l L) (k : Same H H') : IntsAt H0 H' l L := ⟨h.same.trans k, h.new, k _ _ h.lst⟩
theorem IntsAt.start {H0 H : Hp} {l : Addr} {L : List Int} (k : Same H0 H) (n : H l = none) : IntsAt H0 (upd H l (.lst (L.map V.int))) l L := ⟨fun a o e => by rw [upd_ne (ne_of_none (k _ _ e) n)]; exact k _ _ e, k.free n, upd_same⟩
theorem IntsAt.put {H0 H H1 : Hp} {l : Addr} {L M : List Int} {xs : List V} (h : IntsAt H0 H l L) (k : Same H H1) (e : xs = M.map V.int) : IntsAt H0 (upd H1 l (.lst (L.map V.int ++ xs))) l (L ++ M) := by
  subst e
  refine ⟨fun a o e => ?_, h.new, by rw [upd_same, List.map_append]⟩
  rw [upd_ne (ne_of_none e h.new)]
  exact k _ _ (h.same _ _ e)
theorem for_enum {K : PySem.W.Frag} {a : Addr} {xs : List V} {ia ib : Nat} {tb : TS} {D : Ends} {σ : L2.St} {H : Hp} (Pv : Nat → L2.St → Hp → Prop) (h0 : Pv 0 σ H) (hl : ∀ i σ H, i ≤ xs.length → Pv i σ H → SqL K H a xs)
    (hs : ∀ i x σ H T, xs[i]? = some x → Pv i σ H → H T = none → tb { D with nx := Pv (i + 1), ct := Pv (i + 1), bk := D.nx } ((σ.set ia (some (.int (i : Nat)))).set ib (some x)) (upd H T (.tup [.int (i : Nat), x]))) (hd : ∀ σ H, Pv xs.length σ H → D.nx σ H) :
    ∃ W : Nat → Nat → L2.St → Hp → Prop, (∃ m, W 0 m σ H) ∧ ∀ i m σ H, W i m σ H →
      ((Ite K a).stop i H ∧ D.nx σ H) ∨ ((Ite K a).go i H ∧ ∃ N : L2.St → Hp → Prop, (∀ σ' H', N σ' H' → ∃ m', m' < m ∧ W (i + 1) m' σ' H') ∧ ∀ x H', (Ite K a).yld i H x H' → gTup K 2 (gCons (gName ia) (gCons (gName ib) gNil)) x σ H' fun σ2 H2 => tb { D with nx := N, ct := N, bk := D.nx } σ2 H2) := by
  refine ⟨fun i m σ H => m = xs.length - i ∧ i ≤ xs.length ∧ Pv i σ H, ⟨xs.length, by simp, Nat.zero_le _, h0⟩, ?_⟩
  rintro i m σ H ⟨rfl, hi, p⟩
  have q := hl i σ H hi p
  by_cases hlt : i < xs.length
  · refine .inr ⟨⟨xs, xs[i], q, by simp [hlt]⟩, Pv (i + 1), fun σ' H' p' => ⟨xs.length - (i + 1), by omega, rfl, hlt, p'⟩, fun v H' y => ?_⟩
    obtain ⟨T, x, rfl, hT, rfl, hx⟩ := y
    exact ⟨T, _, rfl, SqT.of upd_same, rfl, _, _, rfl, _, _, rfl, rfl, hs i x σ H T (hx xs q) p hT⟩
  · have e : i = xs.length := by omega
    subst e
    exact .inl ⟨⟨xs, q, Nat.le_refl _⟩, hd σ H p⟩
structure Def (P : Program) (w : World) (K : PySem.W.Frag) (mg : Str → Option Value) (base : Heap) (k : Nat) (x : Str) (sp : Sp) : Prop where
  ex : ∃ (f : Addr) (fd : FuncData) (ps : List Str), FnOk P w K mg base CX0 k f fd ps sp ∧ mg x = some (.ref f) ∧ PySem.W.keepIn K (.ref f) = true ∧ Binds K fd ps []
structure New (P : Program) (w : World) (K : PySem.W.Frag) (mg : Str → Option Value) (base : Heap) (k : Nat) (x : Str) (sp : Sp) : Prop where
  ex : ∃ (C f : Addr) (fd : FuncData) (ps : List Str) (si : Sp), Mk K C f ∧ FnOk P w K mg base CX0 k f fd ps si ∧ mg x = some (.ref C) ∧ Binds K fd ps [] ∧
    ∀ (vs : List V) (H : Hp) (Q : VK), sp vs H Q E0 → ∀ x dx, H x = none → H dx = none → dx ≠ x → si (.ref x :: vs) (upd (upd H dx (.own x)) x (.ins C dx [])) (fun v H2 => v = .non ∧ Q (.ref x) H2) E0
structure Mth (P : Program) (w : World) (K : PySem.W.Frag) (mg : Str → Option Value) (base : Heap) (k : Nat) (C : Addr) (m : Str) (sp : Sp) (f : Addr) (fd : FuncData) (ps : List Str) : Prop where
  cl : Cls K C
  me : Meth K C m f
  ok : FnOk P w K mg base CX0 k f fd ps sp
  bi : Binds K fd ps []
section
variable {X : Cx} {pos p : Pos} {x : Str} {k m : Nat} {sp : Sp} {e : Expr} {es : List Expr} {t : TA}
def tDef (sp : Sp) (t : TA) : TE := fun σ H Q => t σ H fun vs H1 => sp vs H1 Q E0
theorem pe_def (D : Def X.prog X.w X.K X.mg X.base k x sp) (hr : Room m X.A) (ha : PA X (e :: es) t) (hk : k ≤ m := by decide) (hg : Gl X x := by rfl)
    (hdb : (x == ("__debug__" : Str)) = false := by decide) (he : starEach (e :: es) X.env = (false, eval e X.env) :: starEach es X.env := by rfl) (hpl : (backTo pos (starEach es X.env)).any (·.1) = false := by rfl) :
    PE X (.Call (.Name x p) (e :: es) [] pos) (tDef sp t) := by
  obtain ⟨f, fd, ps, F, h1, h2, h3⟩ := D.ex
  intro pins s σ H Q I h
  refine wpAny_Call_Name_kw (ld_glob I hg h1 ?_ hdb)
  refine PySem.W.callWith_K (h₀ := X.base) I.ok.mod.kin h2 (thn (ha pos pins s σ H _ I h) fun us s1 ⟨vs, H1, I1, r, q⟩ => ⟨I1.kIn, ?_⟩) he hpl
  exact run_fn F (hr.mono hk) h3 .nil pass0 I1 r (by rw [List.append_nil]; exact q)
theorem pe_new (D : New X.prog X.w X.K X.mg X.base k x sp) (hr : Room m X.A) (ha : PA X (e :: es) t) (hk : k + 1 ≤ m := by decide) (hg : Gl X x := by rfl)
    (hdb : (x == ("__debug__" : Str)) = false := by decide) (he : starEach (e :: es) X.env = (false, eval e X.env) :: starEach es X.env := by rfl) (hpl : (backTo pos (starEach es X.env)).any (·.1) = false := by rfl) :
    PE X (.Call (.Name x p) (e :: es) [] pos) (tDef sp t) := by
  obtain ⟨C, f, fd, ps, si, M, F, h1, h3, hi⟩ := D.ex
  intro pins s σ H Q I h
  refine wpAny_Call_Name_kw (ld_glob I hg h1 ?_ hdb)
  refine PySem.W.callWith_K (h₀ := X.base) I.ok.mod.kin M.kp (thn (ha pos pins s σ H _ I h) fun us s1 ⟨vs, H1, I1, r, q⟩ => ⟨I1.kIn, ?_⟩) he hpl
  exact run_make M F (hr.mono hk) h3 .nil pass0 I1 r (by rw [List.append_nil]; exact hi vs H1 Q q)
theorem pe_new0 (D : New X.prog X.w X.K X.mg X.base k x sp) (hr : Room m X.A) (hk : k + 1 ≤ m := by decide) (hg : Gl X x := by rfl)
    (hdb : (x == ("__debug__" : Str)) = false := by decide) : PE X (.Call (.Name x p) [] [] pos) (tDef sp tNil) := by
  obtain ⟨C, f, fd, ps, si, M, F, h1, h3, hi⟩ := D.ex
  intro pins s σ H Q I h
  refine wpAny_Call_Name_kw (ld_glob I hg h1 ?_ hdb)
  exact PySem.W.callWith_K0 I.kIn M.kp (run_make (us := []) M F (hr.mono hk) h3 .nil pass0 I .nil (hi [] H Q h))
def tMth (C : Addr) (m : Str) (sp : Sp) (ta : TE) (t : TA) : TE := fun σ H Q => ta σ H fun x H1 => ∃ a dx fs, x = .ref a ∧ H1 a = some (.ins C dx fs) ∧ fs.lookup m = none ∧ t σ H1 fun vs H2 => sp (x :: vs) H2 Q E0
theorem pe_mth {pl : Sem Bool} {o : Expr} {ta : TE} {C : Addr} {me : Str} {f : Addr} {fd : FuncData} {ps : List Str} {apos : Pos} (M : Mth X.prog X.w X.K X.mg X.base k C me sp f fd ps) (ho : PE X o ta) (hr : Room m X.A) (ha : PA X (e :: es) t) (hk : k ≤ m := by decide)
    (hst : starEach (e :: es) X.env = (false, eval e X.env) :: starEach es X.env := by rfl) (hpl : (backTo pos (starEach es X.env)).any (·.1) = false := by rfl)
    (ht : eval (.Call (.Attribute o me apos) (e :: es) [] pos) X.env = (do
      let ov ← eval o X.env
      standAt apos.atName
      let (f, first) ← holding [ov] (getMethod ov me pl)
      callWith pos f first (backTo pos (starEach (e :: es) X.env)) (backToKw pos (keywordEach [] X.env))) := by rfl) :
    PE X (.Call (.Attribute o me apos) (e :: es) [] pos) (tMth C me sp ta t) := by
  have A := pe_meth (pl := pl) (E := E0) ho M.cl M.me M.ok (hr.mono hk) M.bi .nil pass0 ha hst hpl ht
  unfold tMeth at A
  simp only [List.append_nil] at A
  exact A
theorem pe_mth0 {pl : Sem Bool} {o : Expr} {ta : TE} {C : Addr} {me : Str} {f : Addr} {fd : FuncData} {ps : List Str} {apos : Pos} (M : Mth X.prog X.w X.K X.mg X.base k C me sp f fd ps) (ho : PE X o ta) (hr : Room m X.A) (hk : k ≤ m := by decide)
    (ht : eval (.Call (.Attribute o me apos) [] [] pos) X.env = (do
      let ov ← eval o X.env
      standAt apos.atName
      let (f, first) ← holding [ov] (getMethod ov me pl)
      callWith pos f first (backTo pos (starEach [] X.env)) (backToKw pos (keywordEach [] X.env))) := by rfl) :
    PE X (.Call (.Attribute o me apos) [] [] pos) (tMth C me sp ta tNil) := by
  have A := pe_meth0 (pl := pl) (E := E0) ho M.cl M.me M.ok (hr.mono hk) M.bi .nil pass0 ht
  unfold tMeth at A
  simp only [List.append_nil] at A
  exact A
end
end Ck

set_option Elab.async false
set_option linter.all false
set_option maxRecDepth 100000
set_option maxHeartbeats 4000000
namespace Ck
open PySem PySem.Spec PyProof.Rows L2
section
variable {X : Cx}
def rNeNil : R2 := fun x y H Q => ∃ l q xs, x = .ref l ∧ y = .ref q ∧ H l = some (.lst xs) ∧ H q = some (.lst []) ∧ Q (.bl (!xs.isEmpty)) H
theorem op_neNil (hu : X.A.units < cLine) : OpR X (compareOp .NotEq) rNeNil := by
  intro pins s σ H x y v u Q I rx ry h
  obtain ⟨l, q, xs, rfl, rfl, hl, hq, k⟩ := h
  cases rx
  cases ry
  obtain ⟨its, rv, pl, _⟩ := I.list (SqL.of hl)
  obtain ⟨its2, rv2, pl2, _⟩ := I.list (SqL.of hq)
  cases rv2
  cases rv with
  | nil => exact PySem.SeqAt.RcNeAt.lists (e := fun _ => true) pl.isList pl2.isList rfl hu (fun j h1 _ => absurd h1 (Nat.not_lt_zero _)) _ _ _ _ ⟨.bl false, H, I, rfl, k⟩
  | cons r1 r2 => exact PySem.SeqAt.RcNeAt.lists_lengths pl.isList pl2.isList (by simp) hu _ _ _ _ ⟨.bl true, H, I, rfl, k⟩
end
section
variable {X : Cx} {pos : Pos}
theorem pe_fldB (K : PySem.W.Frag) {e : Expr} {f : Str} {ta : TE} (he : PE X e ta) (hb : attributeBase e f X.env (eval e X.env) = eval e X.env) (hK : X.K = K := by rfl) : PE X (.Attribute e f pos) (tFld K ta f) := by
  subst hK
  exact pe_fld he hb
theorem pg_tupB (K : PySem.W.Frag) (n : Nat) {es : List Expr} {k : Nat} {t : TGs} (hc : X.calm = true) (h : PGs X es t) (hn : (assignEach es X.env).length = n := by rfl) (hst : (assignEach es X.env).findIdx? (·.1) = none := by rfl) (hK : X.K = K := by rfl) : PG X (.Tuple es k pos) (gTup K n t) := by
  subst hK
  exact pg_tup hc h hn hst
end
theorem lc_go {σ2 : L2.St} {H2 : Hp} {A B : Hp → Prop} (h : A H2) : tYes σ2 H2 fun b H3 => if b = true then A H3 else B H3 := by
  show if true = true then A H2 else B H2
  rw [if_pos rfl]
  exact h
structure Grown (H0 H : Hp) (l : Addr) (xs : List V) : Prop where
  same : Same H0 H
  new : H0 l = none
  lst : H l = some (.lst xs)
theorem Grown.ints {H0 H : Hp} {l : Addr} {L : List Int} (h : Grown H0 H l (L.map V.int)) : IntsAt H0 H l L := ⟨h.same, h.new, h.lst⟩
theorem IntsAt.grown {H0 H : Hp} {l : Addr} {L : List Int} (h : IntsAt H0 H l L) : Grown H0 H l (L.map V.int) := ⟨h.same, h.new, h.lst⟩
theorem Grown.grow {H0 H H' : Hp} {l : Addr} {xs : List V} (h : Grown H0 H l xs) (k : Same H H') : Grown H0 H' l xs := ⟨h.same.trans k, h.new, k _ _ h.lst⟩
theorem Grown.start {H0 H : Hp} {l : Addr} {xs : List V} (k : Same H0 H) (n : H l = none) : Grown H0 (upd H l (.lst xs)) l xs := ⟨fun a o e => by rw [upd_ne (ne_of_none (k _ _ e) n)]; exact k _ _ e, k.free n, upd_same⟩
theorem Grown.put {H0 H H1 : Hp} {l : Addr} {xs ys : List V} (h : Grown H0 H l xs) (k : Same H H1) : Grown H0 (upd H1 l (.lst ys)) l ys :=
  ⟨fun a o e => by rw [upd_ne (ne_of_none e h.new)]; exact k _ _ (h.same _ _ e), h.new, upd_same⟩
theorem Grown.back {H0 H1 H : Hp} {l : Addr} {xs : List V} (k : Same H0 H1) (h : Grown H1 H l xs) : Grown H0 H l xs := ⟨k.trans h.same, k.free h.new, h.lst⟩
theorem gput {H1 H' H4 : Hp} {D : Addr} {ys : List V} {y : V} {R : Nat → List V → Hp → Prop} {i : Nat} (G : Grown H1 H' D ys) (k : Same H' H4) (hl : ys.length < sizeLine) (r : R (i + 1) (ys ++ [y]) (upd H4 D (.lst (ys ++ [y])))) :
    ∃ acc, H4 D = some (.lst acc) ∧ acc.length < sizeLine ∧ ∃ zs, Grown H1 (upd H4 D (.lst (acc ++ [y]))) D zs ∧ R (i + 1) zs (upd H4 D (.lst (acc ++ [y]))) := ⟨ys, k _ _ G.lst, hl, _, G.put k, r⟩
theorem lc_zip {K : PySem.W.Frag} {a b : Addr} {xs ys : List V} {g : TG} {tt : TT} {te : TE} {vs : List Nat} {σ : L2.St} {H1 : Hp} {D : Addr} {Qd : Hp → Prop} (hlen : xs.length = ys.length) (Pv : Nat → Hp → Prop) (h0 : Pv 0 (upd H1 D (.lst []))) (hl : ∀ i H, i ≤ xs.length → Pv i H → SqL K H a xs ∧ SqL K H b ys)
    (hs : ∀ i x y T H, xs[i]? = some x → ys[i]? = some y → Pv i H → H T = none → g (.ref T) (wipe σ vs) (upd H T (.tup [x, y])) fun σ2 H2 => wipe σ2 vs = wipe σ vs ∧ tt σ2 H2 fun b H3 =>
      if b = true then te σ2 H3 fun y H4 => ∃ acc, H4 D = some (.lst acc) ∧ acc.length < sizeLine ∧ Pv (i + 1) (upd H4 D (.lst (acc ++ [y]))) else Pv (i + 1) H3) (hd : ∀ H, Pv xs.length H → Qd H) :
    ∃ W : Nat → Nat → Hp → Prop, (∃ m, W 0 m (upd H1 D (.lst []))) ∧ ∀ i m H, W i m H →
      ((Itz K a b).stop i H ∧ Qd H) ∨ ((Itz K a b).go i H ∧ ∃ Nx : Hp → Prop, (∀ H', Nx H' → ∃ m', m' < m ∧ W (i + 1) m' H') ∧ ∀ x H', (Itz K a b).yld i H x H' → g x (wipe σ vs) H' fun σ2 H2 => wipe σ2 vs = wipe σ vs ∧ tt σ2 H2 fun b H3 =>
        if b = true then te σ2 H3 fun y H4 => ∃ acc, H4 D = some (.lst acc) ∧ acc.length < sizeLine ∧ Nx (upd H4 D (.lst (acc ++ [y]))) else Nx H3) := by
  refine ⟨fun i m H => m = xs.length - i ∧ i ≤ xs.length ∧ Pv i H, ⟨xs.length, by simp, Nat.zero_le _, h0⟩, ?_⟩
  rintro i m H ⟨rfl, hi, p⟩
  obtain ⟨q, q2⟩ := hl i H hi p
  by_cases hlt : i < xs.length
  · refine .inr ⟨⟨xs, ys, xs[i], ys[i], q, q2, by simp [hlt], by simp [← hlen, hlt]⟩, Pv (i + 1), fun H' p' => ⟨xs.length - (i + 1), by omega, rfl, hlt, p'⟩, fun v H' y => ?_⟩
    obtain ⟨T, x, y, rfl, hT, rfl, hx, hy⟩ := y
    exact hs i x y T H (hx xs q) (hy ys q2) p hT
  · have e : i = xs.length := by omega
    subst e
    exact .inl ⟨⟨xs, ys, q, q2, .inl (Nat.le_refl _)⟩, hd H p⟩
theorem for_rev {K : PySem.W.Frag} {a : Addr} {xs : List V} {g : TG} {tb : TS} {D : Ends} {σ : L2.St} {H : Hp} (Pv : Nat → L2.St → Hp → Prop) (h0 : Pv 0 σ H) (hl : ∀ i σ H, i ≤ xs.length → Pv i σ H → SqL K H a xs)
    (hs : ∀ i x σ H, i < xs.length → xs[xs.length - 1 - i]? = some x → Pv i σ H → g x σ H fun σ2 H2 => tb { D with nx := Pv (i + 1), ct := Pv (i + 1), bk := D.nx } σ2 H2) (hd : ∀ σ H, Pv xs.length σ H → D.nx σ H) :
    ∃ W : Nat → Nat → L2.St → Hp → Prop, (∃ m, W 0 m σ H) ∧ ∀ i m σ H, W i m σ H →
      ((Itv K a xs.length).stop i H ∧ D.nx σ H) ∨ ((Itv K a xs.length).go i H ∧ ∃ N : L2.St → Hp → Prop, (∀ σ' H', N σ' H' → ∃ m', m' < m ∧ W (i + 1) m' σ' H') ∧ ∀ x H', (Itv K a xs.length).yld i H x H' → g x σ H' fun σ2 H2 => tb { D with nx := N, ct := N, bk := D.nx } σ2 H2) := by
  refine ⟨fun i m σ H => m = xs.length - i ∧ i ≤ xs.length ∧ Pv i σ H, ⟨xs.length, by simp, Nat.zero_le _, h0⟩, ?_⟩
  rintro i m σ H ⟨rfl, hi, p⟩
  have q := hl i σ H hi p
  by_cases hlt : i < xs.length
  · refine .inr ⟨⟨hlt, xs, xs[xs.length - 1 - i], q, by rw [List.getElem?_eq_getElem]⟩, Pv (i + 1), fun σ' H' p' => ⟨xs.length - (i + 1), by omega, rfl, hlt, p'⟩, fun x H' y => ?_⟩
    obtain ⟨e, y⟩ := y
    subst e
    exact hs i x σ _ hlt (y xs q) p
  · have e : i = xs.length := by omega
    subst e
    exact .inl ⟨Nat.le_refl _, hd σ H p⟩
theorem take_flat {α β : Type} (f : α → List β) (l : List α) {i : Nat} {x : α} (h : l[i]? = some x) : (l.take (i + 1)).flatMap f = (l.take i).flatMap f ++ f x := by
  rw [List.take_succ, h, List.flatMap_append]
  simp
theorem take_snoc {α : Type} {l : List α} {i : Nat} {x : α} (h : l[i]? = some x) : l.take (i + 1) = l.take i ++ [x] := by
  rw [List.take_succ, h]
  rfl
theorem map_at {α : Type} {f : α → V} {l : List α} {i : Nat} {y : V} (h : (l.map f)[i]? = some y) : ∃ a, l[i]? = some a ∧ y = f a := by
  rw [List.getElem?_map] at h
  cases e : l[i]? with
  | none => rw [e] at h; cases h
  | some a => rw [e] at h; exact ⟨a, rfl, (Option.some.inj h).symm⟩
theorem flat_len {α β : Type} (f : α → List β) (n : Nat) (h : ∀ x, (f x).length = n) : ∀ l : List α, (l.flatMap f).length = n * l.length
  | [] => by simp
  | a :: l => by
    rw [List.flatMap_cons, List.length_append, flat_len f n h l, h a, List.length_cons, Nat.mul_add, Nat.mul_one, Nat.add_comm]
theorem lit_small {n : Nat} (h : n ≤ 100000) : n < sizeLine := Nat.lt_of_le_of_lt h (by decide)
theorem lit_le {n : Nat} (h : n ≤ 100000) : n ≤ sizeLine := Nat.le_of_lt (lit_small h)
end Ck

set_option Elab.async false
set_option linter.all false
set_option maxRecDepth 100000
set_option maxHeartbeats 4000000
namespace Ck
open PySem PySem.Spec PyProof.Rows L2
def top (i : Nat) : Stmt := PySem.Challenge.pw_clocktimes_s01_answers.main.body.getD i (.Pass ⟨0, 0, 0, 0⟩)
abbrev s_Chip_init : Stmt := inClass (top 12) 0
abbrev s_Path_init : Stmt := inClass (top 13) 0
abbrev s_Board_init : Stmt := inClass (top 14) 0
abbrev s_has_chip : Stmt := top 15
abbrev s_has_path : Stmt := top 16
abbrev s_fits : Stmt := top 17
abbrev s_is_margin : Stmt := top 18
abbrev s_is_period : Stmt := top 19
abbrev s_are_bounds : Stmt := top 20
abbrev s_are_delays : Stmt := top 21
abbrev s_set_margins : Stmt := top 23
abbrev s_add_chip : Stmt := top 24
abbrev s_add_path : Stmt := top 25
abbrev s_set_bounds : Stmt := top 26
abbrev s_set_delays : Stmt := top 27
abbrev s_take_away : Stmt := top 28
abbrev s_clear_all : Stmt := top 29
abbrev s_shift : Stmt := top 30
abbrev s_sums_at_goal : Stmt := top 32
abbrev s_with_one_more : Stmt := top 33
abbrev s_closes : Stmt := top 34
abbrev s_beginnings : Stmt := top 35
abbrev s_ways_on : Stmt := top 36
abbrev s_ring_from : Stmt := top 37
abbrev s_least_ring : Stmt := top 38
abbrev s_Rule_init : Stmt := inClass (top 44) 0
abbrev s_zero_of : Stmt := top 45
abbrev s_chip_rules : Stmt := top 46
abbrev s_path_rules : Stmt := top 47
abbrev s_rules_of : Stmt := top 48
abbrev s_what_is_left : Stmt := top 49
abbrev s_missed_rules : Stmt := top 50
abbrev s_told_rules : Stmt := top 51
abbrev s_turned : Stmt := top 53
abbrev s_lessen : Stmt := top 54
abbrev s_least_sums : Stmt := top 55
abbrev s_some_row_is_right : Stmt := top 57
abbrev s_feasible : Stmt := top 58
abbrev s_early : Stmt := top 59
abbrev s_late : Stmt := top 60
abbrev s_apart : Stmt := top 61
abbrev s_ring : Stmt := top 62
abbrev s_least : Stmt := top 63
abbrev s_reserve : Stmt := top 64
abbrev s_list_all : Stmt := top 66
abbrev s_refusal_of : Stmt := top 67
abbrev s_check : Stmt := top 68
abbrev s_slacks : Stmt := top 69
abbrev s_sooner : Stmt := top 70
abbrev s_later : Stmt := top 71
abbrev s_Reader_init : Stmt := inClass (top 73) 0
abbrev s_Reader_at_end : Stmt := inClass (top 73) 1
abbrev s_Reader_read_number : Stmt := inClass (top 73) 2
abbrev s_Reader_read_numbers : Stmt := inClass (top 73) 3
abbrev s_Reader_read_rows : Stmt := inClass (top 73) 4
abbrev s_change : Stmt := top 96
abbrev s_look_at : Stmt := top 97
abbrev s_find : Stmt := top 98
abbrev s_compare : Stmt := top 99
abbrev s_answer_call : Stmt := top 100
abbrev s_answers : Stmt := top 101
abbrev ps_Chip_init : List Str := ["self", "lo", "hi"]
theorem sc_Chip_init : FnScope ["self", "lo", "hi"] ["self", "lo", "hi"] (defScope s_Chip_init) := ⟨rfl, rfl, rfl, by decide +kernel, rfl, by decide +kernel, by decide +kernel⟩
abbrev ps_Path_init : List Str := ["self", "i", "j", "d", "e"]
theorem sc_Path_init : FnScope ["self", "i", "j", "d", "e"] ["self", "i", "j", "d", "e"] (defScope s_Path_init) := ⟨rfl, rfl, rfl, by decide +kernel, rfl, by decide +kernel, by decide +kernel⟩
abbrev ps_Board_init : List Str := ["self"]
theorem sc_Board_init : FnScope ["self"] ["self"] (defScope s_Board_init) := ⟨rfl, rfl, rfl, by decide +kernel, rfl, by decide +kernel, by decide +kernel⟩
abbrev ps_has_chip : List Str := ["board", "number"]
theorem sc_has_chip : FnScope ["board", "number"] ["board", "number"] (defScope s_has_chip) := ⟨rfl, rfl, rfl, by decide +kernel, rfl, by decide +kernel, by decide +kernel⟩
abbrev ps_has_path : List Str := ["board", "number"]
theorem sc_has_path : FnScope ["board", "number"] ["board", "number"] (defScope s_has_path) := ⟨rfl, rfl, rfl, by decide +kernel, rfl, by decide +kernel, by decide +kernel⟩
abbrev ps_fits : List Str := ["board", "times"]
theorem sc_fits : FnScope ["board", "times"] ["board", "times"] (defScope s_fits) := ⟨rfl, rfl, rfl, by decide +kernel, rfl, by decide +kernel, by decide +kernel⟩
abbrev ps_is_margin : List Str := ["number"]
theorem sc_is_margin : FnScope ["number"] ["number"] (defScope s_is_margin) := ⟨rfl, rfl, rfl, by decide +kernel, rfl, by decide +kernel, by decide +kernel⟩
abbrev ps_is_period : List Str := ["number"]
theorem sc_is_period : FnScope ["number"] ["number"] (defScope s_is_period) := ⟨rfl, rfl, rfl, by decide +kernel, rfl, by decide +kernel, by decide +kernel⟩
abbrev ps_are_bounds : List Str := ["lo", "hi"]
theorem sc_are_bounds : FnScope ["lo", "hi"] ["lo", "hi"] (defScope s_are_bounds) := ⟨rfl, rfl, rfl, by decide +kernel, rfl, by decide +kernel, by decide +kernel⟩
abbrev ps_are_delays : List Str := ["d", "e"]
theorem sc_are_delays : FnScope ["d", "e"] ["d", "e"] (defScope s_are_delays) := ⟨rfl, rfl, rfl, by decide +kernel, rfl, by decide +kernel, by decide +kernel⟩
abbrev ps_set_margins : List Str := ["board", "setup", "hold"]
theorem sc_set_margins : FnScope ["board", "setup", "hold"] ["board", "setup", "hold"] (defScope s_set_margins) := ⟨rfl, rfl, rfl, by decide +kernel, rfl, by decide +kernel, by decide +kernel⟩
abbrev ps_add_chip : List Str := ["board", "lo", "hi"]
theorem sc_add_chip : FnScope ["board", "lo", "hi"] ["board", "lo", "hi"] (defScope s_add_chip) := ⟨rfl, rfl, rfl, by decide +kernel, rfl, by decide +kernel, by decide +kernel⟩
abbrev ps_add_path : List Str := ["board", "i", "j", "d", "e"]
theorem sc_add_path : FnScope ["board", "i", "j", "d", "e"] ["board", "i", "j", "d", "e"] (defScope s_add_path) := ⟨rfl, rfl, rfl, by decide +kernel, rfl, by decide +kernel, by decide +kernel⟩
abbrev ps_set_bounds : List Str := ["board", "number", "lo", "hi"]
theorem sc_set_bounds : FnScope ["board", "number", "lo", "hi"] ["board", "number", "lo", "hi"] (defScope s_set_bounds) := ⟨rfl, rfl, rfl, by decide +kernel, rfl, by decide +kernel, by decide +kernel⟩
abbrev ps_set_delays : List Str := ["board", "number", "d", "e"]
theorem sc_set_delays : FnScope ["board", "number", "d", "e", "path"] ["board", "number", "d", "e"] (defScope s_set_delays) := ⟨rfl, rfl, rfl, by decide +kernel, rfl, by decide +kernel, by decide +kernel⟩
abbrev ps_take_away : List Str := ["board", "number"]
theorem sc_take_away : FnScope ["board", "number"] ["board", "number"] (defScope s_take_away) := ⟨rfl, rfl, rfl, by decide +kernel, rfl, by decide +kernel, by decide +kernel⟩
abbrev ps_clear_all : List Str := ["board"]
theorem sc_clear_all : FnScope ["board"] ["board"] (defScope s_clear_all) := ⟨rfl, rfl, rfl, by decide +kernel, rfl, by decide +kernel, by decide +kernel⟩
abbrev ps_shift : List Str := ["board", "c"]
theorem sc_shift : FnScope ["board", "c", "shifted", "chip"] ["board", "c"] (defScope s_shift) := ⟨rfl, rfl, rfl, by decide +kernel, rfl, by decide +kernel, by decide +kernel⟩
abbrev ps_sums_at_goal : List Str := ["places", "goal"]
theorem sc_sums_at_goal : FnScope ["places", "goal", "sums"] ["places", "goal"] (defScope s_sums_at_goal) := ⟨rfl, rfl, rfl, by decide +kernel, rfl, by decide +kernel, by decide +kernel⟩
abbrev ps_with_one_more : List Str := ["sums", "rules"]
theorem sc_with_one_more : FnScope ["sums", "rules", "longer", "rule", "rest", "total"] ["sums", "rules"] (defScope s_with_one_more) := ⟨rfl, rfl, rfl, by decide +kernel, rfl, by decide +kernel, by decide +kernel⟩
abbrev ps_closes : List Str := ["rule", "sums", "so_far"]
theorem sc_closes : FnScope ["rule", "sums", "so_far", "rest"] ["rule", "sums", "so_far"] (defScope s_closes) := ⟨rfl, rfl, rfl, by decide +kernel, rfl, by decide +kernel, by decide +kernel⟩
abbrev ps_beginnings : List Str := ["rules", "tables"]
theorem sc_beginnings : FnScope ["rules", "tables", "rule"] ["rules", "tables"] (defScope s_beginnings) := ⟨rfl, rfl, rfl, by decide +kernel, rfl, by decide +kernel, by decide +kernel⟩
abbrev ps_ways_on : List Str := ["rules", "where", "sums", "so_far"]
theorem sc_ways_on : FnScope ["rules", "where", "sums", "so_far", "rule"] ["rules", "where", "sums", "so_far"] (defScope s_ways_on) := ⟨rfl, rfl, rfl, by decide +kernel, rfl, by decide +kernel, by decide +kernel⟩
abbrev ps_ring_from : List Str := ["first", "rules", "table"]
theorem sc_ring_from : FnScope ["first", "rules", "table", "ring", "so_far", "sums", "rule"] ["first", "rules", "table"] (defScope s_ring_from) := ⟨rfl, rfl, rfl, by decide +kernel, rfl, by decide +kernel, by decide +kernel⟩
abbrev ps_least_ring : List Str := ["rules", "zero"]
theorem sc_least_ring : FnScope ["rules", "zero", "places", "tables", "goal", "length", "firsts", "table"] ["rules", "zero"] (defScope s_least_ring) := ⟨rfl, rfl, rfl, by decide +kernel, rfl, by decide +kernel, by decide +kernel⟩
abbrev ps_Rule_init : List Str := ["self", "kind", "number", "begin", "end", "bound"]
theorem sc_Rule_init : FnScope ["self", "kind", "number", "begin", "end", "bound"] ["self", "kind", "number", "begin", "end", "bound"] (defScope s_Rule_init) := ⟨rfl, rfl, rfl, by decide +kernel, rfl, by decide +kernel, by decide +kernel⟩
abbrev ps_zero_of : List Str := ["board"]
theorem sc_zero_of : FnScope ["board"] ["board"] (defScope s_zero_of) := ⟨rfl, rfl, rfl, by decide +kernel, rfl, by decide +kernel, by decide +kernel⟩
abbrev ps_chip_rules : List Str := ["board"]
theorem sc_chip_rules : FnScope ["board", "zero", "rules", "number", "chip"] ["board"] (defScope s_chip_rules) := ⟨rfl, rfl, rfl, by decide +kernel, rfl, by decide +kernel, by decide +kernel⟩
abbrev ps_path_rules : List Str := ["board", "period", "growth"]
theorem sc_path_rules : FnScope ["board", "period", "growth", "setup", "hold", "rules", "number", "path"] ["board", "period", "growth"] (defScope s_path_rules) := ⟨rfl, rfl, rfl, by decide +kernel, rfl, by decide +kernel, by decide +kernel⟩
abbrev ps_rules_of : List Str := ["board", "period", "growth"]
theorem sc_rules_of : FnScope ["board", "period", "growth"] ["board", "period", "growth"] (defScope s_rules_of) := ⟨rfl, rfl, rfl, by decide +kernel, rfl, by decide +kernel, by decide +kernel⟩
abbrev ps_what_is_left : List Str := ["rules", "row"]
theorem sc_what_is_left : FnScope ["rules", "row", "times", "rule"] ["rules", "row"] (defScope s_what_is_left) := ⟨rfl, rfl, rfl, by decide +kernel, rfl, by decide +kernel, by decide +kernel⟩
abbrev ps_missed_rules : List Str := ["rules", "row"]
theorem sc_missed_rules : FnScope ["rules", "row", "rule", "left"] ["rules", "row"] (defScope s_missed_rules) := ⟨rfl, rfl, rfl, by decide +kernel, rfl, by decide +kernel, by decide +kernel⟩
abbrev ps_told_rules : List Str := ["rules"]
theorem sc_told_rules : FnScope ["rules", "told", "rule"] ["rules"] (defScope s_told_rules) := ⟨rfl, rfl, rfl, by decide +kernel, rfl, by decide +kernel, by decide +kernel⟩
abbrev ps_turned : List Str := ["rules"]
theorem sc_turned : FnScope ["rules", "rule"] ["rules"] (defScope s_turned) := ⟨rfl, rfl, rfl, by decide +kernel, rfl, by decide +kernel, by decide +kernel⟩
abbrev ps_lessen : List Str := ["sums", "rules"]
theorem sc_lessen : FnScope ["sums", "rules", "lessened", "rule", "so_far", "total"] ["sums", "rules"] (defScope s_lessen) := ⟨rfl, rfl, rfl, by decide +kernel, rfl, by decide +kernel, by decide +kernel⟩
abbrev ps_least_sums : List Str := ["rules", "zero", "start"]
theorem sc_least_sums : FnScope ["rules", "zero", "start", "places", "sums", "turn"] ["rules", "zero", "start"] (defScope s_least_sums) := ⟨rfl, rfl, rfl, by decide +kernel, rfl, by decide +kernel, by decide +kernel⟩
abbrev ps_some_row_is_right : List Str := ["board", "period", "growth"]
theorem sc_some_row_is_right : FnScope ["board", "period", "growth", "zero"] ["board", "period", "growth"] (defScope s_some_row_is_right) := ⟨rfl, rfl, rfl, by decide +kernel, rfl, by decide +kernel, by decide +kernel⟩
abbrev ps_feasible : List Str := ["board", "period"]
theorem sc_feasible : FnScope ["board", "period"] ["board", "period"] (defScope s_feasible) := ⟨rfl, rfl, rfl, by decide +kernel, rfl, by decide +kernel, by decide +kernel⟩
abbrev ps_early : List Str := ["board", "period"]
theorem sc_early : FnScope ["board", "period", "zero", "sums", "total"] ["board", "period"] (defScope s_early) := ⟨rfl, rfl, rfl, by decide +kernel, rfl, by decide +kernel, by decide +kernel⟩
abbrev ps_late : List Str := ["board", "period"]
theorem sc_late : FnScope ["board", "period", "zero", "sums"] ["board", "period"] (defScope s_late) := ⟨rfl, rfl, rfl, by decide +kernel, rfl, by decide +kernel, by decide +kernel⟩
abbrev ps_apart : List Str := ["board", "period", "i", "j"]
theorem sc_apart : FnScope ["board", "period", "i", "j", "rules", "from_i", "from_j"] ["board", "period", "i", "j"] (defScope s_apart) := ⟨rfl, rfl, rfl, by decide +kernel, rfl, by decide +kernel, by decide +kernel⟩
abbrev ps_ring : List Str := ["board", "period"]
theorem sc_ring : FnScope ["board", "period", "found", "rule"] ["board", "period"] (defScope s_ring) := ⟨rfl, rfl, rfl, by decide +kernel, rfl, by decide +kernel, by decide +kernel⟩
abbrev ps_least : List Str := ["board"]
theorem sc_least : FnScope ["board", "low", "high", "middle"] ["board"] (defScope s_least) := ⟨rfl, rfl, rfl, by decide +kernel, rfl, by decide +kernel, by decide +kernel⟩
abbrev ps_reserve : List Str := ["board", "period", "most"]
theorem sc_reserve : FnScope ["board", "period", "most", "low", "high", "middle"] ["board", "period", "most"] (defScope s_reserve) := ⟨rfl, rfl, rfl, by decide +kernel, rfl, by decide +kernel, by decide +kernel⟩
abbrev ps_list_all : List Str := ["board"]
theorem sc_list_all : FnScope ["board", "told", "chip", "path"] ["board"] (defScope s_list_all) := ⟨rfl, rfl, rfl, by decide +kernel, rfl, by decide +kernel, by decide +kernel⟩
abbrev ps_refusal_of : List Str := ["board", "period", "times"]
theorem sc_refusal_of : FnScope ["board", "period", "times"] ["board", "period", "times"] (defScope s_refusal_of) := ⟨rfl, rfl, rfl, by decide +kernel, rfl, by decide +kernel, by decide +kernel⟩
abbrev ps_check : List Str := ["board", "period", "times"]
theorem sc_check : FnScope ["board", "period", "times", "refusal"] ["board", "period", "times"] (defScope s_check) := ⟨rfl, rfl, rfl, by decide +kernel, rfl, by decide +kernel, by decide +kernel⟩
abbrev ps_slacks : List Str := ["board", "period", "times"]
theorem sc_slacks : FnScope ["board", "period", "times", "refusal", "left"] ["board", "period", "times"] (defScope s_slacks) := ⟨rfl, rfl, rfl, by decide +kernel, rfl, by decide +kernel, by decide +kernel⟩
abbrev ps_sooner : List Str := ["board", "one", "other"]
theorem sc_sooner : FnScope ["board", "one", "other", "first", "second"] ["board", "one", "other"] (defScope s_sooner) := ⟨rfl, rfl, rfl, by decide +kernel, rfl, by decide +kernel, by decide +kernel⟩
abbrev ps_later : List Str := ["board", "one", "other"]
theorem sc_later : FnScope ["board", "one", "other", "first", "second"] ["board", "one", "other"] (defScope s_later) := ⟨rfl, rfl, rfl, by decide +kernel, rfl, by decide +kernel, by decide +kernel⟩
abbrev ps_Reader_init : List Str := ["self", "calls"]
theorem sc_Reader_init : FnScope ["self", "calls"] ["self", "calls"] (defScope s_Reader_init) := ⟨rfl, rfl, rfl, by decide +kernel, rfl, by decide +kernel, by decide +kernel⟩
abbrev ps_Reader_at_end : List Str := ["self"]
theorem sc_Reader_at_end : FnScope ["self"] ["self"] (defScope s_Reader_at_end) := ⟨rfl, rfl, rfl, by decide +kernel, rfl, by decide +kernel, by decide +kernel⟩
abbrev ps_Reader_read_number : List Str := ["self"]
theorem sc_Reader_read_number : FnScope ["self", "number"] ["self"] (defScope s_Reader_read_number) := ⟨rfl, rfl, rfl, by decide +kernel, rfl, by decide +kernel, by decide +kernel⟩
abbrev ps_Reader_read_numbers : List Str := ["self", "how_many"]
theorem sc_Reader_read_numbers : FnScope ["self", "how_many", "numbers", "turn"] ["self", "how_many"] (defScope s_Reader_read_numbers) := ⟨rfl, rfl, rfl, by decide +kernel, rfl, by decide +kernel, by decide +kernel⟩
abbrev ps_Reader_read_rows : List Str := ["self", "how_many"]
theorem sc_Reader_read_rows : FnScope ["self", "how_many", "rows", "turn"] ["self", "how_many"] (defScope s_Reader_read_rows) := ⟨rfl, rfl, rfl, by decide +kernel, rfl, by decide +kernel, by decide +kernel⟩
abbrev ps_change : List Str := ["board", "call", "numbers"]
theorem sc_change : FnScope ["board", "call", "numbers"] ["board", "call", "numbers"] (defScope s_change) := ⟨rfl, rfl, rfl, by decide +kernel, rfl, by decide +kernel, by decide +kernel⟩
abbrev ps_look_at : List Str := ["board", "call", "numbers", "rows"]
theorem sc_look_at : FnScope ["board", "call", "numbers", "rows"] ["board", "call", "numbers", "rows"] (defScope s_look_at) := ⟨rfl, rfl, rfl, by decide +kernel, rfl, by decide +kernel, by decide +kernel⟩
abbrev ps_find : List Str := ["board", "call", "numbers"]
theorem sc_find : FnScope ["board", "call", "numbers"] ["board", "call", "numbers"] (defScope s_find) := ⟨rfl, rfl, rfl, by decide +kernel, rfl, by decide +kernel, by decide +kernel⟩
abbrev ps_compare : List Str := ["board", "call", "rows"]
theorem sc_compare : FnScope ["board", "call", "rows"] ["board", "call", "rows"] (defScope s_compare) := ⟨rfl, rfl, rfl, by decide +kernel, rfl, by decide +kernel, by decide +kernel⟩
abbrev ps_answer_call : List Str := ["board", "call", "numbers", "rows"]
theorem sc_answer_call : FnScope ["board", "call", "numbers", "rows"] ["board", "call", "numbers", "rows"] (defScope s_answer_call) := ⟨rfl, rfl, rfl, by decide +kernel, rfl, by decide +kernel, by decide +kernel⟩
abbrev ps_answers : List Str := ["calls"]
theorem sc_answers : FnScope ["calls", "board", "reader", "told", "call", "numbers", "rows", "answer"] ["calls"] (defScope s_answers) := ⟨rfl, rfl, rfl, by decide +kernel, rfl, by decide +kernel, by decide +kernel⟩
structure Txt (K : PySem.W.Frag) (mg : Str → Option Value) (cC cP cB cR cU : Addr) : Prop where
  clC : Cls K cC
  clP : Cls K cP
  clB : Cls K cB
  clR : Cls K cR
  clU : Cls K cU
  lo : NoAttr K cC "lo"
  hi : NoAttr K cC "hi"
  i : NoAttr K cP "i"
  j : NoAttr K cP "j"
  d : NoAttr K cP "d"
  e : NoAttr K cP "e"
  setup : NoAttr K cB "setup"
  hold : NoAttr K cB "hold"
  chips : NoAttr K cB "chips"
  paths : NoAttr K cB "paths"
  calls : NoAttr K cR "calls"
  place : NoAttr K cR "place"
  kind : NoAttr K cU "kind"
  number : NoAttr K cU "number"
  begin_ : NoAttr K cU "begin"
  end_ : NoAttr K cU "end"
  bound : NoAttr K cU "bound"
  b_len : mg "len" = none
  b_range : mg "range" = none
  b_enumerate : mg "enumerate" = none
  b_zip : mg "zip" = none
  b_reversed : mg "reversed" = none
  b_min : mg "min" = none
  b_max : mg "max" = none
  b_sum : mg "sum" = none
  b_all : mg "all" = none
  c_NO_CHIP : ∃ t, mg "NO_CHIP" = some (.int (-1) t)
  c_OUT_OF_RANGE : ∃ t, mg "OUT_OF_RANGE" = some (.int (-2) t)
  c_WRONG_LENGTH : ∃ t, mg "WRONG_LENGTH" = some (.int (-3) t)
  c_FULL : ∃ t, mg "FULL" = some (.int (-4) t)
  c_NO_PATH : ∃ t, mg "NO_PATH" = some (.int (-5) t)
  c_NO_ROW : ∃ t, mg "NO_ROW" = some (.int (-8) t)
  c_NO_PERIOD : ∃ t, mg "NO_PERIOD" = some (.int (-9) t)
  c_MOST_CHIPS : ∃ t, mg "MOST_CHIPS" = some (.int (16) t)
  c_MOST_PATHS : ∃ t, mg "MOST_PATHS" = some (.int (48) t)
  c_GREATEST_TIME : ∃ t, mg "GREATEST_TIME" = some (.int (100000000) t)
  c_GREATEST_PERIOD : ∃ t, mg "GREATEST_PERIOD" = some (.int (2000000000) t)
  c_KIND_HI : ∃ t, mg "KIND_HI" = some (.int (0) t)
  c_KIND_LO : ∃ t, mg "KIND_LO" = some (.int (1) t)
  c_KIND_SETUP : ∃ t, mg "KIND_SETUP" = some (.int (2) t)
  c_KIND_HOLD : ∃ t, mg "KIND_HOLD" = some (.int (3) t)
  c_MARGINS : ∃ t, mg "MARGINS" = some (.int (0) t)
  c_CHIP : ∃ t, mg "CHIP" = some (.int (1) t)
  c_PATH : ∃ t, mg "PATH" = some (.int (2) t)
  c_BOUND : ∃ t, mg "BOUND" = some (.int (3) t)
  c_DELAY : ∃ t, mg "DELAY" = some (.int (4) t)
  c_AWAY : ∃ t, mg "AWAY" = some (.int (5) t)
  c_CLEAR : ∃ t, mg "CLEAR" = some (.int (6) t)
  c_LIST : ∃ t, mg "LIST" = some (.int (7) t)
  c_CHECK : ∃ t, mg "CHECK" = some (.int (8) t)
  c_SLACKS : ∃ t, mg "SLACKS" = some (.int (9) t)
  c_FEASIBLE : ∃ t, mg "FEASIBLE" = some (.int (10) t)
  c_EARLY : ∃ t, mg "EARLY" = some (.int (11) t)
  c_LATE : ∃ t, mg "LATE" = some (.int (12) t)
  c_APART : ∃ t, mg "APART" = some (.int (13) t)
  c_RING : ∃ t, mg "RING" = some (.int (14) t)
  c_LEAST : ∃ t, mg "LEAST" = some (.int (15) t)
  c_RESERVE : ∃ t, mg "RESERVE" = some (.int (16) t)
  c_SOONER : ∃ t, mg "SOONER" = some (.int (17) t)
  c_SHIFT : ∃ t, mg "SHIFT" = some (.int (19) t)
def chipF (lo hi : Int) : List (Str × V) := [("lo", .int lo), ("hi", .int hi)]
theorem chipF_lo (lo hi : Int) : (chipF lo hi).lookup ("lo" : Str) = some (V.int lo) := by rfl
theorem chipF_hi (lo hi : Int) : (chipF lo hi).lookup ("hi" : Str) = some (V.int hi) := by rfl
def pathF (i j d e : Int) : List (Str × V) := [("i", .int i), ("j", .int j), ("d", .int d), ("e", .int e)]
theorem pathF_i (i j d e : Int) : (pathF i j d e).lookup ("i" : Str) = some (V.int i) := by rfl
theorem pathF_j (i j d e : Int) : (pathF i j d e).lookup ("j" : Str) = some (V.int j) := by rfl
theorem pathF_d (i j d e : Int) : (pathF i j d e).lookup ("d" : Str) = some (V.int d) := by rfl
theorem pathF_e (i j d e : Int) : (pathF i j d e).lookup ("e" : Str) = some (V.int e) := by rfl
def boardF (s h : Int) (c p : Addr) : List (Str × V) := [("setup", .int s), ("hold", .int h), ("chips", .ref c), ("paths", .ref p)]
theorem boardF_setup (s h : Int) (c p : Addr) : (boardF s h c p).lookup ("setup" : Str) = some (V.int s) := by rfl
theorem boardF_hold (s h : Int) (c p : Addr) : (boardF s h c p).lookup ("hold" : Str) = some (V.int h) := by rfl
theorem boardF_chips (s h : Int) (c p : Addr) : (boardF s h c p).lookup ("chips" : Str) = some (V.ref c) := by rfl
theorem boardF_paths (s h : Int) (c p : Addr) : (boardF s h c p).lookup ("paths" : Str) = some (V.ref p) := by rfl
theorem boardF_put_setup (s h z : Int) (c p : Addr) : putF "setup" (.int z) (boardF s h c p) = boardF z h c p := by rfl
theorem boardF_put_hold (s h z : Int) (c p : Addr) : putF "hold" (.int z) (boardF s h c p) = boardF s z c p := by rfl
theorem boardF_put_chips (s h : Int) (c p z : Addr) : putF "chips" (.ref z) (boardF s h c p) = boardF s h z p := by rfl
theorem boardF_put_paths (s h : Int) (c p z : Addr) : putF "paths" (.ref z) (boardF s h c p) = boardF s h c z := by rfl
theorem chipF_len (lo hi : Int) : (chipF lo hi).length = 2 := rfl
theorem pathF_len (i j d e : Int) : (pathF i j d e).length = 4 := rfl
theorem boardF_len (s h : Int) (c p : Addr) : (boardF s h c p).length = 4 := rfl
theorem putF_nil (f : Str) (v : V) : putF f v [] = [(f, v)] := rfl
theorem chip_put (lo hi : Int) : putF "hi" (.int hi) [(("lo" : Str), V.int lo)] = chipF lo hi := by rfl
theorem path_put_j (i j : Int) : putF "j" (.int j) [(("i" : Str), V.int i)] = ([("i", .int i), ("j", .int j)] : List (Str × V)) := by rfl
theorem path_put_d (i j d : Int) : putF "d" (.int d) [(("i" : Str), V.int i), ("j", .int j)] = ([("i", .int i), ("j", .int j), ("d", .int d)] : List (Str × V)) := by rfl
theorem path_put_e (i j d e : Int) : putF "e" (.int e) [(("i" : Str), V.int i), ("j", .int j), ("d", .int d)] = pathF i j d e := by rfl
theorem board_put_hold (s h : Int) : putF "hold" (.int h) [(("setup" : Str), V.int s)] = ([("setup", .int s), ("hold", .int h)] : List (Str × V)) := by rfl
theorem board_put_chips (s h : Int) (c : Addr) : putF "chips" (.ref c) [(("setup" : Str), V.int s), ("hold", .int h)] = ([("setup", .int s), ("hold", .int h), ("chips", .ref c)] : List (Str × V)) := by rfl
theorem board_put_paths (s h : Int) (c p : Addr) : putF "paths" (.ref p) [(("setup" : Str), V.int s), ("hold", .int h), ("chips", .ref c)] = boardF s h c p := by rfl
def ChipAt (cC : Addr) (H : Hp) (a : Addr) (c : Vbpcas.Chip) : Prop := ∃ d, H a = some (.ins cC d (chipF c.lo c.hi))
def PathAt (cP : Addr) (H : Hp) (a : Addr) (q : Vbpcas.Path) : Prop := ∃ d, H a = some (.ins cP d (pathF q.i q.j q.d q.e))
def ruleF (k n b e w : Int) : List (Str × V) := [("kind", .int k), ("number", .int n), ("begin", .int b), ("end", .int e), ("bound", .int w)]
theorem ruleF_kind (k n b e w : Int) : (ruleF k n b e w).lookup ("kind" : Str) = some (V.int k) := by rfl
theorem ruleF_number (k n b e w : Int) : (ruleF k n b e w).lookup ("number" : Str) = some (V.int n) := by rfl
theorem ruleF_begin (k n b e w : Int) : (ruleF k n b e w).lookup ("begin" : Str) = some (V.int b) := by rfl
theorem ruleF_end (k n b e w : Int) : (ruleF k n b e w).lookup ("end" : Str) = some (V.int e) := by rfl
theorem ruleF_bound (k n b e w : Int) : (ruleF k n b e w).lookup ("bound" : Str) = some (V.int w) := by rfl
theorem rule_put_n (k n : Int) : putF "number" (.int n) [(("kind" : Str), V.int k)] = ([("kind", .int k), ("number", .int n)] : List (Str × V)) := by rfl
theorem rule_put_b (k n b : Int) : putF "begin" (.int b) [(("kind" : Str), V.int k), ("number", .int n)] = ([("kind", .int k), ("number", .int n), ("begin", .int b)] : List (Str × V)) := by rfl
theorem rule_put_e (k n b e : Int) : putF "end" (.int e) [(("kind" : Str), V.int k), ("number", .int n), ("begin", .int b)] = ([("kind", .int k), ("number", .int n), ("begin", .int b), ("end", .int e)] : List (Str × V)) := by rfl
theorem rule_put_w (k n b e w : Int) : putF "bound" (.int w) [(("kind" : Str), V.int k), ("number", .int n), ("begin", .int b), ("end", .int e)] = ruleF k n b e w := by rfl
theorem ruleF_len (k n b e w : Int) : (ruleF k n b e w).length = 5 := rfl
def RuleAt (cU : Addr) (H : Hp) (a : Addr) (r : Ru) : Prop := ∃ d, H a = some (.ins cU d (ruleF r.kind r.num r.b r.e r.w))
def RulesAt (cU : Addr) (H : Hp) (l : Addr) (rs : List Ru) : Prop := ∃ as : List Addr, H l = some (.lst (as.map V.ref)) ∧ Paired (RuleAt cU H) as rs
def ov : Option Int → V
  | none => .non
  | some x => .int x
def SumsAt (H : Hp) (l : Addr) (d : Sums) : Prop := H l = some (.lst (d.map ov))
structure BoardAt (cC cP cB : Addr) (H : Hp) (b lc lp : Addr) (s : Vbpcas.State) : Prop where
  at_ : ∃ d, H b = some (.ins cB d (boardF s.setup s.hold lc lp))
  chips : ∃ cs : List Addr, H lc = some (.lst (cs.map V.ref)) ∧ Paired (ChipAt cC H) cs s.chips
  paths : ∃ qs : List Addr, H lp = some (.lst (qs.map V.ref)) ∧ Paired (PathAt cP H) qs s.paths
  ne : lc ≠ lp
theorem size_lit {n : Nat} (h : n ≤ 1000) : (n ≤ sizeLine) = True := eq_true (Nat.le_trans h (by decide))
theorem paired_len {α β : Type} {F : α → β → Prop} {l : List α} {m : List β} (h : Paired F l m) : l.length = m.length := Paired.length h
theorem cxOf_K {CX : CXT} {P : Program} {w : World} {K : PySem.W.Frag} {mg : Str → Option Value} {base : Heap} {N : List Str} {qual : Str} {scope : Scope} {f : Addr} {cd : Value} {A : Around} {outer : List Env} {s : Shared} {H : Hp} {E : XK} : (cxOf CX P w K mg base N qual scope f cd A outer s H E).K = K := rfl
theorem bl_eq {Q : VK} {H : Hp} {a b : Bool} (h : Q (.bl a) H) (e : a = b) : Q (.bl b) H := e ▸ h
end Ck

set_option Elab.async false
set_option linter.all false
set_option maxRecDepth 100000
set_option maxHeartbeats 4000000
namespace Ck
open PySem PySem.Spec PyProof.Rows L2
variable {cC cP cB : Addr} {H H' : Hp} {b lc lp p : Addr} {s : Vbpcas.State}
theorem same_refl (H : Hp) : Same H H := fun _ _ h => h
theorem same_new {H : Hp} {p : Addr} {o : HO} (h : H p = none) : Same H (upd H p o) := fun a u e => by
  rw [upd_ne (ne_of_none e h)]
  exact e
theorem Same.new {H H' : Hp} (k : Same H H') {p : Addr} {o : HO} (h : H' p = none) : Same H (upd H' p o) := k.trans (same_new h)
theorem ne_ins {C C' d d' a a' : Addr} {fs fs' : List (Str × V)} (h : H a = some (.ins C d fs)) (h' : H a' = some (.ins C' d' fs')) (n : fs.length ≠ fs'.length) : a ≠ a' := ne_of h h' (by
  intro q
  injection q with _ _ q
  exact n (by rw [q]))
theorem ne_ins_lst {C d a a' : Addr} {fs : List (Str × V)} {xs : List V} (h : H a = some (.ins C d fs)) (h' : H a' = some (.lst xs)) : a ≠ a' := ne_of h h' (by intro q; cases q)
theorem BoardAt.same (B : BoardAt cC cP cB H b lc lp s) (k : Same H H') : BoardAt cC cP cB H' b lc lp s where
  at_ := let ⟨d, h⟩ := B.at_; ⟨d, k _ _ h⟩
  chips := let ⟨cs, h, q⟩ := B.chips; ⟨cs, k _ _ h, Paired.imp' (fun _ _ ⟨d, e⟩ => ⟨d, k _ _ e⟩) q⟩
  paths := let ⟨cs, h, q⟩ := B.paths; ⟨cs, k _ _ h, Paired.imp' (fun _ _ ⟨d, e⟩ => ⟨d, k _ _ e⟩) q⟩
  ne := B.ne
theorem BoardAt.ne_bc (B : BoardAt cC cP cB H b lc lp s) : b ≠ lc := let ⟨_, h⟩ := B.at_; let ⟨_, h', _⟩ := B.chips; ne_ins_lst h h'
theorem BoardAt.ne_bp (B : BoardAt cC cP cB H b lc lp s) : b ≠ lp := let ⟨_, h⟩ := B.at_; let ⟨_, h', _⟩ := B.paths; ne_ins_lst h h'
def Kept (H H' : Hp) (b lc lp : Addr) : Prop := ∀ a o, H a = some o → a ≠ b → a ≠ lc → a ≠ lp → H' a = some o
theorem Kept.of {H H' : Hp} (k : Same H H') : Kept H H' b lc lp := fun a o h _ _ _ => k a o h
theorem Kept.chip (B : BoardAt cC cP cB H b lc lp s) (k : Kept H H' b lc lp) {a : Addr} {c : Vbpcas.Chip} (h : ChipAt cC H a c) : ChipAt cC H' a c := by
  obtain ⟨d, e⟩ := h
  obtain ⟨db, hb⟩ := B.at_
  obtain ⟨cs, hc, _⟩ := B.chips
  obtain ⟨qs, hp, _⟩ := B.paths
  exact ⟨d, k a _ e (ne_ins e hb (by simp [chipF, boardF])) (ne_ins_lst e hc) (ne_ins_lst e hp)⟩
theorem ne_path_board {C C' d d' a a' : Addr} {i j x y st ho : Int} {lc lp : Addr} (h : H a = some (.ins C d (pathF i j x y))) (h' : H a' = some (.ins C' d' (boardF st ho lc lp))) : a ≠ a' := ne_of h h' (by
  intro q
  injection q with _ _ q
  have e : ("i" : Str) = "setup" := congrArg Prod.fst (List.cons.inj q).1
  exact absurd e (by decide))
theorem Kept.path (B : BoardAt cC cP cB H b lc lp s) (k : Kept H H' b lc lp) {a : Addr} {c : Vbpcas.Path} (h : PathAt cP H a c) : PathAt cP H' a c := by
  obtain ⟨d, e⟩ := h
  obtain ⟨db, hb⟩ := B.at_
  obtain ⟨cs, hc, _⟩ := B.chips
  obtain ⟨qs, hp, _⟩ := B.paths
  exact ⟨d, k a _ e (ne_path_board e hb) (ne_ins_lst e hc) (ne_ins_lst e hp)⟩
structure Done (cC cP cB : Addr) (H H' : Hp) (b lc lp : Addr) (r : Vbpcas.State × List Int) (p : Addr) : Prop where
  board : ∃ lc' lp', BoardAt cC cP cB H' b lc' lp' r.1 ∧ (lc' = lc ∨ H lc' = none) ∧ (lp' = lp ∨ H lp' = none)
  ans : H' p = some (.lst (r.2.map V.int))
  new : H p = none
  kept : Kept H H' b lc lp
theorem Done.same {ans : List Int} (B : BoardAt cC cP cB H b lc lp s) (k : Same H H') (n : H p = none) (h : H' p = some (.lst (ans.map V.int))) : Done cC cP cB H H' b lc lp (s, ans) p :=
  ⟨⟨lc, lp, B.same k, .inl rfl, .inl rfl⟩, h, n, .of k⟩
theorem Done.fin {H1 : Hp} {lc' lp' : Addr} {s' : Vbpcas.State} {ans : List Int} (B' : BoardAt cC cP cB H1 b lc' lp' s') (hl : lc' = lc ∨ H lc' = none) (hl2 : lp' = lp ∨ H lp' = none) (kp : Kept H H1 b lc lp) (gr : H p = none) (hp : H1 p = none) :
    Done cC cP cB H (upd H1 p (.lst (ans.map V.int))) b lc lp (s', ans) p :=
  ⟨⟨lc', lp', B'.same (same_new hp), hl, hl2⟩, upd_same, gr, fun a o h n1 n2 n3 => same_new hp a o (kp a o h n1 n2 n3)⟩
theorem kept_upd_b {o : HO} : Kept H (upd H b o) b lc lp := fun a u h n _ _ => by rw [upd_ne n]; exact h
theorem kept_upd_c {o : HO} : Kept H (upd H lc o) b lc lp := fun a u h _ n _ => by rw [upd_ne n]; exact h
theorem kept_upd_p {o : HO} : Kept H (upd H lp o) b lc lp := fun a u h _ _ n => by rw [upd_ne n]; exact h
theorem Kept.trans {H1 H2 : Hp} (k : Kept H H1 b lc lp) (k' : Kept H1 H2 b lc lp) : Kept H H2 b lc lp := fun a u h n1 n2 n3 => k' a u (k a u h n1 n2 n3) n1 n2 n3
theorem grow_upd {H : Hp} {a p : Addr} {o : HO} (h : upd H a o p = none) : H p = none := by
  unfold upd at h
  split at h
  · cases h
  · exact h
theorem Same.grow {H H1 : Hp} (k : Same H H1) {p : Addr} (h : H1 p = none) : H p = none := k.free h
theorem BoardAt.margins {d : Addr} {x y : Nat} (B : BoardAt cC cP cB H b lc lp s) : BoardAt cC cP cB (upd H b (.ins cB d (boardF x y lc lp))) b lc lp { s with setup := x, hold := y } where
  at_ := ⟨d, upd_same⟩
  chips := let ⟨cs, h, q⟩ := B.chips; ⟨cs, by rw [upd_ne (Ne.symm B.ne_bc)]; exact h, Paired.imp' (fun _ _ e => Kept.chip B kept_upd_b e) q⟩
  paths := let ⟨cs, h, q⟩ := B.paths; ⟨cs, by rw [upd_ne (Ne.symm B.ne_bp)]; exact h, Paired.imp' (fun _ _ e => Kept.path B kept_upd_b e) q⟩
  ne := B.ne
theorem BoardAt.setChips {cs : List Addr} {xs : List Vbpcas.Chip} (B : BoardAt cC cP cB H b lc lp s) (q : Paired (ChipAt cC H) cs xs) : BoardAt cC cP cB (upd H lc (.lst (cs.map V.ref))) b lc lp { s with chips := xs } where
  at_ := let ⟨d, h⟩ := B.at_; ⟨d, by rw [upd_ne B.ne_bc]; exact h⟩
  chips := ⟨cs, upd_same, Paired.imp' (fun _ _ e => Kept.chip B kept_upd_c e) q⟩
  paths := let ⟨cs, h, q⟩ := B.paths; ⟨cs, by rw [upd_ne (Ne.symm B.ne)]; exact h, Paired.imp' (fun _ _ e => Kept.path B kept_upd_c e) q⟩
  ne := B.ne
theorem BoardAt.setPaths {cs : List Addr} {xs : List Vbpcas.Path} (B : BoardAt cC cP cB H b lc lp s) (q : Paired (PathAt cP H) cs xs) : BoardAt cC cP cB (upd H lp (.lst (cs.map V.ref))) b lc lp { s with paths := xs } where
  at_ := let ⟨d, h⟩ := B.at_; ⟨d, by rw [upd_ne B.ne_bp]; exact h⟩
  chips := let ⟨cs, h, q⟩ := B.chips; ⟨cs, by rw [upd_ne B.ne]; exact h, Paired.imp' (fun _ _ e => Kept.chip B kept_upd_p e) q⟩
  paths := ⟨cs, upd_same, Paired.imp' (fun _ _ e => Kept.path B kept_upd_p e) q⟩
  ne := B.ne
theorem paired_snoc {α β : Type} {F : α → β → Prop} : ∀ {l : List α} {m : List β} {a : α} {c : β}, Paired F l m → F a c → Paired F (l ++ [a]) (m ++ [c])
  | _, _, _, _, .nil, h => .cons h .nil
  | _, _, _, _, .cons r t, h => .cons r (paired_snoc t h)
theorem paired_set {α β : Type} {F : α → β → Prop} {a : α} {c : β} (h : F a c) : ∀ {l : List α} {m : List β} (i : Nat), Paired F l m → Paired F (l.set i a) (m.set i c)
  | _, _, i, .nil => .nil
  | _, _, 0, .cons r t => .cons h t
  | _, _, i + 1, .cons r t => .cons r (paired_set h i t)
theorem paired_erase {α β : Type} {F : α → β → Prop} : ∀ {l : List α} {m : List β} (i : Nat), Paired F l m → Paired F (l.eraseIdx i) (m.eraseIdx i)
  | _, _, i, .nil => .nil
  | _, _, 0, .cons r t => t
  | _, _, i + 1, .cons r t => .cons r (paired_erase i t)
theorem paired_at {α β : Type} {F : α → β → Prop} : ∀ {l : List α} {m : List β} {i : Nat} {c : β}, Paired F l m → m[i]? = some c → ∃ a, l[i]? = some a ∧ F a c
  | _, _, i, _, .nil, e => by simp at e
  | _, _, 0, c, .cons r t, e => ⟨_, rfl, by cases e; exact r⟩
  | _, _, i + 1, c, .cons r t, e => paired_at (i := i) t e
theorem Done.one {e : Int} (B : BoardAt cC cP cB H b lc lp s) (n : H p = none) : Done cC cP cB H (upd H p (.lst [V.int e])) b lc lp (s, [e]) p :=
  .same B (same_new n) n upd_same
variable {cU : Addr}
theorem RuleAt.same {a : Addr} {r : Ru} (h : RuleAt cU H a r) (k : Same H H') : RuleAt cU H' a r := let ⟨d, e⟩ := h; ⟨d, k _ _ e⟩
theorem rules_same {as : List Addr} {rs : List Ru} (h : Paired (RuleAt cU H) as rs) (k : Same H H') : Paired (RuleAt cU H') as rs := Paired.imp' (fun _ _ e => RuleAt.same e k) h
theorem RulesAt.same {l : Addr} {rs : List Ru} (h : RulesAt cU H l rs) (k : Same H H') : RulesAt cU H' l rs := let ⟨as, e, p⟩ := h; ⟨as, k _ _ e, rules_same p k⟩
theorem SumsAt.same {l : Addr} {d : Sums} (h : SumsAt H l d) (k : Same H H') : SumsAt H' l d := k _ _ h
theorem RuleAt.put {a l : Addr} {r : Ru} {xs ys : List V} (h : RuleAt cU H a r) (hl : H l = some (.lst xs)) : RuleAt cU (upd H l (.lst ys)) a r := let ⟨d, e⟩ := h; ⟨d, by rw [upd_ne (ne_ins_lst e hl)]; exact e⟩
theorem rules_put {as : List Addr} {rs : List Ru} {l : Addr} {xs ys : List V} (h : Paired (RuleAt cU H) as rs) (hl : H l = some (.lst xs)) : Paired (RuleAt cU (upd H l (.lst ys))) as rs := Paired.imp' (fun _ _ e => RuleAt.put e hl) h
theorem rules_upd {as : List Addr} {rs : List Ru} {l : Addr} {ys : List V} (h : Paired (RuleAt cU H) as rs) (hl : H l = none) : Paired (RuleAt cU (upd H l (.lst ys))) as rs := rules_same h (same_new hl)
def giveRules (cU : Addr) (H : Hp) (rs : List Ru) (Q : VK) : Prop := ∀ H' l, Same H H' → H l = none → RulesAt cU H' l rs → Q (.ref l) H'
def giveSums (H : Hp) (d : Sums) (Q : VK) : Prop := ∀ H' l, Same H H' → H l = none → SumsAt H' l d → Q (.ref l) H'
theorem paired_take {α β : Type} {F : α → β → Prop} : ∀ {l : List α} {m : List β} (i : Nat), Paired F l m → Paired F (l.take i) (m.take i)
  | _, _, i, .nil => by simp; exact .nil
  | _, _, 0, .cons r t => .nil
  | _, _, i + 1, .cons r t => .cons r (paired_take i t)
end Ck

set_option Elab.async false
set_option linter.all false
set_option maxRecDepth 100000
set_option maxHeartbeats 4000000
namespace Ck
open PySem PySem.Spec PyProof.Rows L2
section
variable {P : Program} {w : World} {K : PySem.W.Frag} {mg : Str → Option Value} {base : Heap} {cC cP cB cR cU : Addr}
local macro_rules | `(tactic| walk_at "rd") => do
    let T := Lean.mkIdent `T
    let hb := Lean.mkIdent `hb
    `(tactic| simp (config := { failIfUnchanged := false }) only [tSeq, tIfS, tNext, tDrop, tAsg, gName, gSub, tAnd, tOr, tIf, tLst, tTup, tBM, tTest, rEq, rNe, scal_int, rLenL, rIxO, HO.lst.injEq, tMth, rAppend, rPopAt, rSetL, rIxL, sFldAug, rAdd, rSub, upd_upd, rI, cmul_two, rExtend, Bool.not_true, Bool.not_false, Bool.not_eq_true', decide_eq_false_iff_not, size_lit, List.length_map, upd_same, putF_nil, chip_put, path_put_j, path_put_d, path_put_e, board_put_hold, board_put_chips, board_put_paths, boardF_put_setup, boardF_put_hold, boardF_put_chips, boardF_put_paths, List.set_cons_zero, List.set_cons_succ, chipF_len, pathF_len, boardF_len, Nat.reduceLT, Nat.reduceLeDiff,  tNot, tAnd, tB, tDef, tCons, tVar, tNil, tRet, tC, tChain, tChain3, tOp, rI0, tUn, rU, tCB, tFld, sFld, L2.start, List.map_cons, List.map_nil, List.length_cons, List.length_nil, Nat.reduceAdd, Nat.reduceSub, List.replicate_zero, List.replicate_succ, List.append_nil, List.cons_append, List.nil_append, List.getElem?_cons_zero, List.getElem?_cons_succ, Option.some.injEq, exists_eq_left, exists_eq_left', exists_eq_right, exists_eq_right', exists_and_left, exists_and_right, V.int.injEq, V.ref.injEq, V.bl.injEq, HO.ins.injEq, and_assoc, true_and, and_true, List.cons.injEq, ite_true, ite_false, Bool.false_eq_true, decide_eq_true_eq, cxOf_K,
      $T:ident, ($T).clC, ($T).clP, ($T).clB, ($T).clR, ($T).lo, ($T).hi, ($T).i, ($T).j, ($T).d, ($T).e, ($T).setup, ($T).hold, ($T).chips, ($T).paths, ($T).calls, ($T).place, ($T).clU, ($T).kind, ($T).number, ($T).begin_, ($T).end_, ($T).bound, ruleF_kind, ruleF_number, ruleF_begin, ruleF_end, ruleF_bound, ruleF_len, rule_put_n, rule_put_b, rule_put_e, rule_put_w, boardF_setup, boardF_hold, boardF_chips, boardF_paths, chipF_lo, chipF_hi, pathF_i, pathF_j, pathF_d, pathF_e])
local macro_rules | `(tactic| walk_at "bl") => `(tactic| first | (apply decide_eq_decide.mpr; omega) | (apply decide_eq_false; omega) | (apply decide_eq_true; omega) | (symm; apply decide_eq_false; omega) | (symm; apply decide_eq_true; omega))
def spMargin : Sp := fun vs H Q _ => ∃ n, vs = [.int n] ∧ Q (.bl (decide (0 ≤ n ∧ n ≤ 100000000))) H
theorem ok_is_margin {f : Addr} {fd : FuncData} (F : Fun K "is_margin" "is_margin" s_is_margin f fd) (T : Txt K mg cC cP cB cR cU) : FnOk P w K mg base CX0 1 f fd ps_is_margin spMargin := by
  refine F.ok sc_is_margin (fun vs H Q E h => ?_) (fun cdv A outer s H vs Q E hr h => ?_)
  · obtain ⟨n, rfl, _⟩ := h
    rfl
  · obtain ⟨n, rfl, k⟩ := h
    refine ⟨_, (pss_one (ps_ret (pe_chain op_le op_le pe_int (pv 0) (pe_gint rfl T.c_GREATEST_TIME)))), ?_⟩
    walk_at "rd"
    split <;> refine bl_eq k ?_ <;> walk_at "bl"
def spPeriod : Sp := fun vs H Q _ => ∃ n, vs = [.int n] ∧ Q (.bl (decide (0 ≤ n ∧ n ≤ 2000000000))) H
theorem ok_is_period {f : Addr} {fd : FuncData} (F : Fun K "is_period" "is_period" s_is_period f fd) (T : Txt K mg cC cP cB cR cU) : FnOk P w K mg base CX0 1 f fd ps_is_period spPeriod := by
  refine F.ok sc_is_period (fun vs H Q E h => ?_) (fun cdv A outer s H vs Q E hr h => ?_)
  · obtain ⟨n, rfl, _⟩ := h
    rfl
  · obtain ⟨n, rfl, k⟩ := h
    refine ⟨_, (pss_one (ps_ret (pe_chain op_le op_le pe_int (pv 0) (pe_gint rfl T.c_GREATEST_PERIOD)))), ?_⟩
    walk_at "rd"
    split <;> refine bl_eq k ?_ <;> walk_at "bl"
def spBounds : Sp := fun vs H Q _ => ∃ lo hi, vs = [.int lo, .int hi] ∧ Q (.bl (decide (-100000000 ≤ lo ∧ lo ≤ hi ∧ hi ≤ 100000000))) H
theorem ok_are_bounds {f : Addr} {fd : FuncData} (F : Fun K "are_bounds" "are_bounds" s_are_bounds f fd) (T : Txt K mg cC cP cB cR cU) : FnOk P w K mg base CX0 1 f fd ps_are_bounds spBounds := by
  refine F.ok sc_are_bounds (fun vs H Q E h => ?_) (fun cdv A outer s H vs Q E hr h => ?_)
  · obtain ⟨lo, hi, rfl, _⟩ := h
    rfl
  · obtain ⟨lo, hi, rfl, k⟩ := h
    refine ⟨_, (pss_one (ps_ret (pe_chain3 op_le op_le op_le (pe_un un_neg (pe_gint rfl T.c_GREATEST_TIME)) (pv 0) (pv 1) (pe_gint rfl T.c_GREATEST_TIME)))), ?_⟩
    walk_at "rd"
    split
    · split <;> refine bl_eq k ?_ <;> walk_at "bl"
    · exact bl_eq k (by walk_at "bl")
def spDelays : Sp := fun vs H Q _ => ∃ d e, vs = [.int d, .int e] ∧ Q (.bl (decide (0 ≤ d ∧ d ≤ e ∧ e ≤ 100000000))) H
theorem ok_are_delays {f : Addr} {fd : FuncData} (F : Fun K "are_delays" "are_delays" s_are_delays f fd) (T : Txt K mg cC cP cB cR cU) : FnOk P w K mg base CX0 1 f fd ps_are_delays spDelays := by
  refine F.ok sc_are_delays (fun vs H Q E h => ?_) (fun cdv A outer s H vs Q E hr h => ?_)
  · obtain ⟨d, e, rfl, _⟩ := h
    rfl
  · obtain ⟨d, e, rfl, k⟩ := h
    refine ⟨_, (pss_one (ps_ret (pe_chain3 op_le op_le op_le pe_int (pv 0) (pv 1) (pe_gint rfl T.c_GREATEST_TIME)))), ?_⟩
    walk_at "rd"
    split
    · split <;> refine bl_eq k ?_ <;> walk_at "bl"
    · exact bl_eq k (by walk_at "bl")
def spHasChip (cC cP cB : Addr) : Sp := fun vs H Q _ => ∃ b lc lp s n, vs = [.ref b, .int n] ∧ BoardAt cC cP cB H b lc lp s ∧ Q (.bl (decide (0 ≤ n ∧ n < s.chips.length))) H
theorem ok_has_chip {f : Addr} {fd : FuncData} (F : Fun K "has_chip" "has_chip" s_has_chip f fd) (T : Txt K mg cC cP cB cR cU) : FnOk P w K mg base CX0 1 f fd ps_has_chip (spHasChip cC cP cB) := by
  refine F.ok sc_has_chip (fun vs H Q E h => ?_) (fun cdv A outer s H vs Q E hr h => ?_)
  · obtain ⟨b, lc, lp, s, n, rfl, _⟩ := h
    rfl
  · obtain ⟨b, lc, lp, s, n, rfl, B, k⟩ := h
    refine ⟨_, (pss_one (ps_ret (pe_chain op_le op_lt pe_int (pv 1) (pe_callB call_lenL rfl T.b_len PySem.boot_len (pa_cons (pe_fld (pv 0) rfl) pa_nil))))), ?_⟩
    obtain ⟨db, hb⟩ := B.at_
    obtain ⟨cs, hc, pc⟩ := B.chips
    have el := paired_len pc
    walk_at "rd"
    simp only [hb]
    walk_at "rd"
    simp only [hc]
    walk_at "rd"
    split
    · exact bl_eq k (by walk_at "bl")
    · exact bl_eq k (by walk_at "bl")
def spHasPath (cC cP cB : Addr) : Sp := fun vs H Q _ => ∃ b lc lp s n, vs = [.ref b, .int n] ∧ BoardAt cC cP cB H b lc lp s ∧ Q (.bl (decide (0 ≤ n ∧ n < s.paths.length))) H
theorem ok_has_path {f : Addr} {fd : FuncData} (F : Fun K "has_path" "has_path" s_has_path f fd) (T : Txt K mg cC cP cB cR cU) : FnOk P w K mg base CX0 1 f fd ps_has_path (spHasPath cC cP cB) := by
  refine F.ok sc_has_path (fun vs H Q E h => ?_) (fun cdv A outer s H vs Q E hr h => ?_)
  · obtain ⟨b, lc, lp, s, n, rfl, _⟩ := h
    rfl
  · obtain ⟨b, lc, lp, s, n, rfl, B, k⟩ := h
    refine ⟨_, (pss_one (ps_ret (pe_chain op_le op_lt pe_int (pv 1) (pe_callB call_lenL rfl T.b_len PySem.boot_len (pa_cons (pe_fld (pv 0) rfl) pa_nil))))), ?_⟩
    obtain ⟨db, hb⟩ := B.at_
    obtain ⟨cs, hc, pc⟩ := B.paths
    have el := paired_len pc
    walk_at "rd"
    simp only [hb]
    walk_at "rd"
    simp only [hc]
    walk_at "rd"
    split
    · exact bl_eq k (by walk_at "bl")
    · exact bl_eq k (by walk_at "bl")
def spFits (cC cP cB : Addr) : Sp := fun vs H Q _ => ∃ b lc lp s t r, vs = [.ref b, .ref t] ∧ BoardAt cC cP cB H b lc lp s ∧ H t = some (.lst (r.map V.int)) ∧ Q (.bl (decide ((r : List Int).length = s.chips.length))) H
theorem ok_fits {f : Addr} {fd : FuncData} (F : Fun K "fits" "fits" s_fits f fd) (T : Txt K mg cC cP cB cR cU) : FnOk P w K mg base CX0 1 f fd ps_fits (spFits cC cP cB) := by
  refine F.ok sc_fits (fun vs H Q E h => ?_) (fun cdv A outer s H vs Q E hr h => ?_)
  · obtain ⟨b, lc, lp, s, t, r, rfl, _⟩ := h
    rfl
  · obtain ⟨b, lc, lp, s, t, r, rfl, B, ht, k⟩ := h
    refine ⟨_, (pss_one (ps_ret (pe_cmpR op_eq (pe_callB call_lenL rfl T.b_len PySem.boot_len (pa_cons (pv 1) pa_nil)) (pe_callB call_lenL rfl T.b_len PySem.boot_len (pa_cons (pe_fld (pv 0) rfl) pa_nil)) (nomark _)))), ?_⟩
    obtain ⟨db, hb⟩ := B.at_
    obtain ⟨cs, hc, pc⟩ := B.chips
    have el := paired_len pc
    walk_at "rd"
    simp only [hb, ht]
    walk_at "rd"
    simp only [hc]
    walk_at "rd"
    exact bl_eq k (by walk_at "bl")
def spZero (cC cP cB : Addr) : Sp := fun vs H Q _ => ∃ b lc lp s, vs = [.ref b] ∧ BoardAt cC cP cB H b lc lp s ∧ Q (.int (s.chips.length : Nat)) H
theorem ok_zero_of {f : Addr} {fd : FuncData} (F : Fun K "zero_of" "zero_of" s_zero_of f fd) (T : Txt K mg cC cP cB cR cU) : FnOk P w K mg base CX0 1 f fd ps_zero_of (spZero cC cP cB) := by
  refine F.ok sc_zero_of (fun vs H Q E h => ?_) (fun cdv A outer s H vs Q E hr h => ?_)
  · obtain ⟨b, lc, lp, s, rfl, _⟩ := h
    rfl
  · obtain ⟨b, lc, lp, s, rfl, B, k⟩ := h
    refine ⟨_, (pss_one (ps_ret (pe_callB call_lenL rfl T.b_len PySem.boot_len (pa_cons (pe_fld (pv 0) rfl) pa_nil)))), ?_⟩
    obtain ⟨db, hb⟩ := B.at_
    obtain ⟨cs, hc, pc⟩ := B.chips
    have el := paired_len pc
    refine ⟨_, rfl, b, cB, db, _, _, rfl, hb, T.clB, T.chips, rfl, lc, _, rfl, hc, ?_⟩
    rw [List.length_map, el]
    exact k
end
end Ck

set_option Elab.async false
set_option linter.all false
set_option maxRecDepth 100000
set_option maxHeartbeats 4000000
namespace Ck
open PySem PySem.Spec PyProof.Rows L2
section
variable {P : Program} {w : World} {K : PySem.W.Frag} {mg : Str → Option Value} {base : Heap} {cC cP cB cR cU : Addr}
local macro_rules | `(tactic| walk_at "rd") => do
    let T := Lean.mkIdent `T
    let hb := Lean.mkIdent `hb
    `(tactic| simp (config := { failIfUnchanged := false }) only [tSeq, tIfS, tNext, tDrop, tAsg, gName, gSub, tAnd, tOr, tIf, tLst, tTup, tBM, tTest, rEq, rNe, scal_int, rLenL, rIxO, HO.lst.injEq, tMth, rAppend, rPopAt, rSetL, rIxL, sFldAug, rAdd, rSub, upd_upd, rI, cmul_two, rExtend, Bool.not_true, Bool.not_false, Bool.not_eq_true', decide_eq_false_iff_not, size_lit, List.length_map, upd_same, putF_nil, chip_put, path_put_j, path_put_d, path_put_e, board_put_hold, board_put_chips, board_put_paths, boardF_put_setup, boardF_put_hold, boardF_put_chips, boardF_put_paths, List.set_cons_zero, List.set_cons_succ, chipF_len, pathF_len, boardF_len, Nat.reduceLT, Nat.reduceLeDiff,  tNot, tAnd, tB, tDef, tCons, tVar, tNil, tRet, tC, tChain, tChain3, tOp, rI0, tUn, rU, tCB, tFld, sFld, L2.start, List.map_cons, List.map_nil, List.length_cons, List.length_nil, Nat.reduceAdd, Nat.reduceSub, List.replicate_zero, List.replicate_succ, List.append_nil, List.cons_append, List.nil_append, List.getElem?_cons_zero, List.getElem?_cons_succ, Option.some.injEq, exists_eq_left, exists_eq_left', exists_eq_right, exists_eq_right', exists_and_left, exists_and_right, V.int.injEq, V.ref.injEq, V.bl.injEq, HO.ins.injEq, and_assoc, true_and, and_true, List.cons.injEq, ite_true, ite_false, Bool.false_eq_true, decide_eq_true_eq, cxOf_K,
      $T:ident, ($T).clC, ($T).clP, ($T).clB, ($T).clR, ($T).lo, ($T).hi, ($T).i, ($T).j, ($T).d, ($T).e, ($T).setup, ($T).hold, ($T).chips, ($T).paths, ($T).calls, ($T).place, ($T).clU, ($T).kind, ($T).number, ($T).begin_, ($T).end_, ($T).bound, ruleF_kind, ruleF_number, ruleF_begin, ruleF_end, ruleF_bound, ruleF_len, rule_put_n, rule_put_b, rule_put_e, rule_put_w, boardF_setup, boardF_hold, boardF_chips, boardF_paths, chipF_lo, chipF_hi, pathF_i, pathF_j, pathF_d, pathF_e])
local macro_rules | `(tactic| walk_at "bl") => `(tactic| first | (apply decide_eq_decide.mpr; omega) | (apply decide_eq_false; omega) | (apply decide_eq_true; omega) | (symm; apply decide_eq_false; omega) | (symm; apply decide_eq_true; omega))
def spChipInit (cC : Addr) : Sp := fun vs H Q _ => ∃ x dx lo hi, vs = [.ref x, .int lo, .int hi] ∧ H x = some (.ins cC dx []) ∧ Q .non (upd H x (.ins cC dx (chipF lo hi)))
theorem ok_Chip_init {f : Addr} {fd : FuncData} (F : Fun K "__init__" "Chip.__init__" s_Chip_init f fd) (T : Txt K mg cC cP cB cR cU) : FnOk P w K mg base CX0 1 f fd ps_Chip_init (spChipInit cC) := by
  refine F.ok sc_Chip_init (fun vs H Q E h => ?_) (fun cdv A outer s H vs Q E hr h => ?_)
  · obtain ⟨x, dx, lo, hi, rfl, _⟩ := h
    rfl
  · obtain ⟨x, dx, lo, hi, rfl, hx, k⟩ := h
    refine ⟨_, (pss_cons (ps_fld (pv 0) (pv 1) rfl)
      (pss_one (ps_fld (pv 0) (pv 2) rfl))), ?_⟩
    walk_at "rd"
    simp only [hx]
    walk_at "rd"
    exact k
def spPathInit (cP : Addr) : Sp := fun vs H Q _ => ∃ x dx i j d e, vs = [.ref x, .int i, .int j, .int d, .int e] ∧ H x = some (.ins cP dx []) ∧ Q .non (upd H x (.ins cP dx (pathF i j d e)))
theorem ok_Path_init {f : Addr} {fd : FuncData} (F : Fun K "__init__" "Path.__init__" s_Path_init f fd) (T : Txt K mg cC cP cB cR cU) : FnOk P w K mg base CX0 1 f fd ps_Path_init (spPathInit cP) := by
  refine F.ok sc_Path_init (fun vs H Q E h => ?_) (fun cdv A outer s H vs Q E hr h => ?_)
  · obtain ⟨x, dx, i, j, d, e, rfl, _⟩ := h
    rfl
  · obtain ⟨x, dx, i, j, d, e, rfl, hx, k⟩ := h
    refine ⟨_, (pss_cons (ps_fld (pv 0) (pv 1) rfl)
      (pss_cons (ps_fld (pv 0) (pv 2) rfl)
      (pss_cons (ps_fld (pv 0) (pv 3) rfl)
      (pss_one (ps_fld (pv 0) (pv 4) rfl))))), ?_⟩
    walk_at "rd"
    simp only [hx]
    walk_at "rd"
    exact k
def spBoardInit (cC cP cB : Addr) : Sp := fun vs H Q _ => ∃ x dx, vs = [.ref x] ∧ H x = some (.ins cB dx []) ∧ ∀ H' lc lp, (∀ a o, H a = some o → a ≠ x → H' a = some o) → H lc = none → H lp = none → BoardAt cC cP cB H' x lc lp Vbpcas.start → Q .non H'
theorem ok_Board_init {f : Addr} {fd : FuncData} (F : Fun K "__init__" "Board.__init__" s_Board_init f fd) (T : Txt K mg cC cP cB cR cU) : FnOk P w K mg base CX0 1 f fd ps_Board_init (spBoardInit cC cP cB) := by
  refine F.ok sc_Board_init (fun vs H Q E h => ?_) (fun cdv A outer s H vs Q E hr h => ?_)
  · obtain ⟨x, dx, rfl, _⟩ := h
    rfl
  · obtain ⟨x, dx, rfl, hx, k⟩ := h
    refine ⟨_, (pss_cons (ps_fld (pv 0) pe_int rfl)
      (pss_cons (ps_fld (pv 0) pe_int rfl)
      (pss_cons (ps_fld (pv 0) (pe_lst pa_nil) rfl)
      (pss_one (ps_fld (pv 0) (pe_lst pa_nil) rfl))))), ?_⟩
    walk_at "rd"
    simp only [hx]
    walk_at "rd"
    intro p hp
    have hxp : x ≠ p := ne_of_none upd_same hp
    simp only [upd_ne hxp]
    walk_at "rd"
    intro p1 hp1
    have hxp1 : x ≠ p1 := ne_of_none upd_same hp1
    simp only [upd_ne hxp1]
    walk_at "rd"
    have hpp : p ≠ p1 := ne_of_none (by rw [upd_ne (Ne.symm hxp)]; exact upd_same) hp1
    rw [upd_ne (Ne.symm hxp)] at hp
    rw [upd_ne (Ne.symm hxp1), upd_ne (Ne.symm hpp), upd_ne (Ne.symm hxp1)] at hp1
    refine k _ p p1 (fun a o e n => ?_) hp hp1 ⟨⟨dx, upd_same⟩, ⟨[], ?_, .nil⟩, ⟨[], ?_, .nil⟩, hpp⟩
    · rw [upd_ne n, upd_ne (ne_of_none e hp1), upd_ne n, upd_ne (ne_of_none e hp), upd_ne n]
      exact e
    · rw [upd_ne (Ne.symm hxp), upd_ne hpp, upd_ne (Ne.symm hxp)]
      exact upd_same
    · rw [upd_ne (Ne.symm hxp1)]
      exact upd_same
def spRuleInit (cU : Addr) : Sp := fun vs H Q _ => ∃ x dx k n b e z, vs = [.ref x, .int k, .int n, .int b, .int e, .int z] ∧ H x = some (.ins cU dx []) ∧ Q .non (upd H x (.ins cU dx (ruleF k n b e z)))
theorem ok_Rule_init {f : Addr} {fd : FuncData} (F : Fun K "__init__" "Rule.__init__" s_Rule_init f fd) (T : Txt K mg cC cP cB cR cU) : FnOk P w K mg base CX0 1 f fd ps_Rule_init (spRuleInit cU) := by
  refine F.ok sc_Rule_init (fun vs H Q E h => ?_) (fun cdv A outer s H vs Q E hr h => ?_)
  · obtain ⟨x, dx, k, n, b, e, z, rfl, _⟩ := h
    rfl
  · obtain ⟨x, dx, k, n, b, e, z, rfl, hx, q⟩ := h
    refine ⟨_, (pss_cons (ps_fld (pv 0) (pv 1) rfl)
      (pss_cons (ps_fld (pv 0) (pv 2) rfl)
      (pss_cons (ps_fld (pv 0) (pv 3) rfl)
      (pss_cons (ps_fld (pv 0) (pv 4) rfl)
      (pss_one (ps_fld (pv 0) (pv 5) rfl)))))), ?_⟩
    walk_at "rd"
    simp only [hx]
    walk_at "rd"
    exact q
def spChip (cC : Addr) : Sp := fun vs H Q _ => ∃ lo hi, vs = [.int lo, .int hi] ∧ ∀ H' x, H x = none → Same H H' → ChipAt cC H' x ⟨lo, hi⟩ → Q (.ref x) H'
def spPath (cP : Addr) : Sp := fun vs H Q _ => ∃ (i j d e : Nat), vs = [.int i, .int j, .int d, .int e] ∧ ∀ H' x, H x = none → Same H H' → PathAt cP H' x ⟨i, j, d, e⟩ → Q (.ref x) H'
def spBoard (cC cP cB : Addr) : Sp := fun vs H Q _ => vs = [] ∧ ∀ H' x lc lp, H x = none → H lc = none → H lp = none → Same H H' → BoardAt cC cP cB H' x lc lp Vbpcas.start → Q (.ref x) H'
theorem new_chip {f : Addr} {fd : FuncData} (F : Fun K "__init__" "Chip.__init__" s_Chip_init f fd) (T : Txt K mg cC cP cB cR cU) (M : Mk K cC f) (h : mg "Chip" = some (.ref cC)) (B : Binds K fd ps_Chip_init []) : New P w K mg base 1 "Chip" (spChip cC) :=
  ⟨cC, f, fd, _, _, M, ok_Chip_init F T, h, B, fun vs H Q ⟨lo, hi, e, k⟩ x dx hx hd hn => by
    subst e
    refine ⟨x, dx, lo, hi, rfl, upd_same, rfl, ?_⟩
    rw [upd_upd]
    exact k _ x hx (fun a o e => by rw [upd_ne (ne_of_none e hx), upd_ne (ne_of_none e hd)]; exact e) ⟨dx, upd_same⟩⟩
def spRule (cU : Addr) : Sp := fun vs H Q _ => ∃ (r : Ru), vs = [.int (r.kind : Nat), .int (r.num : Nat), .int (r.b : Nat), .int (r.e : Nat), .int r.w] ∧ ∀ H' x, H x = none → Same H H' → RuleAt cU H' x r → Q (.ref x) H'
theorem new_rule {f : Addr} {fd : FuncData} (F : Fun K "__init__" "Rule.__init__" s_Rule_init f fd) (T : Txt K mg cC cP cB cR cU) (M : Mk K cU f) (h : mg "Rule" = some (.ref cU)) (B : Binds K fd ps_Rule_init []) : New P w K mg base 1 "Rule" (spRule cU) :=
  ⟨cU, f, fd, _, _, M, ok_Rule_init F T, h, B, fun vs H Q ⟨r, e, k⟩ x dx hx hd hn => by
    subst e
    refine ⟨x, dx, _, _, _, _, _, rfl, upd_same, rfl, ?_⟩
    rw [upd_upd]
    exact k _ x hx (fun a o e => by rw [upd_ne (ne_of_none e hx), upd_ne (ne_of_none e hd)]; exact e) ⟨dx, upd_same⟩⟩
theorem new_path {f : Addr} {fd : FuncData} (F : Fun K "__init__" "Path.__init__" s_Path_init f fd) (T : Txt K mg cC cP cB cR cU) (M : Mk K cP f) (h : mg "Path" = some (.ref cP)) (B : Binds K fd ps_Path_init []) : New P w K mg base 1 "Path" (spPath cP) :=
  ⟨cP, f, fd, _, _, M, ok_Path_init F T, h, B, fun vs H Q ⟨i, j, d, e, q, k⟩ x dx hx hd hn => by
    subst q
    refine ⟨x, dx, i, j, d, e, rfl, upd_same, rfl, ?_⟩
    rw [upd_upd]
    exact k _ x hx (fun a o e => by rw [upd_ne (ne_of_none e hx), upd_ne (ne_of_none e hd)]; exact e) ⟨dx, upd_same⟩⟩
theorem new_board {f : Addr} {fd : FuncData} (F : Fun K "__init__" "Board.__init__" s_Board_init f fd) (T : Txt K mg cC cP cB cR cU) (M : Mk K cB f) (h : mg "Board" = some (.ref cB)) (B : Binds K fd ps_Board_init []) : New P w K mg base 1 "Board" (spBoard cC cP cB) :=
  ⟨cB, f, fd, _, _, M, ok_Board_init F T, h, B, fun vs H Q ⟨q, k⟩ x dx hx hd hn => by
    subst q
    refine ⟨x, dx, rfl, upd_same, fun H' lc lp k1 hlc hlp B => ⟨rfl, ?_⟩⟩
    have s1 : Same H H' := fun a o e => k1 a o (by rw [upd_ne (ne_of_none e hx), upd_ne (ne_of_none e hd)]; exact e) (ne_of_none e hx)
    refine k H' x lc lp hx ?_ ?_ s1 B
    · cases e : H lc with
      | none => rfl
      | some o =>
        rw [upd_ne (ne_of_none e hx), upd_ne (ne_of_none e hd), e] at hlc
        cases hlc
    · cases e : H lp with
      | none => rfl
      | some o =>
        rw [upd_ne (ne_of_none e hx), upd_ne (ne_of_none e hd), e] at hlp
        cases hlp⟩
end
end Ck

set_option Elab.async false
set_option linter.all false
set_option maxRecDepth 100000
set_option maxHeartbeats 4000000
namespace Ck
open PySem PySem.Spec PyProof.Rows L2
section
variable {P : Program} {w : World} {K : PySem.W.Frag} {mg : Str → Option Value} {base : Heap} {cC cP cB cR cU : Addr}
local macro_rules | `(tactic| walk_at "rd") => do
    let T := Lean.mkIdent `T
    let hb := Lean.mkIdent `hb
    `(tactic| simp (config := { failIfUnchanged := false }) only [tSeq, tIfS, tNext, tDrop, tAsg, gName, gSub, tAnd, tOr, tIf, tLst, tTup, tBM, tTest, rEq, rNe, scal_int, rLenL, rIxO, HO.lst.injEq, tMth, rAppend, rPopAt, rSetL, rIxL, sFldAug, rAdd, rSub, upd_upd, rI, cmul_two, rExtend, Bool.not_true, Bool.not_false, Bool.not_eq_true', decide_eq_false_iff_not, size_lit, List.length_map, upd_same, putF_nil, chip_put, path_put_j, path_put_d, path_put_e, board_put_hold, board_put_chips, board_put_paths, boardF_put_setup, boardF_put_hold, boardF_put_chips, boardF_put_paths, List.set_cons_zero, List.set_cons_succ, chipF_len, pathF_len, boardF_len, Nat.reduceLT, Nat.reduceLeDiff,  tNot, tAnd, tB, tDef, tCons, tVar, tNil, tRet, tC, tChain, tChain3, tOp, rI0, tUn, rU, tCB, tFld, sFld, L2.start, List.map_cons, List.map_nil, List.length_cons, List.length_nil, Nat.reduceAdd, Nat.reduceSub, List.replicate_zero, List.replicate_succ, List.append_nil, List.cons_append, List.nil_append, List.getElem?_cons_zero, List.getElem?_cons_succ, Option.some.injEq, exists_eq_left, exists_eq_left', exists_eq_right, exists_eq_right', exists_and_left, exists_and_right, V.int.injEq, V.ref.injEq, V.bl.injEq, HO.ins.injEq, and_assoc, true_and, and_true, List.cons.injEq, ite_true, ite_false, Bool.false_eq_true, decide_eq_true_eq, cxOf_K,
      $T:ident, ($T).clC, ($T).clP, ($T).clB, ($T).clR, ($T).lo, ($T).hi, ($T).i, ($T).j, ($T).d, ($T).e, ($T).setup, ($T).hold, ($T).chips, ($T).paths, ($T).calls, ($T).place, ($T).clU, ($T).kind, ($T).number, ($T).begin_, ($T).end_, ($T).bound, ruleF_kind, ruleF_number, ruleF_begin, ruleF_end, ruleF_bound, ruleF_len, rule_put_n, rule_put_b, rule_put_e, rule_put_w, boardF_setup, boardF_hold, boardF_chips, boardF_paths, chipF_lo, chipF_hi, pathF_i, pathF_j, pathF_d, pathF_e])
local macro_rules | `(tactic| walk_at "bl") => `(tactic| first | (apply decide_eq_decide.mpr; omega) | (apply decide_eq_false; omega) | (apply decide_eq_true; omega) | (symm; apply decide_eq_false; omega) | (symm; apply decide_eq_true; omega))
def spDo (cC cP cB : Addr) (c : List V → Vbpcas.Call → Prop) : Sp := fun vs H Q _ => ∃ b lc lp s us d, vs = .ref b :: us ∧ c us d ∧ Good s ∧ BoardAt cC cP cB H b lc lp s ∧ ∀ H' p, Done cC cP cB H H' b lc lp (Vbpcas.step s d) p → Q (.ref p) H'
def isMargins (us : List V) (d : Vbpcas.Call) : Prop := ∃ a b, us = [.int a, .int b] ∧ d = .margins a b
def isChip (us : List V) (d : Vbpcas.Call) : Prop := ∃ a b, us = [.int a, .int b] ∧ d = .chip a b
def isPath (us : List V) (c : Vbpcas.Call) : Prop := ∃ i j d e, us = [.int i, .int j, .int d, .int e] ∧ c = .path i j d e
def isBound (us : List V) (c : Vbpcas.Call) : Prop := ∃ i a b, us = [.int i, .int a, .int b] ∧ c = .bound i a b
def isDelay (us : List V) (c : Vbpcas.Call) : Prop := ∃ k d e, us = [.int k, .int d, .int e] ∧ c = .delay k d e
def isAway (us : List V) (c : Vbpcas.Call) : Prop := ∃ k, us = [.int k] ∧ c = .away k
def isClear (us : List V) (c : Vbpcas.Call) : Prop := us = [] ∧ c = .clear
theorem ok_set_margins {f : Addr} {fd : FuncData} (F : Fun K "set_margins" "set_margins" s_set_margins f fd) (T : Txt K mg cC cP cB cR cU) (D_is_margin : Def P w K mg base 1 "is_margin" spMargin) : FnOk P w K mg base CX0 2 f fd ps_set_margins (spDo cC cP cB isMargins) := by
  refine F.ok sc_set_margins (fun vs H Q E h => ?_) (fun cdv A outer s H vs Q E hr h => ?_)
  · obtain ⟨b, lc, lp, s, us, d, rfl, ⟨x, y, rfl, rfl⟩, _⟩ := h
    rfl
  · obtain ⟨b, lc, lp, s, us, d, rfl, ⟨x, y, rfl, rfl⟩, G, B, k⟩ := h
    refine ⟨_, (pss_cons (ps_if (pt_not (PW.pt (pw_and (pt_val (pe_def D_is_margin hr (pa_cons (pv 1) pa_nil))) (pw_and1 (pt_val (pe_def D_is_margin hr (pa_cons (pv 2) pa_nil))))))) (pss_one (ps_ret (pe_lst (pa_cons (pe_gint rfl T.c_OUT_OF_RANGE) pa_nil)))) pss_nil)
      (pss_cons (ps_fld (pv 0) (pv 1) rfl)
      (pss_cons (ps_fld (pv 0) (pv 2) rfl)
      (pss_one (ps_ret (pe_lst (pa_cons pe_int pa_nil))))))), ?_⟩
    obtain ⟨db, hb⟩ := B.at_
    rw [step_margins] at k
    unfold spMargin
    walk_at "rd"
    simp only [hb]
    walk_at "rd"
    split
    · split
      · intro p hp
        rw [if_neg (by omega)] at k
        exact k _ _ (.one B hp)
      · intro p hp
        rw [if_pos (by omega)] at k
        have e : boardF x y lc lp = boardF (x.toNat : Int) (y.toNat : Int) lc lp := by rw [Int.toNat_of_nonneg (by omega), Int.toNat_of_nonneg (by omega)]
        rw [e] at hp ⊢
        exact k _ _ (.fin (ans := [0]) B.margins (.inl rfl) (.inl rfl) kept_upd_b (grow_upd hp) hp)
    · intro p hp
      rw [if_neg (by omega)] at k
      exact k _ _ (.one B hp)
theorem ok_add_chip {f : Addr} {fd : FuncData} (F : Fun K "add_chip" "add_chip" s_add_chip f fd) (T : Txt K mg cC cP cB cR cU) (D_are_bounds : Def P w K mg base 1 "are_bounds" spBounds) (D_Chip : New P w K mg base 1 "Chip" (spChip cC)) : FnOk P w K mg base CX0 3 f fd ps_add_chip (spDo cC cP cB isChip) := by
  refine F.ok sc_add_chip (fun vs H Q E h => ?_) (fun cdv A outer s H vs Q E hr h => ?_)
  · obtain ⟨b, lc, lp, s, us, d, rfl, ⟨x, y, rfl, rfl⟩, _⟩ := h
    rfl
  · obtain ⟨b, lc, lp, s, us, d, rfl, ⟨x, y, rfl, rfl⟩, G, B, k⟩ := h
    refine ⟨_, (pss_cons (ps_if (pt_not (pt_val (pe_def D_are_bounds hr (pa_cons (pv 1) (pa_cons (pv 2) pa_nil))))) (pss_one (ps_ret (pe_lst (pa_cons (pe_gint rfl T.c_OUT_OF_RANGE) pa_nil)))) pss_nil)
      (pss_cons (ps_if (pt_cmpR op_eq (pe_callB call_lenL rfl T.b_len PySem.boot_len (pa_cons (pe_fld (pv 0) rfl) pa_nil)) (pe_gint rfl T.c_MOST_CHIPS) (nomark _)) (pss_one (ps_ret (pe_lst (pa_cons (pe_gint rfl T.c_FULL) pa_nil)))) pss_nil)
      (pss_cons (ps_expr (pe_bm PySem.F.plainAttrs_list PySem.F.slot_list_append PySem.F.type_list_append mt_append (pe_fld (pv 0) rfl) (pa_cons (pe_new D_Chip hr (pa_cons (pv 1) (pa_cons (pv 2) pa_nil))) pa_nil)))
      (pss_one (ps_ret (pe_lst (pa_cons (pe_op op_sub (pe_callB call_lenL rfl T.b_len PySem.boot_len (pa_cons (pe_fld (pv 0) rfl) pa_nil)) pe_int) pa_nil))))))), ?_⟩
    obtain ⟨db, hb⟩ := B.at_
    obtain ⟨cs, hc, pc⟩ := B.chips
    have el := paired_len pc
    unfold spBounds
    walk_at "rd"
    simp only [hb]
    walk_at "rd"
    simp only [hc]
    walk_at "rd"
    split
    · intro p hp
      rw [step_chip_no (by assumption)] at k
      exact k _ _ (.one B hp)
    · rename_i h1
      have h1 := Classical.not_not.mp h1
      split
      · intro p hp
        rw [step_chip_full h1 (by have := G.chips; omega)] at k
        exact k _ _ (.one B hp)
      · rename_i h2
        have h3 : s.chips.length < 16 := by have := G.chips; omega
        rw [step_chip_ok h1 h3] at k
        refine ⟨tyV_lst hc, x, y, rfl, fun H1 q hq s1 c1 => ?_⟩
        simp only [s1 _ _ hc]
        walk_at "rd"
        refine ⟨by rw [el]; exact Nat.lt_trans h3 (by decide), ?_⟩
        have B1 := B.same s1
        simp only [upd_ne B.ne_bc, s1 _ _ hb]
        walk_at "rd"
        intro p hp
        have e1 : List.map V.ref cs ++ [V.ref q] = (cs ++ [q]).map V.ref := by rw [List.map_append]; rfl
        have e2 : (((cs ++ [q]).map V.ref).length : Int) - 1 = (s.chips.length : Int) := by rw [List.length_map, List.length_append, List.length_singleton]; omega
        rw [e1] at hp ⊢
        rw [e2]
        exact k _ _ (.fin (ans := [(s.chips.length : Int)]) (B1.setChips (paired_snoc (Paired.imp' (fun _ _ ⟨d, e⟩ => ⟨d, s1 _ _ e⟩) pc) c1)) (.inl rfl) (.inl rfl) ((Kept.of s1).trans kept_upd_c) (s1.free (grow_upd hp)) hp)
theorem ok_add_path {f : Addr} {fd : FuncData} (F : Fun K "add_path" "add_path" s_add_path f fd) (T : Txt K mg cC cP cB cR cU) (D_has_chip : Def P w K mg base 1 "has_chip" (spHasChip cC cP cB)) (D_are_delays : Def P w K mg base 1 "are_delays" spDelays) (D_Path : New P w K mg base 1 "Path" (spPath cP)) :
    FnOk P w K mg base CX0 3 f fd ps_add_path (spDo cC cP cB isPath) := by
  refine F.ok sc_add_path (fun vs H Q E h => ?_) (fun cdv A outer s H vs Q E hr h => ?_)
  · obtain ⟨b, lc, lp, s, us, c, rfl, ⟨i, j, d, e, rfl, rfl⟩, _⟩ := h
    rfl
  · obtain ⟨b, lc, lp, s, us, c, rfl, ⟨i, j, d, e, rfl, rfl⟩, G, B, k⟩ := h
    refine ⟨_, (pss_cons (ps_if (pt_not (PW.pt (pw_and (pt_val (pe_def D_has_chip hr (pa_cons (pv 0) (pa_cons (pv 1) pa_nil)))) (pw_and1 (pt_val (pe_def D_has_chip hr (pa_cons (pv 0) (pa_cons (pv 2) pa_nil)))))))) (pss_one (ps_ret (pe_lst (pa_cons (pe_gint rfl T.c_NO_CHIP) pa_nil)))) pss_nil)
      (pss_cons (ps_if (pt_not (pt_val (pe_def D_are_delays hr (pa_cons (pv 3) (pa_cons (pv 4) pa_nil))))) (pss_one (ps_ret (pe_lst (pa_cons (pe_gint rfl T.c_OUT_OF_RANGE) pa_nil)))) pss_nil)
      (pss_cons (ps_if (pt_cmpR op_eq (pe_callB call_lenL rfl T.b_len PySem.boot_len (pa_cons (pe_fld (pv 0) rfl) pa_nil)) (pe_gint rfl T.c_MOST_PATHS) (nomark _)) (pss_one (ps_ret (pe_lst (pa_cons (pe_gint rfl T.c_FULL) pa_nil)))) pss_nil)
      (pss_cons (ps_expr (pe_bm PySem.F.plainAttrs_list PySem.F.slot_list_append PySem.F.type_list_append mt_append (pe_fld (pv 0) rfl) (pa_cons (pe_new D_Path hr (pa_cons (pv 1) (pa_cons (pv 2) (pa_cons (pv 3) (pa_cons (pv 4) pa_nil))))) pa_nil)))
      (pss_one (ps_ret (pe_lst (pa_cons (pe_op op_sub (pe_callB call_lenL rfl T.b_len PySem.boot_len (pa_cons (pe_fld (pv 0) rfl) pa_nil)) pe_int) pa_nil)))))))), ?_⟩
    obtain ⟨db, hb⟩ := B.at_
    obtain ⟨qs, hc, pc⟩ := B.paths
    have el := paired_len pc
    unfold spDelays
    walk_at "rd"
    refine ⟨b, lc, lp, s, i, rfl, B, ?_⟩
    walk_at "rd"
    split
    · rename_i hi
      refine ⟨b, lc, lp, s, j, rfl, B, ?_⟩
      walk_at "rd"
      split
      · rename_i hj
        intro p hp
        rw [step_path_j hi hj] at k
        exact k _ _ (.one B hp)
      · rename_i hj
        have hj := Classical.not_not.mp hj
        split
        · rename_i h1
          intro p hp
          rw [step_path_no hi hj h1] at k
          exact k _ _ (.one B hp)
        · rename_i h1
          have h1 := Classical.not_not.mp h1
          simp only [hb]
          walk_at "rd"
          simp only [hc]
          walk_at "rd"
          split
          · intro p hp
            rw [step_path_full hi hj h1 (by have := G.paths; omega)] at k
            exact k _ _ (.one B hp)
          · have h3 : s.paths.length < 48 := by have := G.paths; omega
            rw [step_path_ok hi hj h1 h3] at k
            refine ⟨tyV_lst hc, i.toNat, j.toNat, d.toNat, e.toNat, ?_, fun H1 q hq s1 c1 => ?_⟩
            · rw [Int.toNat_of_nonneg (by omega), Int.toNat_of_nonneg (by omega), Int.toNat_of_nonneg (by omega), Int.toNat_of_nonneg (by omega)]
            simp only [s1 _ _ hc]
            walk_at "rd"
            refine ⟨by rw [el]; exact Nat.lt_trans h3 (by decide), ?_⟩
            have B1 := B.same s1
            simp only [upd_ne B.ne_bp, s1 _ _ hb]
            walk_at "rd"
            intro p hp
            have e1 : List.map V.ref qs ++ [V.ref q] = (qs ++ [q]).map V.ref := by rw [List.map_append]; rfl
            have e2 : (((qs ++ [q]).map V.ref).length : Int) - 1 = (s.paths.length : Int) := by rw [List.length_map, List.length_append, List.length_singleton]; omega
            rw [e1] at hp ⊢
            rw [e2]
            exact k _ _ (.fin (ans := [(s.paths.length : Int)]) (B1.setPaths (paired_snoc (Paired.imp' (fun _ _ ⟨d, e⟩ => ⟨d, s1 _ _ e⟩) pc) c1)) (.inl rfl) (.inl rfl) ((Kept.of s1).trans kept_upd_p) (s1.free (grow_upd hp)) hp)
    · rename_i hi
      intro p hp
      rw [step_path_i hi] at k
      exact k _ _ (.one B hp)
theorem map_erase {α β : Type} (f : α → β) : ∀ (l : List α) (i : Nat), (l.map f).eraseIdx i = (l.eraseIdx i).map f
  | [], _ => rfl
  | a :: l, 0 => rfl
  | a :: l, i + 1 => congrArg (f a :: ·) (map_erase f l i)
theorem ix_nat {n : Nat} {k : Int} (h : 0 ≤ k ∧ k < n) : ixN n k = some k.toNat := by
  unfold ixN
  rw [if_pos h.1, if_pos h.2]
theorem ok_set_bounds {f : Addr} {fd : FuncData} (F : Fun K "set_bounds" "set_bounds" s_set_bounds f fd) (T : Txt K mg cC cP cB cR cU) (D_has_chip : Def P w K mg base 1 "has_chip" (spHasChip cC cP cB)) (D_are_bounds : Def P w K mg base 1 "are_bounds" spBounds) (D_Chip : New P w K mg base 1 "Chip" (spChip cC)) :
    FnOk P w K mg base CX0 3 f fd ps_set_bounds (spDo cC cP cB isBound) := by
  refine F.ok sc_set_bounds (fun vs H Q E h => ?_) (fun cdv A outer s H vs Q E hr h => ?_)
  · obtain ⟨b, lc, lp, s, us, c, rfl, ⟨i, x, y, rfl, rfl⟩, _⟩ := h
    rfl
  · obtain ⟨b, lc, lp, s, us, c, rfl, ⟨i, x, y, rfl, rfl⟩, G, B, k⟩ := h
    refine ⟨_, (pss_cons (ps_if (pt_not (pt_val (pe_def D_has_chip hr (pa_cons (pv 0) (pa_cons (pv 1) pa_nil))))) (pss_one (ps_ret (pe_lst (pa_cons (pe_gint rfl T.c_NO_CHIP) pa_nil)))) pss_nil)
      (pss_cons (ps_if (pt_not (pt_val (pe_def D_are_bounds hr (pa_cons (pv 2) (pa_cons (pv 3) pa_nil))))) (pss_one (ps_ret (pe_lst (pa_cons (pe_gint rfl T.c_OUT_OF_RANGE) pa_nil)))) pss_nil)
      (pss_cons (ps_asg (pe_new D_Chip hr (pa_cons (pv 2) (pa_cons (pv 3) pa_nil))) (pg_sub (pe_fld (pv 0) rfl) (pv 1) set_list))
      (pss_one (ps_ret (pe_lst (pa_cons pe_int pa_nil))))))), ?_⟩
    obtain ⟨db, hb⟩ := B.at_
    obtain ⟨cs, hc, pc⟩ := B.chips
    have el := paired_len pc
    unfold spBounds
    walk_at "rd"
    refine ⟨b, lc, lp, s, i, rfl, B, ?_⟩
    walk_at "rd"
    split
    · rename_i hi
      intro p hp
      rw [step_bound_i hi] at k
      exact k _ _ (.one B hp)
    · rename_i hi
      have hi := Classical.not_not.mp hi
      split
      · rename_i h1
        intro p hp
        rw [step_bound_no hi h1] at k
        exact k _ _ (.one B hp)
      · rename_i h1
        have h1 := Classical.not_not.mp h1
        rw [step_bound_ok hi h1] at k
        refine ⟨x, y, rfl, fun H1 q hq s1 c1 => ?_⟩
        have B1 := B.same s1
        simp only [s1 _ _ hb]
        walk_at "rd"
        simp only [s1 _ _ hc]
        walk_at "rd"
        rw [el]
        refine ⟨_, ix_nat hi, fun p hp => ?_⟩
        have e1 : (List.map V.ref cs).set i.toNat (V.ref q) = (cs.set i.toNat q).map V.ref := by rw [List.map_set]
        rw [e1] at hp ⊢
        exact k _ _ (.fin (ans := [0]) (B1.setChips (paired_set c1 _ (Paired.imp' (fun _ _ ⟨d, e⟩ => ⟨d, s1 _ _ e⟩) pc))) (.inl rfl) (.inl rfl) ((Kept.of s1).trans kept_upd_c) (s1.free (grow_upd hp)) hp)
theorem ok_set_delays {f : Addr} {fd : FuncData} (F : Fun K "set_delays" "set_delays" s_set_delays f fd) (T : Txt K mg cC cP cB cR cU) (D_has_path : Def P w K mg base 1 "has_path" (spHasPath cC cP cB)) (D_are_delays : Def P w K mg base 1 "are_delays" spDelays) (D_Path : New P w K mg base 1 "Path" (spPath cP)) :
    FnOk P w K mg base CX0 3 f fd ps_set_delays (spDo cC cP cB isDelay) := by
  refine F.ok sc_set_delays (fun vs H Q E h => ?_) (fun cdv A outer s H vs Q E hr h => ?_)
  · obtain ⟨b, lc, lp, s, us, c, rfl, ⟨n, d, e, rfl, rfl⟩, _⟩ := h
    rfl
  · obtain ⟨b, lc, lp, s, us, c, rfl, ⟨n, d, e, rfl, rfl⟩, G, B, k⟩ := h
    refine ⟨_, (pss_cons (ps_if (pt_not (pt_val (pe_def D_has_path hr (pa_cons (pv 0) (pa_cons (pv 1) pa_nil))))) (pss_one (ps_ret (pe_lst (pa_cons (pe_gint rfl T.c_NO_PATH) pa_nil)))) pss_nil)
      (pss_cons (ps_if (pt_not (pt_val (pe_def D_are_delays hr (pa_cons (pv 2) (pa_cons (pv 3) pa_nil))))) (pss_one (ps_ret (pe_lst (pa_cons (pe_gint rfl T.c_OUT_OF_RANGE) pa_nil)))) pss_nil)
      (pss_cons (ps_set (i := 4) sc_set_delays.nd rfl (by first | exact Or.inl rfl | exact Or.inr rfl) (pe_ix ix_own (pe_fld (pv 0) rfl) (pv 1) (fun _ _ => rfl)))
      (pss_cons (ps_asg (pe_new D_Path hr (pa_cons (pe_fld (pv 4) rfl) (pa_cons (pe_fld (pv 4) rfl) (pa_cons (pv 2) (pa_cons (pv 3) pa_nil))))) (pg_sub (pe_fld (pv 0) rfl) (pv 1) set_list))
      (pss_one (ps_ret (pe_lst (pa_cons pe_int pa_nil)))))))), ?_⟩
    obtain ⟨db, hb⟩ := B.at_
    obtain ⟨qs, hc, pc⟩ := B.paths
    have el := paired_len pc
    unfold spDelays
    walk_at "rd"
    refine ⟨b, lc, lp, s, n, rfl, B, ?_⟩
    walk_at "rd"
    split
    · rename_i hi
      intro p hp
      rw [step_delay_k hi] at k
      exact k _ _ (.one B hp)
    · rename_i hi
      have hi := Classical.not_not.mp hi
      split
      · rename_i h1
        intro p hp
        rw [step_delay_no hi h1] at k
        exact k _ _ (.one B hp)
      · rename_i h1
        have h1 := Classical.not_not.mp h1
        obtain ⟨q0, hq0⟩ : ∃ q0, s.paths[n.toNat]? = some q0 := ⟨_, List.getElem?_eq_getElem (by omega)⟩
        obtain ⟨a0, ha0, dq, hq⟩ := paired_at pc hq0
        rw [step_delay_ok hi h1 hq0] at k
        simp only [hb]
        walk_at "rd"
        simp only [hc]
        walk_at "rd"
        have ea : atI (List.map V.ref qs) n = some (V.ref a0) := at_of (j := n.toNat) (by omega) (by rw [List.getElem?_map, ha0]; rfl)
        refine ⟨_, ea, ?_⟩
        walk_at "rd"
        simp only [hq]
        walk_at "rd"
        refine ⟨q0.i, q0.j, d.toNat, e.toNat, ?_, fun H1 q hn s1 c1 => ?_⟩
        · rw [Int.toNat_of_nonneg (by omega), Int.toNat_of_nonneg (by omega)]
        have B1 := B.same s1
        simp only [s1 _ _ hb]
        walk_at "rd"
        simp only [s1 _ _ hc]
        walk_at "rd"
        rw [el]
        refine ⟨_, ix_nat hi, fun p hp => ?_⟩
        have e1 : (List.map V.ref qs).set n.toNat (V.ref q) = (qs.set n.toNat q).map V.ref := by rw [List.map_set]
        rw [e1] at hp ⊢
        exact k _ _ (.fin (ans := [0]) (B1.setPaths (paired_set c1 _ (Paired.imp' (fun _ _ ⟨d, e⟩ => ⟨d, s1 _ _ e⟩) pc))) (.inl rfl) (.inl rfl) ((Kept.of s1).trans kept_upd_p) (s1.free (grow_upd hp)) hp)
theorem ok_take_away {f : Addr} {fd : FuncData} (F : Fun K "take_away" "take_away" s_take_away f fd) (T : Txt K mg cC cP cB cR cU) (D_has_path : Def P w K mg base 1 "has_path" (spHasPath cC cP cB)) :
    FnOk P w K mg base CX0 2 f fd ps_take_away (spDo cC cP cB isAway) := by
  refine F.ok sc_take_away (fun vs H Q E h => ?_) (fun cdv A outer s H vs Q E hr h => ?_)
  · obtain ⟨b, lc, lp, s, us, c, rfl, ⟨n, rfl, rfl⟩, _⟩ := h
    rfl
  · obtain ⟨b, lc, lp, s, us, c, rfl, ⟨n, rfl, rfl⟩, G, B, k⟩ := h
    refine ⟨_, (pss_cons (ps_if (pt_not (pt_val (pe_def D_has_path hr (pa_cons (pv 0) (pa_cons (pv 1) pa_nil))))) (pss_one (ps_ret (pe_lst (pa_cons (pe_gint rfl T.c_NO_PATH) pa_nil)))) pss_nil)
      (pss_cons (ps_expr (pe_bm PySem.F.plainAttrs_list PySem.F.slot_list_pop PySem.F.type_list_pop mt_popAt (pe_fld (pv 0) rfl) (pa_cons (pv 1) pa_nil)))
      (pss_one (ps_ret (pe_lst (pa_cons pe_int pa_nil)))))), ?_⟩
    obtain ⟨db, hb⟩ := B.at_
    obtain ⟨qs, hc, pc⟩ := B.paths
    have el := paired_len pc
    walk_at "rd"
    refine ⟨b, lc, lp, s, n, rfl, B, ?_⟩
    walk_at "rd"
    split
    · rename_i hi
      intro p hp
      rw [step_away_k hi] at k
      exact k _ _ (.one B hp)
    · rename_i hi
      have hi := Classical.not_not.mp hi
      rw [step_away_ok hi] at k
      simp only [hb]
      walk_at "rd"
      refine ⟨tyV_lst hc, ?_⟩
      simp only [hc]
      walk_at "rd"
      refine ⟨by omega, by have := G.paths; omega, n.toNat, ?_, ?_, fun p hp => ?_⟩
      · exact (ixN_seq (by rw [el]; exact ix_nat hi)).1
      · exact ⟨_, List.getElem?_eq_getElem (by rw [List.length_map]; omega)⟩
      · rw [map_erase] at hp ⊢
        exact k _ _ (.fin (ans := [0]) (B.setPaths (paired_erase _ pc)) (.inl rfl) (.inl rfl) kept_upd_p (grow_upd hp) hp)
theorem ok_clear_all {f : Addr} {fd : FuncData} (F : Fun K "clear_all" "clear_all" s_clear_all f fd) (T : Txt K mg cC cP cB cR cU) :
    FnOk P w K mg base CX0 1 f fd ps_clear_all (spDo cC cP cB isClear) := by
  refine F.ok sc_clear_all (fun vs H Q E h => ?_) (fun cdv A outer s H vs Q E hr h => ?_)
  · obtain ⟨b, lc, lp, s, us, c, rfl, ⟨rfl, rfl⟩, _⟩ := h
    rfl
  · obtain ⟨b, lc, lp, s, us, c, rfl, ⟨rfl, rfl⟩, G, B, k⟩ := h
    refine ⟨_, (pss_cons (ps_fld (pv 0) pe_int rfl)
      (pss_cons (ps_fld (pv 0) pe_int rfl)
      (pss_cons (ps_fld (pv 0) (pe_lst pa_nil) rfl)
      (pss_cons (ps_fld (pv 0) (pe_lst pa_nil) rfl)
      (pss_one (ps_ret (pe_lst (pa_cons pe_int pa_nil)))))))), ?_⟩
    obtain ⟨db, hb⟩ := B.at_
    walk_at "rd"
    simp only [hb]
    walk_at "rd"
    intro p hp
    have hxp : b ≠ p := ne_of_none upd_same hp
    simp only [upd_ne hxp]
    walk_at "rd"
    intro p1 hp1
    have hxp1 : b ≠ p1 := ne_of_none upd_same hp1
    simp only [upd_ne hxp1]
    walk_at "rd"
    have hpp : p ≠ p1 := ne_of_none (by rw [upd_ne (Ne.symm hxp)]; exact upd_same) hp1
    rw [upd_ne (Ne.symm hxp)] at hp
    rw [upd_ne (Ne.symm hxp1), upd_ne (Ne.symm hpp), upd_ne (Ne.symm hxp1)] at hp1
    intro p2 hp2
    refine k _ _ (.fin (ans := [0]) (lc' := p) (lp' := p1) ⟨⟨db, upd_same⟩, ⟨[], ?_, .nil⟩, ⟨[], ?_, .nil⟩, hpp⟩ (.inr hp) (.inr hp1) (fun a o e n _ _ => ?_) (grow_upd (grow_upd (grow_upd (grow_upd (grow_upd hp2))))) hp2)
    · rw [upd_ne (Ne.symm hxp), upd_ne hpp, upd_ne (Ne.symm hxp)]
      exact upd_same
    · rw [upd_ne (Ne.symm hxp1)]
      exact upd_same
    · rw [upd_ne n, upd_ne (ne_of_none e hp1), upd_ne n, upd_ne (ne_of_none e hp), upd_ne n]
      exact e
end
end Ck

set_option Elab.async false
set_option linter.all false
set_option maxRecDepth 100000
set_option maxHeartbeats 4000000
namespace Ck
open PySem PySem.Spec PyProof.Rows L2
theorem take_num {α β : Type} (f : Nat × α → List β) (l : List α) {i : Nat} {x : α} (h : l[i]? = some x) : ((num 0 l).take (i + 1)).flatMap f = ((num 0 l).take i).flatMap f ++ f (i, x) := by
  have e : (num 0 l)[i]? = some (i, x) := by rw [num_at, h]; simp
  rw [List.take_succ, e, List.flatMap_append]
  simp
section
variable {P : Program} {w : World} {K : PySem.W.Frag} {mg : Str → Option Value} {base : Heap} {cC cP cB cR cU : Addr}
structure RuleList (cU : Addr) (H0 H : Hp) (l : Addr) (rs : List Ru) : Prop where
  same : Same H0 H
  new : H0 l = none
  at_ : RulesAt cU H l rs
theorem RuleList.start {H0 H : Hp} {l : Addr} (k : Same H0 H) (n : H l = none) : RuleList cU H0 (upd H l (.lst [])) l [] := ⟨(Grown.start (xs := []) k n).same, k.free n, [], upd_same, .nil⟩
theorem RuleList.add {H0 H H1 : Hp} {l x : Addr} {rs : List Ru} {r : Ru} {as : List Addr} (h : RuleList cU H0 H l rs) (hl : H l = some (.lst (as.map V.ref))) (pa : Paired (RuleAt cU H) as rs) (k : Same H H1) (hr : RuleAt cU H1 x r) :
    RuleList cU H0 (upd H1 l (.lst (as.map V.ref ++ [V.ref x]))) l (rs ++ [r]) := by
  have hl1 := k _ _ hl
  refine ⟨fun a o e => ?_, h.new, as ++ [x], by rw [upd_same, List.map_append]; rfl, ?_⟩
  · rw [upd_ne (ne_of_none e h.new)]
    exact k _ _ (h.same _ _ e)
  · exact rules_put (paired_snoc (rules_same pa k) hr) hl1
def spChipRules (cC cP cB cU : Addr) : Sp := fun vs H Q _ => ∃ b lc lp s, vs = [.ref b] ∧ Good s ∧ BoardAt cC cP cB H b lc lp s ∧ giveRules cU H (chipRus s) Q
theorem ok_chip_rules {f : Addr} {fd : FuncData} (F : Fun K "chip_rules" "chip_rules" s_chip_rules f fd) (T : Txt K mg cC cP cB cR cU) (D_zero_of : Def P w K mg base 1 "zero_of" (spZero cC cP cB)) (D_Rule : New P w K mg base 1 "Rule" (spRule cU)) :
    FnOk P w K mg base CX0 3 f fd ps_chip_rules (spChipRules cC cP cB cU) := by
  refine F.ok sc_chip_rules (fun vs H Q E h => ?_) (fun cdv A outer s H vs Q E hr h => ?_)
  · obtain ⟨b, lc, lp, s, rfl, _⟩ := h
    rfl
  · obtain ⟨b, lc, lp, s, rfl, G, B, k⟩ := h
    refine ⟨_, (pss_cons (ps_set (i := 1) sc_chip_rules.nd rfl (by first | exact Or.inl rfl | exact Or.inr rfl) (pe_def D_zero_of hr (pa_cons (pv 0) pa_nil)))
      (pss_cons (ps_set (i := 2) sc_chip_rules.nd rfl (by first | exact Or.inl rfl | exact Or.inr rfl) (pe_lst pa_nil))
      (pss_cons (ps_for PassesOwn.never rfl (pi_enum rfl T.b_enumerate (pa_cons (pe_fld (pv 0) rfl) pa_nil)) (pg_tup rfl (pgs_cons (pg_name (i := 3) sc_chip_rules.nd rfl (by first | exact Or.inl rfl | exact Or.inr rfl)) (pgs_cons (pg_name (i := 4) sc_chip_rules.nd rfl (by first | exact Or.inl rfl | exact Or.inr rfl)) pgs_nil)))
      (pss_cons (ps_expr (pe_bm PySem.F.plainAttrs_list PySem.F.slot_list_append PySem.F.type_list_append mt_append (pv 2) (pa_cons (pe_new D_Rule hr (pa_cons (pe_gint rfl T.c_KIND_HI) (pa_cons (pv 3) (pa_cons (pv 1) (pa_cons (pv 3) (pa_cons (pe_fld (pv 4) rfl) pa_nil)))))) pa_nil)))
      (pss_one (ps_expr (pe_bm PySem.F.plainAttrs_list PySem.F.slot_list_append PySem.F.type_list_append mt_append (pv 2) (pa_cons (pe_new D_Rule hr (pa_cons (pe_gint rfl T.c_KIND_LO) (pa_cons (pv 3) (pa_cons (pv 3) (pa_cons (pv 1) (pa_cons (pe_un un_neg (pe_fld (pv 4) rfl)) pa_nil)))))) pa_nil))))))
      (pss_one (ps_ret (pv 2)))))), ?_⟩
    obtain ⟨db, hb⟩ := B.at_
    obtain ⟨cs, hc, pc⟩ := B.chips
    have el := paired_len pc
    have g1 := G.chips
    refine ⟨_, rfl, b, lc, lp, s, rfl, B, ?_⟩
    refine ⟨Nat.zero_le _, fun l hl => ?_⟩
    have R0 : RuleList cU H (upd H l (.lst [])) l [] := .start (same_refl H) hl
    refine ⟨_, rfl, b, cB, db, _, _, rfl, R0.same _ _ hb, T.clB, T.chips, rfl, lc, _, rfl, SqL.of (R0.same _ _ hc), for_enum (K := K) (xs := cs.map V.ref) (fun i σ H' => ∃ v3 v4 : Option V, σ = [some (.ref b), some (.int (s.chips.length : Nat)), some (.ref l), v3, v4] ∧ RuleList cU H H' l (((num 0 s.chips).take i).flatMap (chipRu s.chips.length)))
      ⟨none, none, rfl, R0⟩ (fun i σ H' _ ⟨_, _, _, M⟩ => SqL.of (M.same _ _ hc)) ?_ ?_⟩
    · rintro i y σ H' tt hi ⟨v3, v4, rfl, M⟩ ht
      obtain ⟨a, ha, rfl⟩ := map_at hi
      obtain ⟨x, hx, d, hcc⟩ : ∃ x, s.chips[i]? = some x ∧ ChipAt cC H a x := paired_get pc ha
      have hil : i < s.chips.length := (List.getElem?_eq_some_iff.mp hx).1
      rw [take_num _ _ hx]
      have lL : (((num 0 s.chips).take i).flatMap (chipRu s.chips.length)).length ≤ 100 := by
        rw [flat_len _ 2 (fun _ => rfl), List.length_take]
        omega
      generalize ((num 0 s.chips).take i).flatMap (chipRu s.chips.length) = L at M lL ⊢
      have k1 : Same H' (upd H' tt (.tup [.int (i : Nat), .ref a])) := same_new ht
      obtain ⟨as, hl1, pa⟩ := M.at_
      have ea := paired_len pa
      have hcc1 := k1 _ _ (M.same _ _ hcc)
      refine ⟨_, rfl, tyV_lst (k1 _ _ hl1), _, rfl, _, rfl, _, rfl, _, rfl, a, cC, d, _, _, rfl, hcc1, T.clC, T.hi, rfl, ⟨0, i, s.chips.length, i, x.hi⟩, rfl, fun H2 q hq s2 r2 => ?_⟩
      refine ⟨l, _, _, rfl, rfl, s2 _ _ (k1 _ _ hl1), by rw [List.length_map]; exact lit_small (by omega), ?_⟩
      have M2 := M.add hl1 pa (k1.trans s2) r2
      have hcc2 := M2.same _ _ hcc
      generalize upd H2 l (.lst (as.map V.ref ++ [V.ref q])) = H3 at M2 hcc2 ⊢
      obtain ⟨as2, hl2, pa2⟩ := M2.at_
      have ea2 := paired_len pa2
      rw [List.length_append, List.length_singleton] at ea2
      refine ⟨_, rfl, tyV_lst hl2, _, rfl, _, rfl, _, rfl, _, rfl, a, cC, d, _, _, rfl, hcc2, T.clC, T.lo, rfl, _, rfl, ⟨1, i, i, s.chips.length, -x.lo⟩, rfl, fun H4 q4 hq4 s4 r4 => ?_⟩
      refine ⟨l, _, _, rfl, rfl, s4 _ _ hl2, by rw [List.length_map]; exact lit_small (by omega), ?_⟩
      have M4 := M2.add hl2 pa2 s4 r4
      rw [List.append_assoc] at M4
      exact ⟨_, _, rfl, M4⟩
    · rintro σ H1 ⟨v3, v4, rfl, M⟩
      rw [List.length_map, el, List.take_of_length_le (by rw [num_length]; omega)] at M
      exact ⟨_, rfl, k _ _ M.same M.new M.at_⟩
def spPathRules (cC cP cB cU : Addr) : Sp := fun vs H Q _ => ∃ b lc lp s p g, vs = [.ref b, .int p, .int (g : Nat)] ∧ Good s ∧ BoardAt cC cP cB H b lc lp s ∧ giveRules cU H (pathRus s p g) Q
theorem ok_path_rules {f : Addr} {fd : FuncData} (F : Fun K "path_rules" "path_rules" s_path_rules f fd) (T : Txt K mg cC cP cB cR cU) (D_Rule : New P w K mg base 1 "Rule" (spRule cU)) :
    FnOk P w K mg base CX0 3 f fd ps_path_rules (spPathRules cC cP cB cU) := by
  refine F.ok sc_path_rules (fun vs H Q E h => ?_) (fun cdv A outer s H vs Q E hr h => ?_)
  · obtain ⟨b, lc, lp, s, p, g, rfl, _⟩ := h
    rfl
  · obtain ⟨b, lc, lp, s, p, g, rfl, G, B, k⟩ := h
    refine ⟨_, (pss_cons (ps_set (i := 3) sc_path_rules.nd rfl (by first | exact Or.inl rfl | exact Or.inr rfl) (pe_op op_add (pe_fld (pv 0) rfl) (pv 2)))
      (pss_cons (ps_set (i := 4) sc_path_rules.nd rfl (by first | exact Or.inl rfl | exact Or.inr rfl) (pe_op op_add (pe_fld (pv 0) rfl) (pv 2)))
      (pss_cons (ps_set (i := 5) sc_path_rules.nd rfl (by first | exact Or.inl rfl | exact Or.inr rfl) (pe_lst pa_nil))
      (pss_cons (ps_for PassesOwn.never rfl (pi_enum rfl T.b_enumerate (pa_cons (pe_fld (pv 0) rfl) pa_nil)) (pg_tup rfl (pgs_cons (pg_name (i := 6) sc_path_rules.nd rfl (by first | exact Or.inl rfl | exact Or.inr rfl)) (pgs_cons (pg_name (i := 7) sc_path_rules.nd rfl (by first | exact Or.inl rfl | exact Or.inr rfl)) pgs_nil)))
      (pss_cons (ps_expr (pe_bm PySem.F.plainAttrs_list PySem.F.slot_list_append PySem.F.type_list_append mt_append (pv 5) (pa_cons (pe_new D_Rule hr (pa_cons (pe_gint rfl T.c_KIND_SETUP) (pa_cons (pv 6) (pa_cons (pe_fld (pv 7) rfl) (pa_cons (pe_fld (pv 7) rfl) (pa_cons (pe_op op_sub (pe_op op_sub (pv 1) (pv 3)) (pe_fld (pv 7) rfl)) pa_nil)))))) pa_nil)))
      (pss_one (ps_expr (pe_bm PySem.F.plainAttrs_list PySem.F.slot_list_append PySem.F.type_list_append mt_append (pv 5) (pa_cons (pe_new D_Rule hr (pa_cons (pe_gint rfl T.c_KIND_HOLD) (pa_cons (pv 6) (pa_cons (pe_fld (pv 7) rfl) (pa_cons (pe_fld (pv 7) rfl) (pa_cons (pe_op op_sub (pe_fld (pv 7) rfl) (pv 4)) pa_nil)))))) pa_nil))))))
      (pss_one (ps_ret (pv 5))))))), ?_⟩
    obtain ⟨db, hb⟩ := B.at_
    obtain ⟨cs, hc, pc⟩ := B.paths
    have el := paired_len pc
    have g1 := G.paths
    refine ⟨_, rfl, b, cB, db, _, _, rfl, hb, T.clB, T.setup, rfl, _, rfl, _, _, rfl, rfl, _, rfl, b, cB, db, _, _, rfl, hb, T.clB, T.hold, rfl, _, rfl, _, _, rfl, rfl, ?_⟩
    refine ⟨Nat.zero_le _, fun l hl => ?_⟩
    have R0 : RuleList cU H (upd H l (.lst [])) l [] := .start (same_refl H) hl
    refine ⟨_, rfl, b, cB, db, _, _, rfl, R0.same _ _ hb, T.clB, T.paths, rfl, lp, _, rfl, SqL.of (R0.same _ _ hc), for_enum (K := K) (xs := cs.map V.ref) (fun i σ H' => ∃ v3 v4 : Option V, σ = [some (.ref b), some (.int p), some (.int (g : Nat)), some (.int ((s.setup : Int) + (g : Int))), some (.int ((s.hold : Int) + (g : Int))), some (.ref l), v3, v4] ∧ RuleList cU H H' l (((num 0 s.paths).take i).flatMap (pathRu s p g)))
      ⟨none, none, rfl, R0⟩ (fun i σ H' _ ⟨_, _, _, M⟩ => SqL.of (M.same _ _ hc)) ?_ ?_⟩
    · rintro i y σ H' tt hi ⟨v3, v4, rfl, M⟩ ht
      obtain ⟨a, ha, rfl⟩ := map_at hi
      obtain ⟨x, hx, d, hcc⟩ : ∃ x, s.paths[i]? = some x ∧ PathAt cP H a x := paired_get pc ha
      have hil : i < s.paths.length := (List.getElem?_eq_some_iff.mp hx).1
      rw [take_num _ _ hx]
      have lL : (((num 0 s.paths).take i).flatMap (pathRu s p g)).length ≤ 100 := by
        rw [flat_len _ 2 (fun _ => rfl), List.length_take]
        omega
      generalize ((num 0 s.paths).take i).flatMap (pathRu s p g) = L at M lL ⊢
      have k1 : Same H' (upd H' tt (.tup [.int (i : Nat), .ref a])) := same_new ht
      obtain ⟨as, hl1, pa⟩ := M.at_
      have ea := paired_len pa
      have hcc1 := k1 _ _ (M.same _ _ hcc)
      refine ⟨_, rfl, tyV_lst (k1 _ _ hl1), _, rfl, _, rfl, a, cP, d, _, _, rfl, hcc1, T.clP, T.j, rfl, _, rfl, a, cP, d, _, _, rfl, hcc1, T.clP, T.i, rfl, _, rfl, _, rfl, _, _, rfl, rfl, _, rfl, a, cP, d, _, _, rfl, hcc1, T.clP, T.e, rfl, _, _, rfl, rfl, ⟨2, i, x.j, x.i, p - ((s.setup : Int) + (g : Int)) - (x.e : Int)⟩, rfl, fun H2 q hq s2 r2 => ?_⟩
      refine ⟨l, _, _, rfl, rfl, s2 _ _ (k1 _ _ hl1), by rw [List.length_map]; exact lit_small (by omega), ?_⟩
      have M2 := M.add hl1 pa (k1.trans s2) r2
      have hcc2 := M2.same _ _ hcc
      generalize upd H2 l (.lst (as.map V.ref ++ [V.ref q])) = H3 at M2 hcc2 ⊢
      obtain ⟨as2, hl2, pa2⟩ := M2.at_
      have ea2 := paired_len pa2
      rw [List.length_append, List.length_singleton] at ea2
      refine ⟨_, rfl, tyV_lst hl2, _, rfl, _, rfl, a, cP, d, _, _, rfl, hcc2, T.clP, T.i, rfl, _, rfl, a, cP, d, _, _, rfl, hcc2, T.clP, T.j, rfl, _, rfl, a, cP, d, _, _, rfl, hcc2, T.clP, T.d, rfl, _, rfl, _, _, rfl, rfl, ⟨3, i, x.i, x.j, (x.d : Int) - ((s.hold : Int) + (g : Int))⟩, rfl, fun H4 q4 hq4 s4 r4 => ?_⟩
      refine ⟨l, _, _, rfl, rfl, s4 _ _ hl2, by rw [List.length_map]; exact lit_small (by omega), ?_⟩
      have M4 := M2.add hl2 pa2 s4 r4
      rw [List.append_assoc] at M4
      exact ⟨_, _, rfl, M4⟩
    · rintro σ H1 ⟨v3, v4, rfl, M⟩
      rw [List.length_map, el, List.take_of_length_le (by rw [num_length]; omega)] at M
      exact ⟨_, rfl, k _ _ M.same M.new M.at_⟩
def spRulesOf (cC cP cB cU : Addr) : Sp := fun vs H Q _ => ∃ b lc lp s p g, vs = [.ref b, .int p, .int (g : Nat)] ∧ Good s ∧ BoardAt cC cP cB H b lc lp s ∧ giveRules cU H (cru s p g) Q
theorem paired_cat {α β : Type} {F : α → β → Prop} : ∀ {l l' : List α} {m m' : List β}, Paired F l m → Paired F l' m' → Paired F (l ++ l') (m ++ m')
  | _, _, _, _, .nil, h => h
  | _, _, _, _, .cons r t, h => .cons r (paired_cat t h)
theorem ok_rules_of {f : Addr} {fd : FuncData} (F : Fun K "rules_of" "rules_of" s_rules_of f fd) (T : Txt K mg cC cP cB cR cU) (D_chip_rules : Def P w K mg base 3 "chip_rules" (spChipRules cC cP cB cU)) (D_path_rules : Def P w K mg base 3 "path_rules" (spPathRules cC cP cB cU)) :
    FnOk P w K mg base CX0 4 f fd ps_rules_of (spRulesOf cC cP cB cU) := by
  refine F.ok sc_rules_of (fun vs H Q E h => ?_) (fun cdv A outer s H vs Q E hr h => ?_)
  · obtain ⟨b, lc, lp, s, p, g, rfl, _⟩ := h
    rfl
  · obtain ⟨b, lc, lp, s, p, g, rfl, G, B, k⟩ := h
    refine ⟨_, (pss_one (ps_ret (pe_op op_cat (pe_def D_chip_rules hr (pa_cons (pv 0) pa_nil)) (pe_def D_path_rules hr (pa_cons (pv 0) (pa_cons (pv 1) (pa_cons (pv 2) pa_nil))))))), ?_⟩
    refine ⟨_, rfl, b, lc, lp, s, rfl, G, B, fun H1 l1 s1 n1 ⟨as, h1, p1⟩ => ?_⟩
    refine ⟨_, rfl, _, rfl, _, rfl, b, lc, lp, s, p, g, rfl, G, B.same s1, fun H2 l2 s2 n2 ⟨bs, h2, p2⟩ => ?_⟩
    have e1 := paired_len p1
    have e2 := paired_len p2
    have c1 := chipRus_len (s := s)
    have c2 := pathRus_len (s := s) (p := p) (g := g)
    have g1 := G.chips
    have g2 := G.paths
    refine ⟨l1, l2, _, _, rfl, rfl, s2 _ _ h1, h2, by rw [List.length_map, List.length_map]; exact lit_le (by omega), fun l hl => ?_⟩
    refine k _ _ ((s1.trans s2).trans (same_new hl)) ((s1.trans s2).free hl) ⟨as ++ bs, by rw [upd_same, List.map_append], ?_⟩
    exact paired_cat (rules_same p1 (s2.trans (same_new hl))) (rules_same p2 (same_new hl))
theorem at_getD {l : List Int} {i : Nat} (h : i < l.length) : atI (l.map V.int) (i : Int) = some (V.int (l.getD i 0)) := by
  refine atI_nat ?_
  rw [List.getElem?_map, List.getElem?_eq_getElem h, List.getD_eq_getElem?_getD, List.getElem?_eq_getElem h]
  rfl
def Fits (rs : List Ru) (n : Nat) : Prop := ∀ r ∈ rs, r.b < n ∧ r.e < n
def spLeft (cU : Addr) : Sp := fun vs H Q _ => ∃ l t rs row, vs = [.ref l, .ref t] ∧ RulesAt cU H l rs ∧ H t = some (.lst (row.map V.int)) ∧ Fits rs (row.length + 1) ∧ rs.length ≤ 128 ∧ row.length ≤ 1000 ∧ ∀ H' p, Grown H H' p ((rs.map (leftOf row)).map V.int) → Q (.ref p) H'
theorem ok_what_is_left {f : Addr} {fd : FuncData} (F : Fun K "what_is_left" "what_is_left" s_what_is_left f fd) (T : Txt K mg cC cP cB cR cU) : FnOk P w K mg base CX0 1 f fd ps_what_is_left (spLeft cU) := by
  refine F.ok sc_what_is_left (fun vs H Q E h => ?_) (fun cdv A outer s H vs Q E hr h => ?_)
  · obtain ⟨l, t, rs, row, rfl, _⟩ := h
    rfl
  · obtain ⟨l, t, rs, row, rfl, ⟨as, hl, pa⟩, ht, fi, n1, n2, k⟩ := h
    refine ⟨_, (pss_cons (ps_set (i := 2) sc_what_is_left.nd rfl (by first | exact Or.inl rfl | exact Or.inr rfl) (pe_op op_cat (pv 1) (pe_lst (pa_cons pe_int pa_nil))))
      (pss_one (ps_ret (pe_lc rfl sc_what_is_left.nd (pi_list (pv 0)) (blkOk_by (N := ["rules", "row", "times", "rule"]) (sc := defScope s_what_is_left) (own := [("rule", 3)]) (by decide +kernel)) (fun _ _ _ _ _ => (pg_name (i := 3) sc_what_is_left.nd rfl (by first | exact Or.inl rfl | exact Or.inr rfl))) (fun _ _ _ _ _ => pts_nil) (fun _ _ _ _ _ => (pe_op op_sub (pe_fldB K (pv 3) rfl) (pe_op op_sub (pe_ix ix_own (pv 2) (pe_fldB K (pv 3) rfl) (fun _ _ => rfl)) (pe_ix ix_own (pv 2) (pe_fldB K (pv 3) rfl) (fun _ _ => rfl))))))))), ?_⟩
    have ea := paired_len pa
    refine ⟨_, rfl, by show 1 ≤ sizeLine; decide, fun z hz => ?_⟩
    have nt : t ≠ z := ne_of_none ht hz
    refine ⟨t, z, _, _, rfl, rfl, by rw [upd_ne nt]; exact ht, upd_same, by rw [List.length_map]; exact lit_le (by show row.length + 1 ≤ _; omega), fun m hm => ?_⟩
    have s1 : Same H (upd (upd H z (.lst [.int 0])) m (.lst (row.map V.int ++ [V.int 0]))) := (same_new hz).trans (same_new hm)
    have hm1 : upd (upd H z (.lst [.int 0])) m (.lst (row.map V.int ++ [V.int 0])) m = some (.lst ((row ++ [0]).map V.int)) := by rw [upd_same, List.map_append]; rfl
    generalize upd (upd H z (.lst [.int 0])) m (.lst (row.map V.int ++ [V.int 0])) = H1 at s1 hm1 ⊢
    refine ⟨_, rfl, l, rfl, ⟨_, SqL.of (s1 _ _ hl)⟩, fun D hD => lc_list (K := K) (xs := as.map V.ref) (fun i H' => ∃ ys, Grown H1 H' D ys ∧ ys = (((rs.map (leftOf row)).take i).map V.int)) ⟨[], .start (same_refl _) hD, rfl⟩ (fun i H' _ ⟨ys, M, _⟩ => SqL.of (M.same _ _ (s1 _ _ hl))) ?_ ?_⟩
    · rintro i y H' hi ⟨ys, M, rfl⟩
      obtain ⟨a, ha, rfl⟩ := map_at hi
      obtain ⟨r, hr', d, hcc⟩ : ∃ x, rs[i]? = some x ∧ RuleAt cU H a x := paired_get pa ha
      obtain ⟨fb, fe⟩ := fi r (List.mem_of_getElem? hr')
      have hcc1 := M.same _ _ (s1 _ _ hcc)
      have hm2 := M.same _ _ hm1
      have e1 : (rs.map (leftOf row))[i]? = some (leftOf row r) := by rw [List.getElem?_map, hr']; rfl
      have il : i < rs.length := (List.getElem?_eq_some_iff.mp hr').1
      refine ⟨rfl, lc_go ?_⟩
      refine ⟨_, rfl, a, cU, d, _, _, rfl, hcc1, T.clU, T.bound, rfl, _, rfl, _, rfl, a, cU, d, _, _, rfl, hcc1, T.clU, T.end_, rfl, m, _, _, _, rfl, rfl, hm2, at_getD (by rw [List.length_append]; exact fe), _, rfl, _, rfl, a, cU, d, _, _, rfl, hcc1, T.clU, T.begin_, rfl, m, _, _, _, rfl, rfl, hm2, at_getD (by rw [List.length_append]; exact fb), _, _, rfl, rfl, _, _, rfl, rfl, ?_⟩
      refine gput (R := fun i ys H' => ys = (((rs.map (leftOf row)).take i).map V.int)) M (same_refl _) (by rw [List.length_map, List.length_take]; exact lit_small (by omega)) ?_
      rw [take_snoc e1, List.map_append]
      rfl
    · rintro H2 ⟨ys, M, rfl⟩
      rw [List.take_of_length_le (by rw [List.length_map, List.length_map]; omega)] at M
      exact k _ _ (M.back s1)
theorem pick_filter {rs : List Ru} {as : List Addr} {H : Hp} {P : Ru → Bool} (pa : Paired (RuleAt cU H) as rs) : ∀ i, ∃ bs : List Addr, Paired (RuleAt cU H) bs ((rs.take i).filter P) := fun i => by
  have := paired_take i pa
  generalize as.take i = as' at this
  generalize rs.take i = rs' at this ⊢
  induction this with
  | nil => exact ⟨[], .nil⟩
  | cons r t ih =>
    obtain ⟨bs, h⟩ := ih
    rw [List.filter_cons]
    split
    · exact ⟨_ :: bs, .cons r h⟩
    · exact ⟨bs, h⟩
def Picked (cU : Addr) (H : Hp) (rs : List Ru) (Pr : Ru → Bool) (i : Nat) (ys : List V) : Prop := ∃ bs : List Addr, ys = bs.map V.ref ∧ Paired (RuleAt cU H) bs ((rs.take i).filter Pr)
theorem picked_len {H : Hp} {rs : List Ru} {Pr : Ru → Bool} {i : Nat} {ys : List V} (h : Picked cU H rs Pr i ys) : ys.length ≤ rs.length := by
  obtain ⟨bs, rfl, p⟩ := h
  rw [List.length_map, paired_len p]
  exact Nat.le_trans (List.length_filter_le _ _) (List.length_take_le' _ _)
theorem picked_yes {H : Hp} {rs : List Ru} {Pr : Ru → Bool} {i : Nat} {ys : List V} {a : Addr} {r : Ru} (h : Picked cU H rs Pr i ys) (hr : rs[i]? = some r) (ha : RuleAt cU H a r) (hp : Pr r = true) : Picked cU H rs Pr (i + 1) (ys ++ [V.ref a]) := by
  obtain ⟨bs, rfl, p⟩ := h
  refine ⟨bs ++ [a], by rw [List.map_append]; rfl, ?_⟩
  rw [take_snoc hr, List.filter_append, List.filter_cons, if_pos hp]
  exact paired_snoc p ha
theorem picked_no {H : Hp} {rs : List Ru} {Pr : Ru → Bool} {i : Nat} {ys : List V} {r : Ru} (h : Picked cU H rs Pr i ys) (hr : rs[i]? = some r) (hp : ¬ Pr r = true) : Picked cU H rs Pr (i + 1) ys := by
  obtain ⟨bs, rfl, p⟩ := h
  refine ⟨bs, rfl, ?_⟩
  rw [take_snoc hr, List.filter_append, List.filter_cons, if_neg hp, List.filter_nil, List.append_nil]
  exact p
def spMissed (cU : Addr) : Sp := fun vs H Q _ => ∃ l t rs row, vs = [.ref l, .ref t] ∧ RulesAt cU H l rs ∧ H t = some (.lst (row.map V.int)) ∧ Fits rs (row.length + 1) ∧ rs.length ≤ 128 ∧ row.length ≤ 1000 ∧ giveRules cU H (missedRu rs row) Q
theorem ok_missed_rules {f : Addr} {fd : FuncData} (F : Fun K "missed_rules" "missed_rules" s_missed_rules f fd) (T : Txt K mg cC cP cB cR cU) (D_what_is_left : Def P w K mg base 1 "what_is_left" (spLeft cU)) : FnOk P w K mg base CX0 2 f fd ps_missed_rules (spMissed cU) := by
  refine F.ok sc_missed_rules (fun vs H Q E h => ?_) (fun cdv A outer s H vs Q E hr h => ?_)
  · obtain ⟨l, t, rs, row, rfl, _⟩ := h
    rfl
  · obtain ⟨l, t, rs, row, rfl, R, ht, fi, n1, n2, k⟩ := h
    refine ⟨_, (pss_one (ps_ret (pe_lc rfl sc_missed_rules.nd (pi_zip rfl T.b_zip (pa_cons (pv 0) (pa_cons (pe_def D_what_is_left hr (pa_cons (pv 0) (pa_cons (pv 1) pa_nil))) pa_nil))) (blkOk_by (N := ["rules", "row", "rule", "left"]) (sc := defScope s_missed_rules) (own := [("rule", 2), ("left", 3)]) (by decide +kernel)) (fun _ _ _ _ _ => (pg_tupB K 2 rfl (pgs_cons (pg_name (i := 2) sc_missed_rules.nd rfl (by first | exact Or.inl rfl | exact Or.inr rfl)) (pgs_cons (pg_name (i := 3) sc_missed_rules.nd rfl (by first | exact Or.inl rfl | exact Or.inr rfl)) pgs_nil)))) (fun _ _ _ _ _ => (pts_one (pt_cmpR op_lt (pv 3) pe_int (nomark _)))) (fun _ _ _ _ _ => (pv 2))))), ?_⟩
    obtain ⟨as, hl, pa⟩ := id R
    have ea := paired_len pa
    refine ⟨_, rfl, _, rfl, _, rfl, l, t, rs, row, rfl, R, ht, fi, n1, n2, fun H1 m M1 => ?_⟩
    have s1 := M1.same
    refine ⟨l, m, _, _, rfl, SqL.of (s1 _ _ hl), SqL.of M1.lst, fun D hD => lc_zip (K := K) (xs := as.map V.ref) (ys := (rs.map (leftOf row)).map V.int) (by simp [ea]) (fun i H' => ∃ ys, Grown H1 H' D ys ∧ Picked cU H rs (fun r => decide (leftOf row r < 0)) i ys) ⟨[], .start (same_refl _) hD, [], rfl, by simp; exact .nil⟩
      (fun i H' _ ⟨ys, M, _⟩ => ⟨SqL.of (M.same _ _ (s1 _ _ hl)), SqL.of (M.same _ _ M1.lst)⟩) ?_ ?_⟩
    · rintro i y z tt H' hi hj ⟨ys, M, pk⟩ ht'
      obtain ⟨a, ha, rfl⟩ := map_at hi
      obtain ⟨z', hz', rfl⟩ := map_at hj
      obtain ⟨r, hr', hcc⟩ : ∃ x, rs[i]? = some x ∧ RuleAt cU H a x := paired_get pa ha
      rw [List.getElem?_map, hr'] at hz'
      have e : leftOf row r = z' := Option.some.inj hz'
      subst e
      have pl := picked_len pk
      have k1 : Same H' (upd H' tt (.tup [.ref a, .int (leftOf row r)])) := same_new ht'
      refine ⟨tt, _, rfl, SqT.of upd_same, rfl, _, _, rfl, _, _, rfl, rfl, rfl, ?_⟩
      refine ⟨_, rfl, _, _, rfl, rfl, _, rfl, ?_⟩
      refine ite2 (fun c => ?_) (fun c => ?_)
      · refine ⟨_, rfl, gput (R := fun i ys H' => Picked cU H rs (fun r => decide (leftOf row r < 0)) i ys) M k1 (lit_small (by omega)) (picked_yes pk hr' hcc c)⟩
      · exact ⟨ys, M.grow k1, picked_no pk hr' c⟩
    · rintro H2 ⟨ys, M, bs, rfl, p⟩
      rw [List.length_map, List.take_of_length_le (by omega)] at p
      exact k _ _ (s1.trans M.same) (s1.free M.new) ⟨bs, M.lst, rules_same p (s1.trans M.same)⟩
def spTold (cU : Addr) : Sp := fun vs H Q _ => ∃ l rs, vs = [.ref l] ∧ RulesAt cU H l rs ∧ rs.length ≤ 128 ∧ ∀ H' p, Grown H H' p ((toldRu rs).map V.int) → Q (.ref p) H'
def ruNums (r : Ru) : List Int := [(r.kind : Int), (r.num : Int)]
theorem ok_told_rules {f : Addr} {fd : FuncData} (F : Fun K "told_rules" "told_rules" s_told_rules f fd) (T : Txt K mg cC cP cB cR cU) : FnOk P w K mg base CX0 1 f fd ps_told_rules (spTold cU) := by
  refine F.ok sc_told_rules (fun vs H Q E h => ?_) (fun cdv A outer s H vs Q E hr h => ?_)
  · obtain ⟨l, rs, rfl, _⟩ := h
    rfl
  · obtain ⟨l, rs, rfl, ⟨as, hl, pa⟩, n1, k⟩ := h
    refine ⟨_, (pss_cons (ps_set (i := 1) sc_told_rules.nd rfl (by first | exact Or.inl rfl | exact Or.inr rfl) (pe_lst (pa_cons (pe_callB call_lenL rfl T.b_len PySem.boot_len (pa_cons (pv 0) pa_nil)) pa_nil)))
      (pss_cons (ps_for PassesOwn.never rfl (pi_list (pv 0)) (pg_name (i := 2) sc_told_rules.nd rfl (by first | exact Or.inl rfl | exact Or.inr rfl))
      (pss_one (ps_expr (pe_bm PySem.F.plainAttrs_list PySem.F.slot_list_extend PySem.F.type_list_extend mt_extend (pv 1) (pa_cons (pe_lst (pa_cons (pe_fld (pv 2) rfl) (pa_cons (pe_fld (pv 2) rfl) pa_nil))) pa_nil)))))
      (pss_one (ps_ret (pv 1))))), ?_⟩
    have ea := paired_len pa
    refine ⟨_, rfl, l, _, rfl, hl, by show 1 ≤ sizeLine; decide, fun m hm => ?_⟩
    rw [List.length_map, ea]
    have I0 : IntsAt H _ m [(rs.length : Int)] := .start (same_refl H) hm
    refine ⟨_, rfl, l, rfl, ⟨_, SqL.of (I0.same _ _ hl)⟩, for_list (K := K) (xs := as.map V.ref) (fun i σ H' => ∃ v : Option V, σ = [some (.ref l), some (.ref m), v] ∧ IntsAt H H' m ([(rs.length : Int)] ++ (rs.take i).flatMap ruNums))
      ⟨none, rfl, I0⟩ (fun i σ H' _ ⟨_, _, M⟩ => SqL.of (M.same _ _ hl)) ?_ ?_⟩
    · rintro i y σ H' hi ⟨v, rfl, M⟩
      obtain ⟨a, ha, rfl⟩ := map_at hi
      obtain ⟨r, hr', d, hcc⟩ : ∃ x, rs[i]? = some x ∧ RuleAt cU H a x := paired_get pa ha
      have hcc1 := M.same _ _ hcc
      have lL : ([(rs.length : Int)] ++ (rs.take i).flatMap ruNums).length ≤ 300 := by
        rw [List.length_append, flat_len ruNums 2 (fun _ => rfl), List.length_take]
        show 1 + _ ≤ _
        omega
      rw [take_flat ruNums _ hr', ← List.append_assoc]
      generalize [(rs.length : Int)] ++ (rs.take i).flatMap ruNums = L at M lL ⊢
      have hm1 := M.lst
      refine ⟨_, rfl, tyV_lst hm1, _, rfl, a, cU, d, _, _, rfl, hcc1, T.clU, T.kind, rfl, _, rfl, a, cU, d, _, _, rfl, hcc1, T.clU, T.number, rfl, by show 2 ≤ sizeLine; decide, fun q hq => ?_⟩
      refine ⟨m, q, _, _, rfl, rfl, by rw [upd_ne (ne_of_none hm1 hq)]; exact hm1, upd_same, by rw [List.length_map]; exact lit_le (by show _ + 2 ≤ _; omega), ?_⟩
      exact ⟨_, rfl, M.put (M := ruNums r) (same_new hq) rfl⟩
    · rintro σ H1 ⟨v, rfl, M⟩
      rw [List.length_map, ea, List.take_length] at M
      exact ⟨_, rfl, k _ _ M.grown⟩
def spTurned (cU : Addr) : Sp := fun vs H Q _ => ∃ l rs, vs = [.ref l] ∧ RulesAt cU H l rs ∧ rs.length ≤ 128 ∧ giveRules cU H (rs.map turnRu) Q
theorem ok_turned {f : Addr} {fd : FuncData} (F : Fun K "turned" "turned" s_turned f fd) (T : Txt K mg cC cP cB cR cU) (D_Rule : New P w K mg base 1 "Rule" (spRule cU)) : FnOk P w K mg base CX0 3 f fd ps_turned (spTurned cU) := by
  refine F.ok sc_turned (fun vs H Q E h => ?_) (fun cdv A outer s H vs Q E hr h => ?_)
  · obtain ⟨l, rs, rfl, _⟩ := h
    rfl
  · obtain ⟨l, rs, rfl, ⟨as, hl, pa⟩, n1, k⟩ := h
    refine ⟨_, (pss_one (ps_ret (pe_lc rfl sc_turned.nd (pi_list (pv 0)) (blkOk_by (N := ["rules", "rule"]) (sc := defScope s_turned) (own := [("rule", 1)]) (by decide +kernel)) (fun _ _ _ _ _ => (pg_name (i := 1) sc_turned.nd rfl (by first | exact Or.inl rfl | exact Or.inr rfl))) (fun _ _ _ _ _ => pts_nil) (fun _ _ _ _ _ => (pe_new D_Rule hr (pa_cons (pe_fldB K (pv 1) rfl) (pa_cons (pe_fldB K (pv 1) rfl) (pa_cons (pe_fldB K (pv 1) rfl) (pa_cons (pe_fldB K (pv 1) rfl) (pa_cons (pe_fldB K (pv 1) rfl) pa_nil)))))))))), ?_⟩
    have ea := paired_len pa
    refine ⟨_, rfl, l, rfl, ⟨_, SqL.of hl⟩, fun D hD => lc_list (K := K) (xs := as.map V.ref) (fun i H' => ∃ ys, Grown H H' D ys ∧ ∃ bs : List Addr, ys = bs.map V.ref ∧ Paired (RuleAt cU H') bs ((rs.map turnRu).take i)) ⟨[], .start (same_refl _) hD, [], rfl, by simp; exact .nil⟩ (fun i H' _ ⟨ys, M, _⟩ => SqL.of (M.same _ _ hl)) ?_ ?_⟩
    · rintro i y H' hi ⟨ys, M, bs, rfl, pb⟩
      obtain ⟨a, ha, rfl⟩ := map_at hi
      obtain ⟨r, hr', d, hcc⟩ : ∃ x, rs[i]? = some x ∧ RuleAt cU H a x := paired_get pa ha
      have hcc1 := M.same _ _ hcc
      have eb := paired_len pb
      rw [List.length_take, List.length_map] at eb
      have e1 : (rs.map turnRu)[i]? = some (turnRu r) := by rw [List.getElem?_map, hr']; rfl
      refine ⟨rfl, lc_go ?_⟩
      refine ⟨_, rfl, a, cU, d, _, _, rfl, hcc1, T.clU, T.kind, rfl, _, rfl, a, cU, d, _, _, rfl, hcc1, T.clU, T.number, rfl, _, rfl, a, cU, d, _, _, rfl, hcc1, T.clU, T.end_, rfl, _, rfl, a, cU, d, _, _, rfl, hcc1, T.clU, T.begin_, rfl, _, rfl, a, cU, d, _, _, rfl, hcc1, T.clU, T.bound, rfl, turnRu r, rfl, fun H2 q hq s2 r2 => ?_⟩
      refine gput (R := fun i ys H' => ∃ bs : List Addr, ys = bs.map V.ref ∧ Paired (RuleAt cU H') bs ((rs.map turnRu).take i)) M s2 (by rw [List.length_map]; exact lit_small (by omega)) ?_
      refine ⟨bs ++ [q], by rw [List.map_append]; rfl, ?_⟩
      rw [take_snoc e1]
      exact rules_put (paired_snoc (rules_same pb s2) r2) (s2 _ _ M.lst)
    · rintro H2 ⟨ys, M, bs, rfl, pb⟩
      rw [List.take_of_length_le (by rw [List.length_map, List.length_map]; omega)] at pb
      exact k _ _ M.same M.new ⟨bs, M.lst, pb⟩
end
end Ck

set_option Elab.async false
set_option linter.all false
set_option maxRecDepth 100000
set_option maxHeartbeats 4000000
namespace Ck
open PySem PySem.Spec PyProof.Rows L2
section
variable {P : Program} {w : World} {K : PySem.W.Frag} {mg : Str → Option Value} {base : Heap} {cC cP cB cR cU : Addr}
local macro_rules | `(tactic| walk_at "rd") => do
    let T := Lean.mkIdent `T
    let hb := Lean.mkIdent `hb
    `(tactic| simp (config := { failIfUnchanged := false }) only [tSeq, tIfS, tNext, tDrop, tAsg, gName, gSub, tAnd, tOr, tIf, tLst, tTup, tBM, tTest, rEq, rNe, scal_int, rLenL, rIxO, HO.lst.injEq, tMth, rAppend, rPopAt, rSetL, rIxL, sFldAug, rAdd, rSub, upd_upd, rI, cmul_two, rExtend, Bool.not_true, Bool.not_false, Bool.not_eq_true', decide_eq_false_iff_not, size_lit, List.length_map, upd_same, putF_nil, chip_put, path_put_j, path_put_d, path_put_e, board_put_hold, board_put_chips, board_put_paths, boardF_put_setup, boardF_put_hold, boardF_put_chips, boardF_put_paths, List.set_cons_zero, List.set_cons_succ, chipF_len, pathF_len, boardF_len, Nat.reduceLT, Nat.reduceLeDiff,  tNot, tAnd, tB, tDef, tCons, tVar, tNil, tRet, tC, tChain, tChain3, tOp, rI0, tUn, rU, tCB, tFld, sFld, L2.start, List.map_cons, List.map_nil, List.length_cons, List.length_nil, Nat.reduceAdd, Nat.reduceSub, List.replicate_zero, List.replicate_succ, List.append_nil, List.cons_append, List.nil_append, List.getElem?_cons_zero, List.getElem?_cons_succ, Option.some.injEq, exists_eq_left, exists_eq_left', exists_eq_right, exists_eq_right', exists_and_left, exists_and_right, V.int.injEq, V.ref.injEq, V.bl.injEq, HO.ins.injEq, and_assoc, true_and, and_true, List.cons.injEq, ite_true, ite_false, Bool.false_eq_true, decide_eq_true_eq, cxOf_K,
      $T:ident, ($T).clC, ($T).clP, ($T).clB, ($T).clR, ($T).lo, ($T).hi, ($T).i, ($T).j, ($T).d, ($T).e, ($T).setup, ($T).hold, ($T).chips, ($T).paths, ($T).calls, ($T).place, ($T).clU, ($T).kind, ($T).number, ($T).begin_, ($T).end_, ($T).bound, ruleF_kind, ruleF_number, ruleF_begin, ruleF_end, ruleF_bound, ruleF_len, rule_put_n, rule_put_b, rule_put_e, rule_put_w, boardF_setup, boardF_hold, boardF_chips, boardF_paths, chipF_lo, chipF_hi, pathF_i, pathF_j, pathF_d, pathF_e])
local macro_rules | `(tactic| walk_at "bl") => `(tactic| first | (apply decide_eq_decide.mpr; omega) | (apply decide_eq_false; omega) | (apply decide_eq_true; omega) | (symm; apply decide_eq_false; omega) | (symm; apply decide_eq_true; omega))
def isList (us : List V) (c : Vbpcas.Call) : Prop := us = [] ∧ c = .list
def chipNums (c : Vbpcas.Chip) : List Int := [c.lo, c.hi]
def pathNums (q : Vbpcas.Path) : List Int := [(q.i : Int), (q.j : Int), (q.d : Int), (q.e : Int)]
theorem step_list (s : Vbpcas.State) : Vbpcas.step s .list = (s, [(s.setup : Int), (s.hold : Int), (s.chips.length : Int)] ++ s.chips.flatMap chipNums ++ [(s.paths.length : Int)] ++ s.paths.flatMap pathNums) := by
  show (s, _) = _
  congr 1
  show (s.setup : Int) :: (s.hold : Int) :: (((s.chips.length : Int) :: s.chips.flatMap chipNums) ++ ((s.paths.length : Int) :: s.paths.flatMap pathNums)) = _
  simp
theorem ok_list_all {f : Addr} {fd : FuncData} (F : Fun K "list_all" "list_all" s_list_all f fd) (T : Txt K mg cC cP cB cR cU) : FnOk P w K mg base CX0 1 f fd ps_list_all (spDo cC cP cB isList) := by
  refine F.ok sc_list_all (fun vs H Q E h => ?_) (fun cdv A outer s H vs Q E hr h => ?_)
  · obtain ⟨b, lc, lp, s, us, c, rfl, ⟨rfl, rfl⟩, _⟩ := h
    rfl
  · obtain ⟨b, lc, lp, s, us, c, rfl, ⟨rfl, rfl⟩, G, B, k⟩ := h
    refine ⟨_, (pss_cons (ps_set (i := 1) sc_list_all.nd rfl (by first | exact Or.inl rfl | exact Or.inr rfl) (pe_lst (pa_cons (pe_fld (pv 0) rfl) (pa_cons (pe_fld (pv 0) rfl) (pa_cons (pe_callB call_lenL rfl T.b_len PySem.boot_len (pa_cons (pe_fld (pv 0) rfl) pa_nil)) pa_nil)))))
      (pss_cons (ps_for PassesOwn.never rfl (pi_list (pe_fld (pv 0) rfl)) (pg_name (i := 2) sc_list_all.nd rfl (by first | exact Or.inl rfl | exact Or.inr rfl))
      (pss_one (ps_expr (pe_bm PySem.F.plainAttrs_list PySem.F.slot_list_extend PySem.F.type_list_extend mt_extend (pv 1) (pa_cons (pe_lst (pa_cons (pe_fld (pv 2) rfl) (pa_cons (pe_fld (pv 2) rfl) pa_nil))) pa_nil)))))
      (pss_cons (ps_expr (pe_bm PySem.F.plainAttrs_list PySem.F.slot_list_append PySem.F.type_list_append mt_append (pv 1) (pa_cons (pe_callB call_lenL rfl T.b_len PySem.boot_len (pa_cons (pe_fld (pv 0) rfl) pa_nil)) pa_nil)))
      (pss_cons (ps_for PassesOwn.never rfl (pi_list (pe_fld (pv 0) rfl)) (pg_name (i := 3) sc_list_all.nd rfl (by first | exact Or.inl rfl | exact Or.inr rfl))
      (pss_one (ps_expr (pe_bm PySem.F.plainAttrs_list PySem.F.slot_list_extend PySem.F.type_list_extend mt_extend (pv 1) (pa_cons (pe_lst (pa_cons (pe_fld (pv 3) rfl) (pa_cons (pe_fld (pv 3) rfl) (pa_cons (pe_fld (pv 3) rfl) (pa_cons (pe_fld (pv 3) rfl) pa_nil))))) pa_nil)))))
      (pss_one (ps_ret (pv 1))))))), ?_⟩
    obtain ⟨db, hb⟩ := B.at_
    obtain ⟨cs, hc, pc⟩ := B.chips
    obtain ⟨qs, hp, pp⟩ := B.paths
    have g1 := G.chips
    have g2 := G.paths
    have ec := paired_len pc
    have ep := paired_len pp
    rw [step_list] at k
    refine ⟨_, rfl, b, cB, db, _, _, rfl, hb, T.clB, T.setup, rfl, _, rfl, b, cB, db, _, _, rfl, hb, T.clB, T.hold, rfl, _, rfl, b, cB, db, _, _, rfl, hb, T.clB, T.chips, rfl, lc, _, rfl, hc, by show 3 ≤ sizeLine; decide, fun l hl => ?_⟩
    rw [List.length_map, ec]
    have M0 : IntsAt H _ l [(s.setup : Int), (s.hold : Int), (s.chips.length : Int)] := .start (same_refl H) hl
    refine ⟨_, rfl, b, cB, db, _, _, rfl, M0.same _ _ hb, T.clB, T.chips, rfl, lc, rfl, ⟨_, SqL.of (M0.same _ _ hc)⟩, for_list (K := K) (xs := cs.map V.ref) (fun i σ H' => ∃ v2 : Option V, σ = [some (.ref b), some (.ref l), v2, none] ∧ IntsAt H H' l ([(s.setup : Int), (s.hold : Int), (s.chips.length : Int)] ++ (s.chips.take i).flatMap chipNums))
      ⟨none, rfl, M0⟩ (fun i σ H' _ ⟨_, _, M⟩ => SqL.of (M.same _ _ hc)) ?_ ?_⟩
    · rintro i y σ H' hi ⟨v2, rfl, M⟩
      obtain ⟨a, ha, rfl⟩ := map_at hi
      obtain ⟨x, hx, d, hcc⟩ : ∃ x, s.chips[i]? = some x ∧ ChipAt cC H a x := paired_get pc ha
      have lL : ([(s.setup : Int), (s.hold : Int), (s.chips.length : Int)] ++ (s.chips.take i).flatMap chipNums).length ≤ 35 := by
        rw [List.length_append, flat_len chipNums 2 (fun _ => rfl), List.length_take]
        show 3 + _ ≤ _
        omega
      rw [take_flat chipNums _ hx, ← List.append_assoc]
      generalize [(s.setup : Int), (s.hold : Int), (s.chips.length : Int)] ++ (s.chips.take i).flatMap chipNums = L at M lL ⊢
      have hl1 := M.lst
      walk_at "rd"
      simp only [M.same _ _ hcc]
      walk_at "rd"
      refine ⟨tyV_lst hl1, fun q hq => ?_⟩
      simp only [upd_ne (ne_of_none hl1 hq), hl1]
      walk_at "rd"
      refine ⟨by rw [sizeLine_eq]; omega, ?_⟩
      exact M.put (M := chipNums x) (same_new hq) rfl
    · rintro σ H1 ⟨v2, rfl, M⟩
      rw [List.length_map, ec, List.take_length] at M
      have lL : ([(s.setup : Int), (s.hold : Int), (s.chips.length : Int)] ++ s.chips.flatMap chipNums).length ≤ 35 := by
        rw [List.length_append, flat_len chipNums 2 (fun _ => rfl)]
        show 3 + _ ≤ _
        omega
      generalize [(s.setup : Int), (s.hold : Int), (s.chips.length : Int)] ++ s.chips.flatMap chipNums = L at M lL k
      refine ⟨_, rfl, .inl ⟨rfl, _, SqL.of M.lst⟩, _, rfl, b, cB, db, _, _, rfl, M.same _ _ hb, T.clB, T.paths, rfl, lp, _, rfl, M.same _ _ hp, l, _, _, rfl, rfl, M.lst, by rw [List.length_map, sizeLine_eq]; omega, ?_⟩
      rw [List.length_map, ep]
      have M1 : IntsAt H _ l (L ++ [(s.paths.length : Int)]) := M.put (M := [(s.paths.length : Int)]) (same_refl _) rfl
      refine ⟨_, rfl, b, cB, db, _, _, rfl, M1.same _ _ hb, T.clB, T.paths, rfl, lp, rfl, ⟨_, SqL.of (M1.same _ _ hp)⟩, for_list (K := K) (xs := qs.map V.ref) (fun i σ H' => ∃ v3 : Option V, σ = [some (.ref b), some (.ref l), v2, v3] ∧ IntsAt H H' l (L ++ [(s.paths.length : Int)] ++ (s.paths.take i).flatMap pathNums))
        ⟨none, rfl, by simpa using M1⟩ (fun i σ H' _ ⟨_, _, M⟩ => SqL.of (M.same _ _ hp)) ?_ ?_⟩
      · rintro i y σ H' hi ⟨v3, rfl, M⟩
        obtain ⟨a, ha, rfl⟩ := map_at hi
        obtain ⟨x, hx, d, hcc⟩ : ∃ x, s.paths[i]? = some x ∧ PathAt cP H a x := paired_get pp ha
        have lL2 : (L ++ [(s.paths.length : Int)] ++ (s.paths.take i).flatMap pathNums).length ≤ 300 := by
          rw [List.length_append, List.length_append, flat_len pathNums 4 (fun _ => rfl), List.length_take]
          show _ + 1 + _ ≤ _
          omega
        rw [take_flat pathNums _ hx, ← List.append_assoc]
        generalize L ++ [(s.paths.length : Int)] ++ (s.paths.take i).flatMap pathNums = L2 at M lL2 ⊢
        have hl1 := M.lst
        walk_at "rd"
        simp only [M.same _ _ hcc]
        walk_at "rd"
        refine ⟨tyV_lst hl1, fun q hq => ?_⟩
        simp only [upd_ne (ne_of_none hl1 hq), hl1]
        walk_at "rd"
        refine ⟨by rw [sizeLine_eq]; omega, ?_⟩
        exact M.put (M := pathNums x) (same_new hq) rfl
      · rintro σ H2 ⟨v3, rfl, M⟩
        rw [List.length_map, ep, List.take_length] at M
        exact ⟨_, rfl, k _ _ (.same B M.same M.new M.lst)⟩
def refuse (s : Vbpcas.State) (p : Int) (r : List Int) : List Int := if ¬ (0 ≤ p ∧ p ≤ 2000000000) then [-2] else if ¬ r.length = s.chips.length then [-3] else []
theorem refuse_one (s : Vbpcas.State) (p : Int) (r : List Int) : refuse s p r = [] ∨ ∃ e, refuse s p r = [e] := by
  unfold refuse
  split
  · exact .inr ⟨_, rfl⟩
  · split
    · exact .inr ⟨_, rfl⟩
    · exact .inl rfl
def spRefusal (cC cP cB : Addr) : Sp := fun vs H Q _ => ∃ b lc lp s p t r, vs = [.ref b, .int p, .ref t] ∧ BoardAt cC cP cB H b lc lp s ∧ H t = some (.lst (r.map V.int)) ∧ ∀ H' l, IntsAt H H' l (refuse s p r) → Q (.ref l) H'
theorem ok_refusal_of {f : Addr} {fd : FuncData} (F : Fun K "refusal_of" "refusal_of" s_refusal_of f fd) (T : Txt K mg cC cP cB cR cU) (D_is_period : Def P w K mg base 1 "is_period" spPeriod) (D_fits : Def P w K mg base 1 "fits" (spFits cC cP cB)) : FnOk P w K mg base CX0 2 f fd ps_refusal_of (spRefusal cC cP cB) := by
  refine F.ok sc_refusal_of (fun vs H Q E h => ?_) (fun cdv A outer s H vs Q E hr h => ?_)
  · obtain ⟨b, lc, lp, s, p, t, r, rfl, _⟩ := h
    rfl
  · obtain ⟨b, lc, lp, s, p, t, r, rfl, B, ht, k⟩ := h
    refine ⟨_, (pss_cons (ps_if (pt_not (pt_val (pe_def D_is_period hr (pa_cons (pv 1) pa_nil)))) (pss_one (ps_ret (pe_lst (pa_cons (pe_gint rfl T.c_OUT_OF_RANGE) pa_nil)))) pss_nil)
      (pss_cons (ps_if (pt_not (pt_val (pe_def D_fits hr (pa_cons (pv 0) (pa_cons (pv 2) pa_nil))))) (pss_one (ps_ret (pe_lst (pa_cons (pe_gint rfl T.c_WRONG_LENGTH) pa_nil)))) pss_nil)
      (pss_one (ps_ret (pe_lst pa_nil))))), ?_⟩
    unfold refuse at k
    refine ⟨_, rfl, p, rfl, _, rfl, ?_⟩
    by_cases c1 : 0 ≤ p ∧ p ≤ 2000000000
    · rw [if_neg (fun n => n c1)] at k
      rw [decide_eq_true c1]
      refine iteF ?_
      refine ⟨_, rfl, _, rfl, b, lc, lp, s, t, r, rfl, B, ht, _, rfl, ?_⟩
      by_cases c2 : r.length = s.chips.length
      · rw [if_neg (fun n => n c2)] at k
        rw [decide_eq_true c2]
        refine iteF ?_
        refine ⟨Nat.zero_le _, fun q hq => ?_⟩
        exact k _ _ (.start (L := []) (same_refl _) hq)
      · rw [if_pos c2] at k
        rw [decide_eq_false c2]
        refine iteT ?_
        refine ⟨by show 1 ≤ sizeLine; decide, fun q hq => ?_⟩
        exact k _ _ (.start (L := [-3]) (same_refl _) hq)
    · rw [if_pos c1] at k
      rw [decide_eq_false c1]
      refine iteT ?_
      refine ⟨by show 1 ≤ sizeLine; decide, fun q hq => ?_⟩
      exact k _ _ (.start (L := [-2]) (same_refl _) hq)
def spDoR (cC cP cB : Addr) (c : Int → List Int → Vbpcas.Call) : Sp := fun vs H Q _ => ∃ b lc lp s p t r, vs = [.ref b, .int p, .ref t] ∧ Good s ∧ BoardAt cC cP cB H b lc lp s ∧ H t = some (.lst (r.map V.int)) ∧ ∀ H' a, Done cC cP cB H H' b lc lp (Vbpcas.step s (c p r)) a → Q (.ref a) H'
theorem refuse_p {s : Vbpcas.State} {p : Int} {r : List Int} (h : ¬ (0 ≤ p ∧ p ≤ 2000000000)) : refuse s p r = [-2] := if_pos h
theorem refuse_r {s : Vbpcas.State} {p : Int} {r : List Int} (h : 0 ≤ p ∧ p ≤ 2000000000) (h' : ¬ r.length = s.chips.length) : refuse s p r = [-3] := by
  unfold refuse
  rw [if_neg (fun n => n h), if_pos h']
theorem refuse_no {s : Vbpcas.State} {p : Int} {r : List Int} (h : 0 ≤ p ∧ p ≤ 2000000000) (h' : r.length = s.chips.length) : refuse s p r = [] := by
  unfold refuse
  rw [if_neg (fun n => n h), if_neg (fun n => n h')]
theorem refuse_or (s : Vbpcas.State) (p : Int) (r : List Int) : (refuse s p r ≠ [] ∧ Vbpcas.step s (.check p r) = (s, refuse s p r) ∧ Vbpcas.step s (.slacks p r) = (s, refuse s p r)) ∨ (refuse s p r = [] ∧ (0 ≤ p ∧ p ≤ 2000000000) ∧ r.length = s.chips.length) := by
  by_cases h : 0 ≤ p ∧ p ≤ 2000000000
  · by_cases h' : r.length = s.chips.length
    · exact .inr ⟨refuse_no h h', h, h'⟩
    · rw [refuse_r h h']
      exact .inl ⟨by simp, step_check_r h h', step_slacks_r h h'⟩
  · rw [refuse_p h]
    exact .inl ⟨by simp, step_check_p h, step_slacks_p h⟩
theorem cru_fits {s : Vbpcas.State} {p : Int} {g : Nat} {n : Nat} (h : PathsIn s) (hn : n = s.chips.length) : Fits (cru s p g) (n + 1) := fun r hr => by
  subst hn
  exact cru_inside (p := p) (g := g) h r.rule (List.mem_map_of_mem hr)
theorem path_fits {s : Vbpcas.State} {p : Int} {g : Nat} {n : Nat} (h : PathsIn s) (hn : n = s.chips.length) : Fits (pathRus s p g) (n + 1) := fun r hr => cru_fits (p := p) (g := g) h hn r (List.mem_append_right _ hr)
theorem isEmpty_map {α β : Type} {f : α → β} {l : List α} : (l.map f).isEmpty = l.isEmpty := by cases l <;> rfl
theorem ok_check {f : Addr} {fd : FuncData} (F : Fun K "check" "check" s_check f fd) (T : Txt K mg cC cP cB cR cU) (D_refusal_of : Def P w K mg base 2 "refusal_of" (spRefusal cC cP cB)) (D_rules_of : Def P w K mg base 4 "rules_of" (spRulesOf cC cP cB cU)) (D_missed_rules : Def P w K mg base 2 "missed_rules" (spMissed cU)) (D_told_rules : Def P w K mg base 1 "told_rules" (spTold cU)) :
    FnOk P w K mg base CX0 5 f fd ps_check (spDoR cC cP cB .check) := by
  refine F.ok sc_check (fun vs H Q E h => ?_) (fun cdv A outer s H vs Q E hr h => ?_)
  · obtain ⟨b, lc, lp, s, p, t, r, rfl, _⟩ := h
    rfl
  · obtain ⟨b, lc, lp, s, p, t, r, rfl, G, B, ht, k⟩ := h
    refine ⟨_, (pss_cons (ps_set (i := 3) sc_check.nd rfl (by first | exact Or.inl rfl | exact Or.inr rfl) (pe_def D_refusal_of hr (pa_cons (pv 0) (pa_cons (pv 1) (pa_cons (pv 2) pa_nil)))))
      (pss_cons (ps_if (pt_cmpR (op_neNil hr.units0) (pv 3) (pe_lst pa_nil) (nomark _)) (pss_one (ps_ret (pv 3))) pss_nil)
      (pss_one (ps_ret (pe_def D_told_rules hr (pa_cons (pe_def D_missed_rules hr (pa_cons (pe_def D_rules_of hr (pa_cons (pv 0) (pa_cons (pv 1) (pa_cons pe_int pa_nil)))) (pa_cons (pv 2) pa_nil))) pa_nil)))))), ?_⟩
    refine ⟨_, rfl, _, rfl, _, rfl, b, lc, lp, s, p, t, r, rfl, B, ht, fun H1 l M => ?_⟩
    refine ⟨_, rfl, Nat.zero_le _, fun q hq => ?_⟩
    have nl : l ≠ q := ne_of_none M.lst hq
    refine ⟨l, q, _, rfl, rfl, by rw [upd_ne nl]; exact M.lst, upd_same, _, rfl, ?_⟩
    have s1 : Same H (upd H1 q (.lst [])) := M.same.trans (same_new hq)
    have l1 : upd H1 q (.lst []) l = some (.lst ((refuse s p r).map V.int)) := by rw [upd_ne nl]; exact M.lst
    generalize upd H1 q (.lst []) = H2 at s1 l1 ⊢
    rw [isEmpty_map]
    rcases refuse_or s p r with ⟨ne, st, _⟩ | ⟨e0, hp', hr'⟩
    · have e : (!(refuse s p r).isEmpty) = true := by
        cases q : refuse s p r with
        | nil => exact absurd q ne
        | cons a l => rfl
      rw [e]
      refine ⟨_, rfl, k _ _ ?_⟩
      rw [st]
      exact .same B s1 M.new l1
    · rw [e0]
      refine iteF ?_
      have g1 := G.chips
      have cl := cru_len (p := p) (g := 0) G
      refine ⟨_, rfl, _, rfl, b, lc, lp, s, p, 0, rfl, G, B.same s1, fun H3 l3 s3 n3 R3 => ?_⟩
      refine ⟨_, rfl, l3, t, _, r, rfl, R3, s3 _ _ (s1 _ _ ht), cru_fits G.inn hr', cl, by omega, fun H4 l4 s4 n4 R4 => ?_⟩
      refine ⟨l4, _, rfl, R4, Nat.le_trans (List.length_filter_le _ _) cl, fun H5 l5 M5 => ?_⟩
      rw [step_check_ok hp' hr', check_ru G.inn hr'] at k
      have sa := s1.trans (s3.trans s4)
      exact k _ _ (.same B (sa.trans M5.same) (sa.free M5.new) M5.lst)
theorem ok_slacks {f : Addr} {fd : FuncData} (F : Fun K "slacks" "slacks" s_slacks f fd) (T : Txt K mg cC cP cB cR cU) (D_refusal_of : Def P w K mg base 2 "refusal_of" (spRefusal cC cP cB)) (D_path_rules : Def P w K mg base 3 "path_rules" (spPathRules cC cP cB cU)) (D_what_is_left : Def P w K mg base 1 "what_is_left" (spLeft cU)) :
    FnOk P w K mg base CX0 5 f fd ps_slacks (spDoR cC cP cB .slacks) := by
  refine F.ok sc_slacks (fun vs H Q E h => ?_) (fun cdv A outer s H vs Q E hr h => ?_)
  · obtain ⟨b, lc, lp, s, p, t, r, rfl, _⟩ := h
    rfl
  · obtain ⟨b, lc, lp, s, p, t, r, rfl, G, B, ht, k⟩ := h
    refine ⟨_, (pss_cons (ps_set (i := 3) sc_slacks.nd rfl (by first | exact Or.inl rfl | exact Or.inr rfl) (pe_def D_refusal_of hr (pa_cons (pv 0) (pa_cons (pv 1) (pa_cons (pv 2) pa_nil)))))
      (pss_cons (ps_if (pt_cmpR (op_neNil hr.units0) (pv 3) (pe_lst pa_nil) (nomark _)) (pss_one (ps_ret (pv 3))) pss_nil)
      (pss_cons (ps_set (i := 4) sc_slacks.nd rfl (by first | exact Or.inl rfl | exact Or.inr rfl) (pe_def D_what_is_left hr (pa_cons (pe_def D_path_rules hr (pa_cons (pv 0) (pa_cons (pv 1) (pa_cons pe_int pa_nil)))) (pa_cons (pv 2) pa_nil))))
      (pss_one (ps_ret (pe_op op_cat (pe_lst (pa_cons (pe_callB call_lenL rfl T.b_len PySem.boot_len (pa_cons (pv 4) pa_nil)) pa_nil)) (pv 4))))))), ?_⟩
    refine ⟨_, rfl, _, rfl, _, rfl, b, lc, lp, s, p, t, r, rfl, B, ht, fun H1 l M => ?_⟩
    refine ⟨_, rfl, Nat.zero_le _, fun q hq => ?_⟩
    have nl : l ≠ q := ne_of_none M.lst hq
    refine ⟨l, q, _, rfl, rfl, by rw [upd_ne nl]; exact M.lst, upd_same, _, rfl, ?_⟩
    have s1 : Same H (upd H1 q (.lst [])) := M.same.trans (same_new hq)
    have l1 : upd H1 q (.lst []) l = some (.lst ((refuse s p r).map V.int)) := by rw [upd_ne nl]; exact M.lst
    generalize upd H1 q (.lst []) = H2 at s1 l1 ⊢
    rw [isEmpty_map]
    rcases refuse_or s p r with ⟨ne, _, st⟩ | ⟨e0, hp', hr'⟩
    · have e : (!(refuse s p r).isEmpty) = true := by
        cases q : refuse s p r with
        | nil => exact absurd q ne
        | cons a l => rfl
      rw [e]
      refine ⟨_, rfl, k _ _ ?_⟩
      rw [st]
      exact .same B s1 M.new l1
    · rw [e0]
      refine iteF ?_
      have g1 := G.chips
      have g2 := G.paths
      have cl := pathRus_len (s := s) (p := p) (g := 0)
      refine ⟨_, rfl, _, rfl, b, lc, lp, s, p, 0, rfl, G, B.same s1, fun H3 l3 s3 n3 R3 => ?_⟩
      refine ⟨_, rfl, l3, t, _, r, rfl, R3, s3 _ _ (s1 _ _ ht), path_fits G.inn hr', by omega, by omega, fun H4 l4 M4 => ?_⟩
      refine ⟨_, rfl, l4, _, rfl, M4.lst, by show 1 ≤ sizeLine; decide, fun q5 hq5 => ?_⟩
      have n45 : l4 ≠ q5 := ne_of_none M4.lst hq5
      refine ⟨_, rfl, q5, l4, _, _, rfl, rfl, upd_same, by rw [upd_ne n45]; exact M4.lst, by rw [List.length_map, List.length_map]; exact lit_le (by show 1 + _ ≤ _; omega), fun q6 hq6 => ?_⟩
      rw [step_slacks_ok hp' hr', Ck.counted_one, slacks_ru G.inn hr'] at k
      refine k _ _ (.same B (s1.trans (s3.trans (M4.same.trans ((same_new hq5).trans (same_new hq6))))) ((s1.trans (s3.trans (M4.same.trans (same_new hq5)))).free hq6) ?_)
      rw [upd_same, List.length_map, List.length_map]
      rfl
def spTwo (cC cP cB : Addr) (c : List Int → List Int → Vbpcas.Call) : Sp := fun vs H Q _ => ∃ b lc lp s t u x y, vs = [.ref b, .ref t, .ref u] ∧ Good s ∧ BoardAt cC cP cB H b lc lp s ∧ H t = some (.lst (x.map V.int)) ∧ H u = some (.lst (y.map V.int)) ∧ ∀ H' a, Done cC cP cB H H' b lc lp (Vbpcas.step s (c x y)) a → Q (.ref a) H'
theorem zip_at {f : Int → Int → Int} {x y : List Int} {i : Nat} {a b : Int} (ha : x[i]? = some a) (hb : y[i]? = some b) : (Vbpcas.zipBy f x y)[i]? = some (f a b) := by
  unfold Vbpcas.zipBy
  have e : (x.zip y)[i]? = some (a, b) := List.getElem?_zip_eq_some.mpr ⟨ha, hb⟩
  rw [List.getElem?_map, e]
  rfl
theorem ok_sooner {f : Addr} {fd : FuncData} (F : Fun K "sooner" "sooner" s_sooner f fd) (T : Txt K mg cC cP cB cR cU) (D_fits : Def P w K mg base 1 "fits" (spFits cC cP cB)) : FnOk P w K mg base CX0 2 f fd ps_sooner (spTwo cC cP cB .sooner) := by
  refine F.ok sc_sooner (fun vs H Q E h => ?_) (fun cdv A outer s H vs Q E hr h => ?_)
  · obtain ⟨b, lc, lp, s, t, u, x, y, rfl, _⟩ := h
    rfl
  · obtain ⟨b, lc, lp, s, t, u, x, y, rfl, G, B, ht, hu, k⟩ := h
    refine ⟨_, (pss_cons (ps_if (pt_not (PW.pt (pw_and (pt_val (pe_def D_fits hr (pa_cons (pv 0) (pa_cons (pv 1) pa_nil)))) (pw_and1 (pt_val (pe_def D_fits hr (pa_cons (pv 0) (pa_cons (pv 2) pa_nil)))))))) (pss_one (ps_ret (pe_lst (pa_cons (pe_gint rfl T.c_WRONG_LENGTH) pa_nil)))) pss_nil)
      (pss_one (ps_ret (pe_op op_cat (pe_lst (pa_cons (pe_callB call_lenL rfl T.b_len PySem.boot_len (pa_cons (pv 1) pa_nil)) pa_nil)) (pe_lc rfl sc_sooner.nd (pi_zip rfl T.b_zip (pa_cons (pv 1) (pa_cons (pv 2) pa_nil))) (blkOk_by (N := ["board", "one", "other", "first", "second"]) (sc := defScope s_sooner) (own := [("first", 3), ("second", 4)]) (by decide +kernel)) (fun _ _ _ _ _ => (pg_tupB K 2 rfl (pgs_cons (pg_name (i := 3) sc_sooner.nd rfl (by first | exact Or.inl rfl | exact Or.inr rfl)) (pgs_cons (pg_name (i := 4) sc_sooner.nd rfl (by first | exact Or.inl rfl | exact Or.inr rfl)) pgs_nil)))) (fun _ _ _ _ _ => pts_nil) (fun _ _ _ _ _ => (pe_callB (call_min2 rfl) rfl T.b_min PyProof.Rows.boot_min (pa_cons (pv 3) (pa_cons (pv 4) pa_nil))))))))), ?_⟩
    have g1 := G.chips
    refine ⟨_, rfl, _, rfl, b, lc, lp, s, t, x, rfl, B, ht, _, rfl, ?_⟩
    by_cases c1 : x.length = s.chips.length
    · rw [decide_eq_true c1]
      refine iteT ?_
      refine ⟨_, rfl, _, rfl, b, lc, lp, s, u, y, rfl, B, hu, _, rfl, ?_⟩
      by_cases c2 : y.length = s.chips.length
      · rw [decide_eq_true c2]
        refine iteF ?_
        rw [step_sooner_ok c1 c2] at k
        refine ⟨_, rfl, t, _, rfl, ht, by show 1 ≤ sizeLine; decide, fun q hq => ?_⟩
        have s1 : Same H (upd H q (.lst [.int (x.map V.int).length])) := same_new hq
        have hq1 : upd H q (.lst [.int (x.map V.int).length]) q = some (.lst [.int (x.length : Nat)]) := by rw [upd_same, List.length_map]
        generalize upd H q (.lst [.int (x.map V.int).length]) = H1 at s1 hq1 ⊢
        refine ⟨_, rfl, _, rfl, t, u, _, _, rfl, SqL.of (s1 _ _ ht), SqL.of (s1 _ _ hu), fun D hD => lc_zip (K := K) (xs := x.map V.int) (ys := y.map V.int) (by simp [c1, c2]) (fun i H' => ∃ ys, Grown H1 H' D ys ∧ ys = (((Vbpcas.zipBy min x y).take i).map V.int)) ⟨[], .start (same_refl _) hD, rfl⟩
          (fun i H' _ ⟨ys, M, _⟩ => ⟨SqL.of (M.same _ _ (s1 _ _ ht)), SqL.of (M.same _ _ (s1 _ _ hu))⟩) ?_ ?_⟩
        · rintro i v z tt H' hi hj ⟨ys, M, rfl⟩ ht'
          obtain ⟨a, ha, rfl⟩ := map_at hi
          obtain ⟨b', hb', rfl⟩ := map_at hj
          have k1 : Same H' (upd H' tt (.tup [.int a, .int b'])) := same_new ht'
          have e1 := zip_at (f := min) ha hb'
          refine ⟨tt, _, rfl, SqT.of upd_same, rfl, _, _, rfl, _, _, rfl, rfl, rfl, lc_go ?_⟩
          refine ⟨_, rfl, _, rfl, _, _, rfl, ?_⟩
          have il : i < x.length := (List.getElem?_eq_some_iff.mp ha).1
          refine gput (R := fun i ys H' => ys = (((Vbpcas.zipBy min x y).take i).map V.int)) M k1 (by rw [List.length_map, List.length_take]; exact lit_small (by omega)) ?_
          rw [take_snoc e1, List.map_append]
          congr 1
          show [V.int _] = [V.int _]
          congr 2
          rw [Int.min_def]
          split <;> split <;> omega
        · rintro H2 ⟨ys, M, rfl⟩
          rw [List.length_map, List.take_of_length_le (by rw [zip_len c1 c2]; omega)] at M
          refine ⟨q, D, _, _, rfl, rfl, M.same _ _ hq1, M.lst, by rw [List.length_map, zip_len c1 c2]; exact lit_le (by show 1 + _ ≤ _; omega), fun q6 hq6 => ?_⟩
          have sa := s1.trans M.same
          refine k _ _ (.same B (sa.trans (same_new hq6)) (sa.free hq6) ?_)
          rw [upd_same]
          rfl
      · rw [decide_eq_false c2]
        refine iteT ?_
        rw [step_sooner_no (fun n => c2 n.2)] at k
        exact ⟨by show 1 ≤ sizeLine; decide, fun q hq => k _ _ (.one B hq)⟩
    · rw [decide_eq_false c1]
      refine iteF ?_
      refine iteT ?_
      rw [step_sooner_no (fun n => c1 n.1)] at k
      exact ⟨by show 1 ≤ sizeLine; decide, fun q hq => k _ _ (.one B hq)⟩
theorem ok_later {f : Addr} {fd : FuncData} (F : Fun K "later" "later" s_later f fd) (T : Txt K mg cC cP cB cR cU) (D_fits : Def P w K mg base 1 "fits" (spFits cC cP cB)) : FnOk P w K mg base CX0 2 f fd ps_later (spTwo cC cP cB .later) := by
  refine F.ok sc_later (fun vs H Q E h => ?_) (fun cdv A outer s H vs Q E hr h => ?_)
  · obtain ⟨b, lc, lp, s, t, u, x, y, rfl, _⟩ := h
    rfl
  · obtain ⟨b, lc, lp, s, t, u, x, y, rfl, G, B, ht, hu, k⟩ := h
    refine ⟨_, (pss_cons (ps_if (pt_not (PW.pt (pw_and (pt_val (pe_def D_fits hr (pa_cons (pv 0) (pa_cons (pv 1) pa_nil)))) (pw_and1 (pt_val (pe_def D_fits hr (pa_cons (pv 0) (pa_cons (pv 2) pa_nil)))))))) (pss_one (ps_ret (pe_lst (pa_cons (pe_gint rfl T.c_WRONG_LENGTH) pa_nil)))) pss_nil)
      (pss_one (ps_ret (pe_op op_cat (pe_lst (pa_cons (pe_callB call_lenL rfl T.b_len PySem.boot_len (pa_cons (pv 1) pa_nil)) pa_nil)) (pe_lc rfl sc_later.nd (pi_zip rfl T.b_zip (pa_cons (pv 1) (pa_cons (pv 2) pa_nil))) (blkOk_by (N := ["board", "one", "other", "first", "second"]) (sc := defScope s_later) (own := [("first", 3), ("second", 4)]) (by decide +kernel)) (fun _ _ _ _ _ => (pg_tupB K 2 rfl (pgs_cons (pg_name (i := 3) sc_later.nd rfl (by first | exact Or.inl rfl | exact Or.inr rfl)) (pgs_cons (pg_name (i := 4) sc_later.nd rfl (by first | exact Or.inl rfl | exact Or.inr rfl)) pgs_nil)))) (fun _ _ _ _ _ => pts_nil) (fun _ _ _ _ _ => (pe_callB (call_max2 rfl) rfl T.b_max PyProof.Rows.boot_max (pa_cons (pv 3) (pa_cons (pv 4) pa_nil))))))))), ?_⟩
    have g1 := G.chips
    refine ⟨_, rfl, _, rfl, b, lc, lp, s, t, x, rfl, B, ht, _, rfl, ?_⟩
    by_cases c1 : x.length = s.chips.length
    · rw [decide_eq_true c1]
      refine iteT ?_
      refine ⟨_, rfl, _, rfl, b, lc, lp, s, u, y, rfl, B, hu, _, rfl, ?_⟩
      by_cases c2 : y.length = s.chips.length
      · rw [decide_eq_true c2]
        refine iteF ?_
        rw [step_later_ok c1 c2] at k
        refine ⟨_, rfl, t, _, rfl, ht, by show 1 ≤ sizeLine; decide, fun q hq => ?_⟩
        have s1 : Same H (upd H q (.lst [.int (x.map V.int).length])) := same_new hq
        have hq1 : upd H q (.lst [.int (x.map V.int).length]) q = some (.lst [.int (x.length : Nat)]) := by rw [upd_same, List.length_map]
        generalize upd H q (.lst [.int (x.map V.int).length]) = H1 at s1 hq1 ⊢
        refine ⟨_, rfl, _, rfl, t, u, _, _, rfl, SqL.of (s1 _ _ ht), SqL.of (s1 _ _ hu), fun D hD => lc_zip (K := K) (xs := x.map V.int) (ys := y.map V.int) (by simp [c1, c2]) (fun i H' => ∃ ys, Grown H1 H' D ys ∧ ys = (((Vbpcas.zipBy max x y).take i).map V.int)) ⟨[], .start (same_refl _) hD, rfl⟩
          (fun i H' _ ⟨ys, M, _⟩ => ⟨SqL.of (M.same _ _ (s1 _ _ ht)), SqL.of (M.same _ _ (s1 _ _ hu))⟩) ?_ ?_⟩
        · rintro i v z tt H' hi hj ⟨ys, M, rfl⟩ ht'
          obtain ⟨a, ha, rfl⟩ := map_at hi
          obtain ⟨b', hb', rfl⟩ := map_at hj
          have k1 : Same H' (upd H' tt (.tup [.int a, .int b'])) := same_new ht'
          have e1 := zip_at (f := max) ha hb'
          refine ⟨tt, _, rfl, SqT.of upd_same, rfl, _, _, rfl, _, _, rfl, rfl, rfl, lc_go ?_⟩
          refine ⟨_, rfl, _, rfl, _, _, rfl, ?_⟩
          have il : i < x.length := (List.getElem?_eq_some_iff.mp ha).1
          refine gput (R := fun i ys H' => ys = (((Vbpcas.zipBy max x y).take i).map V.int)) M k1 (by rw [List.length_map, List.length_take]; exact lit_small (by omega)) ?_
          rw [take_snoc e1, List.map_append]
          congr 1
          show [V.int _] = [V.int _]
          congr 2
          rw [Int.max_def]
          split <;> split <;> omega
        · rintro H2 ⟨ys, M, rfl⟩
          rw [List.length_map, List.take_of_length_le (by rw [zip_len c1 c2]; omega)] at M
          refine ⟨q, D, _, _, rfl, rfl, M.same _ _ hq1, M.lst, by rw [List.length_map, zip_len c1 c2]; exact lit_le (by show 1 + _ ≤ _; omega), fun q6 hq6 => ?_⟩
          have sa := s1.trans M.same
          refine k _ _ (.same B (sa.trans (same_new hq6)) (sa.free hq6) ?_)
          rw [upd_same]
          rfl
      · rw [decide_eq_false c2]
        refine iteT ?_
        rw [step_later_no (fun n => c2 n.2)] at k
        exact ⟨by show 1 ≤ sizeLine; decide, fun q hq => k _ _ (.one B hq)⟩
    · rw [decide_eq_false c1]
      refine iteF ?_
      refine iteT ?_
      rw [step_later_no (fun n => c1 n.1)] at k
      exact ⟨by show 1 ≤ sizeLine; decide, fun q hq => k _ _ (.one B hq)⟩
def isShift (us : List V) (c : Vbpcas.Call) : Prop := ∃ z, us = [.int z] ∧ c = .shift z
theorem ChipAt.same {H H' : Hp} {a : Addr} {c : Vbpcas.Chip} (h : ChipAt cC H a c) (k : Same H H') : ChipAt cC H' a c := let ⟨d, e⟩ := h; ⟨d, k _ _ e⟩
theorem ChipAt.put {H : Hp} {a l : Addr} {c : Vbpcas.Chip} {xs ys : List V} (h : ChipAt cC H a c) (hl : H l = some (.lst xs)) : ChipAt cC (upd H l (.lst ys)) a c := let ⟨d, e⟩ := h; ⟨d, by rw [upd_ne (ne_ins_lst e hl)]; exact e⟩
theorem ok_shift {f : Addr} {fd : FuncData} (F : Fun K "shift" "shift" s_shift f fd) (T : Txt K mg cC cP cB cR cU) (D_are_bounds : Def P w K mg base 1 "are_bounds" spBounds) (D_Chip : New P w K mg base 1 "Chip" (spChip cC)) :
    FnOk P w K mg base CX0 3 f fd ps_shift (spDo cC cP cB isShift) := by
  refine F.ok sc_shift (fun vs H Q E h => ?_) (fun cdv A outer s H vs Q E hr h => ?_)
  · obtain ⟨b, lc, lp, s, us, c, rfl, ⟨z, rfl, rfl⟩, _⟩ := h
    rfl
  · obtain ⟨b, lc, lp, s, us, c, rfl, ⟨z, rfl, rfl⟩, G, B, k⟩ := h
    refine ⟨_, (pss_cons (ps_setLc (i := 2) rfl sc_shift.nd rfl rfl (sw_true rfl rfl rfl rfl) (pi_list (pe_fld (pv 0) rfl)) (blkOk_by (N := ["board", "c", "shifted", "chip"]) (sc := defScope s_shift) (own := [("chip", 3)]) (by decide +kernel)) (fun _ _ _ _ _ => (pg_name (i := 3) sc_shift.nd rfl (by first | exact Or.inl rfl | exact Or.inr rfl))) (fun _ _ _ _ _ => pts_nil) (fun _ _ _ _ _ => (pe_new D_Chip hr (pa_cons (pe_op op_add (pe_fldB K (pv 3) rfl) (pv 1)) (pa_cons (pe_op op_add (pe_fldB K (pv 3) rfl) (pv 1)) pa_nil)))))
      (pss_cons (ps_if (pt_not (pt_val (pe_callB (cr_all rfl) rfl T.b_all PyProof.Rows.boot_all (pa_cons (pe_lc rfl sc_shift.nd (pi_list (pv 2)) (blkOk_by (N := ["board", "c", "shifted", "chip"]) (sc := defScope s_shift) (own := [("chip", 3)]) (by decide +kernel)) (fun _ _ _ _ _ => (pg_name (i := 3) sc_shift.nd rfl (by first | exact Or.inl rfl | exact Or.inr rfl))) (fun _ _ _ _ _ => pts_nil) (fun _ _ _ _ _ => (pe_def D_are_bounds hr (pa_cons (pe_fldB K (pv 3) rfl) (pa_cons (pe_fldB K (pv 3) rfl) pa_nil))))) pa_nil)))) (pss_one (ps_ret (pe_lst (pa_cons (pe_gint rfl T.c_OUT_OF_RANGE) pa_nil)))) pss_nil)
      (pss_cons (ps_fld (pv 0) (pv 2) rfl)
      (pss_one (ps_ret (pe_lst (pa_cons pe_int pa_nil))))))), ?_⟩
    obtain ⟨db, hb⟩ := B.at_
    obtain ⟨cs, hc, pc⟩ := B.chips
    have ec := paired_len pc
    have g1 := G.chips
    refine ⟨_, rfl, b, cB, db, _, _, rfl, hb, T.clB, T.chips, rfl, lc, rfl, ⟨_, SqL.of hc⟩, fun D hD => lc_list (K := K) (xs := cs.map V.ref) (fun i H' => ∃ ys, Grown H H' D ys ∧ ∃ bs : List Addr, ys = bs.map V.ref ∧ Paired (ChipAt cC H') bs ((s.chips.map (moved z)).take i)) ⟨[], .start (same_refl _) hD, [], rfl, by simp; exact .nil⟩ (fun i H' _ ⟨ys, M, _⟩ => SqL.of (M.same _ _ hc)) ?_ ?_⟩
    · rintro i y H' hi ⟨ys, M, bs, rfl, pb⟩
      obtain ⟨a, ha, rfl⟩ := map_at hi
      obtain ⟨x, hx, d, hcc⟩ : ∃ x, s.chips[i]? = some x ∧ ChipAt cC H a x := paired_get pc ha
      have hcc1 := M.same _ _ hcc
      have eb := paired_len pb
      rw [List.length_take, List.length_map] at eb
      have e1 : (s.chips.map (moved z))[i]? = some (moved z x) := by rw [List.getElem?_map, hx]; rfl
      refine ⟨rfl, lc_go ?_⟩
      refine ⟨_, rfl, a, cC, d, _, _, rfl, hcc1, T.clC, T.lo, rfl, _, rfl, _, _, rfl, rfl, _, rfl, a, cC, d, _, _, rfl, hcc1, T.clC, T.hi, rfl, _, rfl, _, _, rfl, rfl, _, _, rfl, fun H2 q hq s2 r2 => ?_⟩
      refine gput (R := fun i ys H' => ∃ bs : List Addr, ys = bs.map V.ref ∧ Paired (ChipAt cC H') bs ((s.chips.map (moved z)).take i)) M s2 (by rw [List.length_map]; exact lit_small (by omega)) ?_
      refine ⟨bs ++ [q], by rw [List.map_append]; rfl, ?_⟩
      rw [take_snoc e1]
      exact Paired.imp' (fun _ _ e => ChipAt.put e (s2 _ _ M.lst)) (paired_snoc (Paired.imp' (fun _ _ e => ChipAt.same e s2) pb) r2)
    · rintro H1 ⟨ys, M, bs, rfl, pb⟩
      rw [List.length_map, List.take_of_length_le (by rw [List.length_map]; omega)] at pb
      have eb := paired_len pb
      rw [List.length_map] at eb
      refine ⟨_, rfl, D, rfl, ⟨_, SqL.of M.lst⟩, fun D2 hD2 => lc_list (K := K) (xs := bs.map V.ref) (fun i H' => ∃ ys, Grown H1 H' D2 ys ∧ ys = ((((s.chips.map (moved z)).map inB).take i).map V.bl)) ⟨[], .start (same_refl _) hD2, rfl⟩ (fun i H' _ ⟨ys, M2, _⟩ => SqL.of (M2.same _ _ M.lst)) ?_ ?_⟩
      · rintro i y H' hi ⟨ys, M2, rfl⟩
        obtain ⟨a, ha, rfl⟩ := map_at hi
        obtain ⟨x, hx, d, hcc⟩ : ∃ x, (s.chips.map (moved z))[i]? = some x ∧ ChipAt cC H1 a x := paired_get pb ha
        have hcc1 := M2.same _ _ hcc
        have e1 : ((s.chips.map (moved z)).map inB)[i]? = some (inB x) := by rw [List.getElem?_map, hx]; rfl
        refine ⟨rfl, lc_go ?_⟩
        refine ⟨_, rfl, a, cC, d, _, _, rfl, hcc1, T.clC, T.lo, rfl, _, rfl, a, cC, d, _, _, rfl, hcc1, T.clC, T.hi, rfl, _, _, rfl, ?_⟩
        refine gput (R := fun i ys H' => ys = ((((s.chips.map (moved z)).map inB).take i).map V.bl)) M2 (same_refl _) (by rw [List.length_map, List.length_take, List.length_map, List.length_map]; exact lit_small (by omega)) ?_
        rw [take_snoc e1, List.map_append]
        rfl
      · rintro H2 ⟨ys, M2, rfl⟩
        rw [List.length_map, List.take_of_length_le (by rw [List.length_map, List.length_map]; omega)] at M2
        refine ⟨D2, _, rfl, SqL.of M2.lst, _, rfl, ?_⟩
        have ea : ((s.chips.map (moved z)).map inB).all id = (s.chips.map (moved z)).all inB := by rw [List.all_map]; rfl
        rw [ea]
        have sa := M.same.trans M2.same
        have B2 := B.same sa
        cases q : (s.chips.map (moved z)).all inB with
        | false =>
          refine iteT ?_
          rw [step_shift_no G q] at k
          refine ⟨by show 1 ≤ sizeLine; decide, fun p hp => ?_⟩
          exact k _ _ (.same B (sa.trans (same_new hp)) (sa.free hp) upd_same)
        | true =>
          refine iteF ?_
          rw [step_shift_ok G q] at k
          have hb2 := sa _ _ hb
          have hD2' := M2.same _ _ M.lst
          have nbD : b ≠ D := ne_ins_lst hb2 hD2'
          refine ⟨_, rfl, _, rfl, b, cB, db, _, rfl, hb2, T.clB, T.chips, by show 4 < 1000; decide, ?_⟩
          refine ⟨by show 1 ≤ sizeLine; decide, fun p hp => ?_⟩
          have kc : ∀ {a : Addr} {c : Vbpcas.Chip}, ChipAt cC H2 a c → ChipAt cC (upd H2 b (.ins cB db (boardF s.setup s.hold D lp))) a c := fun {a c} h => Kept.chip B2 kept_upd_b h
          obtain ⟨qs, hp', pp⟩ := B2.paths
          refine k _ _ (.fin (ans := [0]) (lc' := D) (lp' := lp) ⟨⟨db, upd_same⟩, ⟨bs, ?_, ?_⟩, ⟨qs, ?_, ?_⟩, ?_⟩ (.inr M.new) (.inl rfl) ((Kept.of sa).trans kept_upd_b) (sa.free (grow_upd hp)) hp)
          · rw [upd_ne (Ne.symm nbD)]
            exact hD2'
          · exact Paired.imp' (fun _ _ e => kc e) (Paired.imp' (fun _ _ e => ChipAt.same e M2.same) pb)
          · rw [upd_ne (Ne.symm B2.ne_bp)]
            exact hp'
          · exact Paired.imp' (fun _ _ e => Kept.path B2 kept_upd_b e) pp
          · intro e
            obtain ⟨qs0, hp0, _⟩ := B.paths
            rw [← e, M.new] at hp0
            cases hp0
end
end Ck

set_option Elab.async false
set_option linter.all false
set_option maxRecDepth 100000
set_option maxHeartbeats 4000000
namespace Ck
open PySem PySem.Spec PyProof.Rows L2
theorem at_ov {D : Sums} {i : Nat} {o : Option Int} (h : i < D.length) (e : D.getD i none = o) : atI (D.map ov) (i : Int) = some (ov o) := by
  refine atI_nat ?_
  rw [List.getD_eq_getElem?_getD, List.getElem?_eq_getElem h] at e
  rw [List.getElem?_map, List.getElem?_eq_getElem h]
  exact congrArg (fun z => some (ov z)) e
theorem nn_none {A B : Prop} (q : B) : if (!decide (ov none = V.non)) = true then A else B := by
  rw [if_neg (by simp [ov])]
  exact q
theorem nn_some {y : Int} {A B : Prop} (q : A) : if (!decide (ov (some y) = V.non)) = true then A else B := by
  rw [if_pos (by simp [ov])]
  exact q
theorem is_none {A B : Prop} (q : A) : if decide (ov none = V.non) = true then A else B := by
  rw [if_pos (by simp [ov])]
  exact q
theorem is_some {y : Int} {A B : Prop} (q : B) : if decide (ov (some y) = V.non) = true then A else B := by
  rw [if_neg (by simp [ov])]
  exact q
theorem rep_none (n : Nat) : (List.replicate n [V.non]).flatten = (List.replicate n (none : Option Int)).map ov := by
  induction n with
  | zero => rfl
  | succ n ih =>
    rw [List.replicate_succ, List.flatten_cons, ih, List.replicate_succ]
    rfl
theorem seed_ov (n u : Nat) : ((List.replicate n (none : Option Int)).map ov).set u (V.int 0) = (seedC n u).map ov := by
  unfold seedC
  rw [List.map_set]
  rfl
theorem cut_take {xs : List V} {n : Nat} (h : n ≤ xs.length) : cutV xs none (some (n : Int)) = xs.take n := by
  unfold cutV
  rw [HT.sIx_none, HT.sIx_nat, List.drop_zero, Nat.sub_zero, Nat.min_eq_left h]
section
variable {P : Program} {w : World} {K : PySem.W.Frag} {mg : Str → Option Value} {base : Heap} {cC cP cB cR cU : Addr}
structure Writ (H H' : Hp) (d : Addr) (D : Sums) : Prop where
  at_ : H' d = some (.lst (D.map ov))
  rest : ∀ a, a ≠ d → H' a = H a
theorem Writ.rule {H H' : Hp} {d a : Addr} {D D0 : Sums} {r : Ru} (h : Writ H H' d D) (hd : H d = some (.lst (D0.map ov))) (hr : RuleAt cU H a r) : RuleAt cU H' a r := by
  obtain ⟨x, e⟩ := hr
  exact ⟨x, by rw [h.rest a (ne_ins_lst e hd)]; exact e⟩
theorem Writ.put {H H' : Hp} {d : Addr} {D D2 : Sums} (h : Writ H H' d D) {xs : List V} (e : xs = D2.map ov) : Writ H (upd H' d (.lst xs)) d D2 := ⟨by rw [upd_same, e], fun a n => by rw [upd_ne n]; exact h.rest a n⟩
def spLessen (cU : Addr) : Sp := fun vs H Q _ => ∃ d l D rs, vs = [.ref d, .ref l] ∧ H d = some (.lst ((D : Sums).map ov)) ∧ RulesAt cU H l rs ∧ d ≠ l ∧ Fits rs D.length ∧ ∀ H', Writ H H' d (lessen rs D).1 → Q (.bl (lessen rs D).2) H'
theorem lessen1_len (x : Sums × Bool) (r : Ru) : (lessen1 x r).1.length = x.1.length := by
  rcases lessen1_or x r with ⟨e, _⟩ | ⟨y, _, _, e⟩
  · rw [e]
  · rw [e]; simp
theorem lfold_len : ∀ (rs : List Ru) (x : Sums × Bool), (rs.foldl lessen1 x).1.length = x.1.length
  | [], x => rfl
  | r :: rs, x => (lfold_len rs (lessen1 x r)).trans (lessen1_len x r)
theorem ok_lessen {f : Addr} {fd : FuncData} (F : Fun K "lessen" "lessen" s_lessen f fd) (T : Txt K mg cC cP cB cR cU) : FnOk P w K mg base CX0 1 f fd ps_lessen (spLessen cU) := by
  refine F.ok sc_lessen (fun vs H Q E h => ?_) (fun cdv A outer s H vs Q E hr h => ?_)
  · obtain ⟨d, l, D, rs, rfl, _⟩ := h
    rfl
  · obtain ⟨d, l, D, rs, rfl, hd, ⟨as, hl, pa⟩, ndl, fi, k⟩ := h
    refine ⟨_, (pss_cons (ps_set (i := 2) sc_lessen.nd rfl (by first | exact Or.inl rfl | exact Or.inr rfl) pe_bl)
      (pss_cons (ps_for PassesOwn.never rfl (pi_list (pv 1)) (pg_name (i := 3) sc_lessen.nd rfl (by first | exact Or.inl rfl | exact Or.inr rfl))
      (pss_cons (ps_set (i := 4) sc_lessen.nd rfl (by first | exact Or.inl rfl | exact Or.inr rfl) (pe_ix ix_own (pv 0) (pe_fld (pv 3) rfl) (fun _ _ => rfl)))
      (pss_one (ps_if (pt_cmpR op_notN (pv 4) pe_non (nomark _)) (pss_cons (ps_set (i := 5) sc_lessen.nd rfl (by first | exact Or.inl rfl | exact Or.inr rfl) (pe_op op_add (pv 4) (pe_fld (pv 3) rfl)))
      (pss_one (ps_if (PW.pt (pw_or (pt_cmpR op_isN (pe_ix ix_own (pv 0) (pe_fld (pv 3) rfl) (fun _ _ => rfl)) pe_non (nomark _)) (pw_or1 (pt_cmpR op_lt (pv 5) (pe_ix ix_own (pv 0) (pe_fld (pv 3) rfl) (fun _ _ => rfl)) (nomark _))))) (pss_cons (ps_asg (pv 5) (pg_sub (pv 0) (pe_fld (pv 3) rfl) set_list))
      (pss_one (ps_set (i := 2) sc_lessen.nd rfl (by first | exact Or.inl rfl | exact Or.inr rfl) pe_bl))) pss_nil))) pss_nil))))
      (pss_one (ps_ret (pv 2))))), ?_⟩
    have ea := paired_len pa
    refine ⟨_, rfl, l, rfl, ⟨_, SqL.of hl⟩, for_list (K := K) (xs := as.map V.ref) (fun i σ H' => ∃ (x : Sums × Bool) (v3 v4 v5 : Option V), x = (rs.take i).foldl lessen1 (D, false) ∧ σ = [some (.ref d), some (.ref l), some (.bl x.2), v3, v4, v5] ∧ Writ H H' d x.1)
      ⟨(D, false), none, none, none, rfl, rfl, hd, fun _ _ => rfl⟩ (fun i σ H' _ ⟨_, _, _, _, _, _, M⟩ => SqL.of (by rw [M.rest l (Ne.symm ndl)]; exact hl)) ?_ ?_⟩
    · rintro i y σ H' hi ⟨x, v3, v4, v5, ex, rfl, M⟩
      obtain ⟨a, ha, rfl⟩ := map_at hi
      obtain ⟨r, hr', hcc⟩ : ∃ x, rs[i]? = some x ∧ RuleAt cU H a x := paired_get pa ha
      obtain ⟨fb, fe⟩ := fi r (List.mem_of_getElem? hr')
      obtain ⟨dr, hcc1⟩ := M.rule hd hcc
      have xl : x.1.length = D.length := by rw [ex, lfold_len]
      have nx : (rs.take (i + 1)).foldl lessen1 (D, false) = lessen1 x r := by rw [take_snoc hr', List.foldl_append, ← ex]; rfl
      have hd1 := M.at_
      rw [← xl] at fb fe
      cases e1 : x.1.getD r.b none with
      | none =>
        have st : lessen1 x r = x := by unfold lessen1; rw [e1]
        refine ⟨_, rfl, _, rfl, a, cU, dr, _, _, rfl, hcc1, T.clU, T.begin_, rfl, d, _, _, _, rfl, rfl, hd1, at_ov fb e1, ?_⟩
        refine ⟨_, rfl, rfl, _, rfl, ?_⟩
        refine nn_none ?_
        exact ⟨x, _, _, _, by rw [nx, st], rfl, M⟩
      | some y =>
        refine ⟨_, rfl, _, rfl, a, cU, dr, _, _, rfl, hcc1, T.clU, T.begin_, rfl, d, _, _, _, rfl, rfl, hd1, at_ov fb e1, ?_⟩
        refine ⟨_, rfl, rfl, _, rfl, ?_⟩
        refine nn_some ?_
        refine ⟨_, rfl, _, rfl, a, cU, dr, _, _, rfl, hcc1, T.clU, T.bound, rfl, _, _, rfl, rfl, ?_⟩
        have yes : less (y + r.w) (x.1.getD r.e none) = true → lessen1 x r = (x.1.set r.e (some (y + r.w)), true) := fun q => by
          unfold lessen1
          rw [e1]
          exact if_pos q
        have no : ¬ less (y + r.w) (x.1.getD r.e none) = true → lessen1 x r = x := fun q => by
          unfold lessen1
          rw [e1]
          exact if_neg q
        have es : (x.1.map ov).set r.e (V.int (y + r.w)) = (x.1.set r.e (some (y + r.w))).map ov := by rw [List.map_set]; rfl
        cases e2 : x.1.getD r.e none with
        | none =>
          refine ⟨_, rfl, _, rfl, a, cU, dr, _, _, rfl, hcc1, T.clU, T.end_, rfl, d, _, _, _, rfl, rfl, hd1, at_ov fe e2, rfl, _, rfl, ?_⟩
          refine is_none ?_
          refine iteT ?_
          refine ⟨_, rfl, _, rfl, _, rfl, a, cU, dr, _, _, rfl, hcc1, T.clU, T.end_, rfl, d, _, _, r.e, rfl, rfl, hd1, ix_nat (by rw [List.length_map]; omega), ?_⟩
          exact ⟨_, _, _, _, (nx.trans (yes (by rw [e2]; rfl))).symm, rfl, M.put es⟩
        | some z =>
          refine ⟨_, rfl, _, rfl, a, cU, dr, _, _, rfl, hcc1, T.clU, T.end_, rfl, d, _, _, _, rfl, rfl, hd1, at_ov fe e2, rfl, _, rfl, ?_⟩
          refine is_some ?_
          refine ⟨_, rfl, _, rfl, _, rfl, a, cU, dr, _, _, rfl, hcc1, T.clU, T.end_, rfl, d, _, _, _, rfl, rfl, hd1, at_ov fe e2, _, _, rfl, rfl, _, rfl, ?_⟩
          refine ite2 (fun c => ?_) (fun c => ?_)
          · refine ⟨_, rfl, _, rfl, _, rfl, a, cU, dr, _, _, rfl, hcc1, T.clU, T.end_, rfl, d, _, _, r.e, rfl, rfl, hd1, ix_nat (by rw [List.length_map]; omega), ?_⟩
            exact ⟨_, _, _, _, (nx.trans (yes (by rw [e2]; exact c))).symm, rfl, M.put es⟩
          · exact ⟨x, _, _, _, by rw [nx, no (by rw [e2]; exact c)], rfl, M⟩
    · rintro σ H1 ⟨x, v3, v4, v5, ex, rfl, M⟩
      rw [List.take_of_length_le (by rw [List.length_map]; omega)] at ex
      have e : lessen rs D = x := ex.symm
      rw [e] at k
      exact ⟨_, rfl, k _ M⟩
def spLeastSums (cU : Addr) : Sp := fun vs H Q _ => ∃ l rs zero u, vs = [.ref l, .int (zero : Nat), .int (u : Nat)] ∧ RulesAt cU H l rs ∧ Fits rs (zero + 1) ∧ u < zero + 1 ∧ zero ≤ 16 ∧ (leastSums rs zero u = none → ∀ H', Same H H' → Q .non H') ∧ ∀ d, leastSums rs zero u = some d → giveSums H d Q
theorem ok_least_sums {f : Addr} {fd : FuncData} (F : Fun K "least_sums" "least_sums" s_least_sums f fd) (T : Txt K mg cC cP cB cR cU) (D_lessen : Def P w K mg base 1 "lessen" (spLessen cU)) : FnOk P w K mg base CX0 2 f fd ps_least_sums (spLeastSums cU) := by
  refine F.ok sc_least_sums (fun vs H Q E h => ?_) (fun cdv A outer s H vs Q E hr h => ?_)
  · obtain ⟨l, rs, zero, u, rfl, _⟩ := h
    rfl
  · obtain ⟨l, rs, zero, u, rfl, R, fi, hu, hz, k1, k2⟩ := h
    refine ⟨_, (pss_cons (ps_set (i := 3) sc_least_sums.nd rfl (by first | exact Or.inl rfl | exact Or.inr rfl) (pe_op op_add (pv 1) pe_int))
      (pss_cons (ps_set (i := 4) sc_least_sums.nd rfl (by first | exact Or.inl rfl | exact Or.inr rfl) (pe_op op_rep (pe_lst (pa_cons pe_non pa_nil)) (pv 3)))
      (pss_cons (ps_asg pe_int (pg_sub (pv 4) (pv 2) set_list))
      (pss_cons (ps_for PassesOwn.never rfl (pi_range1 rfl T.b_range (pa_cons (pv 3) pa_nil)) (pg_name (i := 5) sc_least_sums.nd rfl (by first | exact Or.inl rfl | exact Or.inr rfl))
      (pss_one (ps_if (pt_not (pt_val (pe_def D_lessen hr (pa_cons (pv 4) (pa_cons (pv 0) pa_nil))))) (pss_one (ps_ret (pv 4))) pss_nil)))
      (pss_one (ps_ret pe_non)))))), ?_⟩
    refine ⟨_, rfl, _, _, rfl, rfl, ?_⟩
    refine ⟨by show 1 ≤ sizeLine; decide, fun q hq => ?_⟩
    have en : ((zero : Int) + 1).toNat = zero + 1 := by omega
    refine ⟨_, rfl, q, _, _, rfl, rfl, upd_same, by omega, by omega, by rw [en]; exact lit_le (by show 1 * _ ≤ _; omega), fun d hd => ?_⟩
    rw [en, rep_none]
    refine ⟨_, rfl, _, rfl, d, _, _, u, rfl, rfl, upd_same, ?_, ?_⟩
    · have := ix_nat (n := ((List.replicate (zero + 1) (none : Option Int)).map ov).length) (k := (u : Int)) (by rw [List.length_map, List.length_replicate]; omega)
      rw [Int.toNat_natCast] at this
      exact this
    rw [upd_upd, seed_ov]
    have s0 : Same H (upd (upd H q (.lst [V.non])) d (.lst ((seedC (zero + 1) u).map ov))) := (same_new hq).trans (same_new hd)
    have n0 : H d = none := (same_new hq).free hd
    have d0 : SumsAt (upd (upd H q (.lst [V.non])) d (.lst ((seedC (zero + 1) u).map ov))) d (seedC (zero + 1) u) := upd_same
    generalize upd (upd H q (.lst [V.non])) d (.lst ((seedC (zero + 1) u).map ov)) = H0 at s0 d0 ⊢
    refine ⟨_, rfl, _, rfl, by omega, by omega, ?_⟩
    rw [en]
    refine for_range (n := zero + 1) (fun i σ H' => ∃ (D : Sums) (v5 : Option V), σ = [some (.ref l), some (.int (zero : Nat)), some (.int (u : Nat)), some (.int ((zero : Int) + 1)), some (.ref d), v5] ∧ Same H H' ∧ SumsAt H' d D ∧ D.length = zero + 1 ∧ leastSums rs zero u = rounds rs (zero + 1 - i) D)
      ⟨_, none, rfl, s0, d0, seedC_len, rfl⟩ ?_ ?_
    · rintro i σ H' hi ⟨D, v5, rfl, s1, d1, dl, er⟩
      have R1 := R.same s1
      have ndl : d ≠ l := by
        obtain ⟨as, hl, _⟩ := R
        exact Ne.symm (ne_of_none hl n0)
      refine ⟨_, rfl, _, rfl, d, l, D, rs, rfl, d1, R1, ndl, by rw [dl]; exact fi, fun H2 W => ?_⟩
      have s2 : Same H H2 := fun a o e => by rw [W.rest a (ne_of_none e n0)]; exact s1 a o e
      have stp : rounds rs (zero + 1 - i) D = if (lessen rs D).2 = true then rounds rs (zero + 1 - (i + 1)) (lessen rs D).1 else some (lessen rs D).1 := by
        rw [show zero + 1 - i = (zero + 1 - (i + 1)) + 1 by omega]
        rfl
      refine ⟨_, rfl, ?_⟩
      cases c : (lessen rs D).2 with
      | true =>
        refine iteF ?_
        rw [stp, if_pos c] at er
        exact ⟨_, _, rfl, s2, W.at_, by unfold lessen; rw [lfold_len]; exact dl, er⟩
      | false =>
        refine iteT ?_
        rw [stp, if_neg (by rw [c]; decide)] at er
        exact ⟨_, rfl, k2 _ er _ _ s2 n0 W.at_⟩
    · rintro σ H1 ⟨D, v5, rfl, s1, d1, dl, er⟩
      rw [Nat.sub_self] at er
      exact k1 er _ s1
def spSome (cC cP cB : Addr) : Sp := fun vs H Q _ => ∃ b lc lp s p g, vs = [.ref b, .int p, .int (g : Nat)] ∧ Good s ∧ BoardAt cC cP cB H b lc lp s ∧ ∀ H', Same H H' → Q (.bl (Vbpcas.feasible (Vbpcas.withReserve s g) p)) H'
theorem ok_some_row_is_right {f : Addr} {fd : FuncData} (F : Fun K "some_row_is_right" "some_row_is_right" s_some_row_is_right f fd) (T : Txt K mg cC cP cB cR cU) (D_zero_of : Def P w K mg base 1 "zero_of" (spZero cC cP cB)) (D_rules_of : Def P w K mg base 4 "rules_of" (spRulesOf cC cP cB cU)) (D_least_sums : Def P w K mg base 2 "least_sums" (spLeastSums cU)) :
    FnOk P w K mg base CX0 5 f fd ps_some_row_is_right (spSome cC cP cB) := by
  refine F.ok sc_some_row_is_right (fun vs H Q E h => ?_) (fun cdv A outer s H vs Q E hr h => ?_)
  · obtain ⟨b, lc, lp, s, p, g, rfl, _⟩ := h
    rfl
  · obtain ⟨b, lc, lp, s, p, g, rfl, G, B, k⟩ := h
    refine ⟨_, (pss_cons (ps_set (i := 3) sc_some_row_is_right.nd rfl (by first | exact Or.inl rfl | exact Or.inr rfl) (pe_def D_zero_of hr (pa_cons (pv 0) pa_nil)))
      (pss_one (ps_ret (pe_cmpR op_notN (pe_def D_least_sums hr (pa_cons (pe_def D_rules_of hr (pa_cons (pv 0) (pa_cons (pv 1) (pa_cons (pv 2) pa_nil)))) (pa_cons (pv 3) (pa_cons (pv 3) pa_nil)))) pe_non (nomark _))))), ?_⟩
    refine ⟨_, rfl, b, lc, lp, s, rfl, B, ?_⟩
    refine ⟨_, rfl, _, rfl, _, rfl, b, lc, lp, s, p, g, rfl, G, B, fun H1 l s1 n1 R => ?_⟩
    have g1 := G.chips
    rcases sums_is (s := s) (p := p) (g := g) (u := s.chips.length) G.inn (by omega) with ⟨a, d, e, D⟩ | ⟨a, e⟩
    · refine ⟨_, rfl, _, rfl, l, _, _, _, rfl, R, cru_fits G.inn rfl, by omega, g1, (fun q => by rw [e] at q; cases q), fun d' e' H2 l2 s2 n2 S2 => ?_⟩
      refine ⟨rfl, ?_⟩
      rw [a] at k
      exact k _ (s1.trans s2)
    · refine ⟨_, rfl, _, rfl, l, _, _, _, rfl, R, cru_fits G.inn rfl, by omega, g1, (fun _ H2 s2 => ⟨rfl, ?_⟩), fun d' e' => by rw [e] at e'; cases e'⟩
      rw [a] at k
      exact k _ (s1.trans s2)
def isFeasible (us : List V) (c : Vbpcas.Call) : Prop := ∃ p, us = [.int p] ∧ c = .feasible p
theorem reserve_zero (s : Vbpcas.State) : Vbpcas.withReserve s 0 = s := rfl
theorem ok_feasible {f : Addr} {fd : FuncData} (F : Fun K "feasible" "feasible" s_feasible f fd) (T : Txt K mg cC cP cB cR cU) (D_is_period : Def P w K mg base 1 "is_period" spPeriod) (D_some_row_is_right : Def P w K mg base 5 "some_row_is_right" (spSome cC cP cB)) :
    FnOk P w K mg base CX0 6 f fd ps_feasible (spDo cC cP cB isFeasible) := by
  refine F.ok sc_feasible (fun vs H Q E h => ?_) (fun cdv A outer s H vs Q E hr h => ?_)
  · obtain ⟨b, lc, lp, s, us, c, rfl, ⟨p, rfl, rfl⟩, _⟩ := h
    rfl
  · obtain ⟨b, lc, lp, s, us, c, rfl, ⟨p, rfl, rfl⟩, G, B, k⟩ := h
    refine ⟨_, (pss_cons (ps_if (pt_not (pt_val (pe_def D_is_period hr (pa_cons (pv 1) pa_nil)))) (pss_one (ps_ret (pe_lst (pa_cons (pe_gint rfl T.c_OUT_OF_RANGE) pa_nil)))) pss_nil)
      (pss_one (ps_ret (pe_lst (pa_cons (pe_ifExp (pt_val (pe_def D_some_row_is_right hr (pa_cons (pv 0) (pa_cons (pv 1) (pa_cons pe_int pa_nil))))) pe_int pe_int) pa_nil))))), ?_⟩
    refine ⟨_, rfl, p, rfl, _, rfl, ?_⟩
    by_cases c1 : 0 ≤ p ∧ p ≤ 2000000000
    · rw [decide_eq_true c1]
      refine iteF ?_
      rw [step_feasible_ok c1] at k
      refine ⟨_, rfl, _, rfl, b, lc, lp, s, p, 0, rfl, G, B, fun H1 s1 => ⟨_, rfl, ?_⟩⟩
      rw [reserve_zero]
      cases q : Vbpcas.feasible s p with
      | true =>
        rw [q] at k
        refine iteT ?_
        exact ⟨by show 1 ≤ sizeLine; decide, fun z hz => k _ _ (.same B (s1.trans (same_new hz)) (s1.free hz) upd_same)⟩
      | false =>
        rw [q] at k
        refine iteF ?_
        exact ⟨by show 1 ≤ sizeLine; decide, fun z hz => k _ _ (.same B (s1.trans (same_new hz)) (s1.free hz) upd_same)⟩
    · rw [decide_eq_false c1]
      refine iteT ?_
      rw [step_feasible_p c1] at k
      exact ⟨by show 1 ≤ sizeLine; decide, fun z hz => k _ _ (.one B hz)⟩
def isEarly (us : List V) (c : Vbpcas.Call) : Prop := ∃ p, us = [.int p] ∧ c = .early p
def isLate (us : List V) (c : Vbpcas.Call) : Prop := ∃ p, us = [.int p] ∧ c = .late p
theorem map_ov (l : List Int) : (l.map some).map ov = l.map V.int := by
  rw [List.map_map]
  rfl
theorem ok_late {f : Addr} {fd : FuncData} (F : Fun K "late" "late" s_late f fd) (T : Txt K mg cC cP cB cR cU) (D_is_period : Def P w K mg base 1 "is_period" spPeriod) (D_zero_of : Def P w K mg base 1 "zero_of" (spZero cC cP cB)) (D_rules_of : Def P w K mg base 4 "rules_of" (spRulesOf cC cP cB cU)) (D_least_sums : Def P w K mg base 2 "least_sums" (spLeastSums cU)) :
    FnOk P w K mg base CX0 6 f fd ps_late (spDo cC cP cB isLate) := by
  refine F.ok sc_late (fun vs H Q E h => ?_) (fun cdv A outer s H vs Q E hr h => ?_)
  · obtain ⟨b, lc, lp, s, us, c, rfl, ⟨p, rfl, rfl⟩, _⟩ := h
    rfl
  · obtain ⟨b, lc, lp, s, us, c, rfl, ⟨p, rfl, rfl⟩, G, B, k⟩ := h
    refine ⟨_, (pss_cons (ps_if (pt_not (pt_val (pe_def D_is_period hr (pa_cons (pv 1) pa_nil)))) (pss_one (ps_ret (pe_lst (pa_cons (pe_gint rfl T.c_OUT_OF_RANGE) pa_nil)))) pss_nil)
      (pss_cons (ps_set (i := 2) sc_late.nd rfl (by first | exact Or.inl rfl | exact Or.inr rfl) (pe_def D_zero_of hr (pa_cons (pv 0) pa_nil)))
      (pss_cons (ps_set (i := 3) sc_late.nd rfl (by first | exact Or.inl rfl | exact Or.inr rfl) (pe_def D_least_sums hr (pa_cons (pe_def D_rules_of hr (pa_cons (pv 0) (pa_cons (pv 1) (pa_cons pe_int pa_nil)))) (pa_cons (pv 2) (pa_cons (pv 2) pa_nil)))))
      (pss_cons (ps_if (pt_cmpR op_isN (pv 3) pe_non (nomark _)) (pss_one (ps_ret (pe_lst (pa_cons (pe_gint rfl T.c_NO_ROW) pa_nil)))) pss_nil)
      (pss_one (ps_ret (pe_op op_cat (pe_lst (pa_cons (pv 2) pa_nil)) (pe_slice sl_list (pv 3) po_none (po_some (pv 2)))))))))), ?_⟩
    have g1 := G.chips
    refine ⟨_, rfl, p, rfl, _, rfl, ?_⟩
    by_cases c1 : 0 ≤ p ∧ p ≤ 2000000000
    · rw [decide_eq_true c1]
      refine iteF ?_
      refine ⟨_, rfl, b, lc, lp, s, rfl, B, ?_⟩
      refine ⟨_, rfl, _, rfl, b, lc, lp, s, p, 0, rfl, G, B, fun H1 l s1 n1 R => ?_⟩
      rcases sums_is (s := s) (p := p) (g := 0) (u := s.chips.length) G.inn (by omega) with ⟨a, d, e, D⟩ | ⟨a, e⟩
      · refine ⟨_, rfl, _, rfl, l, _, _, _, rfl, R, cru_fits G.inn rfl, by omega, g1, (fun q => by rw [e] at q; cases q), fun d' e' H2 l2 s2 n2 S2 => ?_⟩
        rw [e] at e'
        cases e'
        have a : Vbpcas.feasible s p = true := a
        rw [step_late_ok c1 a] at k
        refine ⟨_, rfl, rfl, _, rfl, ?_⟩
        refine iteF ?_
        refine ⟨_, rfl, by show 1 ≤ sizeLine; decide, fun q hq => ?_⟩
        have nq : l2 ≠ q := ne_of_none S2 hq
        refine ⟨_, rfl, _, rfl, _, rfl, l2, _, rfl, SqL.of (by rw [upd_ne nq]; exact S2), fun m hm => ?_⟩
        rw [cut_take (by rw [List.length_map, D.len]; omega), ← List.map_take, late_is G.inn a D, map_ov]
        have nm : q ≠ m := ne_of_none upd_same hm
        refine ⟨q, m, _, _, rfl, rfl, by rw [upd_ne nm]; exact upd_same, upd_same, by rw [List.length_map, late_len]; exact lit_le (by show 1 + _ ≤ _; omega), fun z hz => ?_⟩
        refine k _ _ (.same B (s1.trans (s2.trans ((same_new hq).trans ((same_new hm).trans (same_new hz))))) ((s1.trans (s2.trans ((same_new hq).trans (same_new hm)))).free hz) ?_)
        rw [upd_same]
        rfl
      · refine ⟨_, rfl, _, rfl, l, _, _, _, rfl, R, cru_fits G.inn rfl, by omega, g1, (fun _ H2 s2 => ?_), fun d' e' => by rw [e] at e'; cases e'⟩
        have a : Vbpcas.feasible s p = false := a
        rw [step_late_no c1 a] at k
        refine ⟨_, rfl, rfl, _, rfl, ?_⟩
        refine iteT ?_
        have sa := s1.trans s2
        exact ⟨by show 1 ≤ sizeLine; decide, fun z hz => k _ _ (.same B (sa.trans (same_new hz)) (sa.free hz) upd_same)⟩
    · rw [decide_eq_false c1]
      refine iteT ?_
      rw [step_late_p c1] at k
      exact ⟨by show 1 ≤ sizeLine; decide, fun z hz => k _ _ (.one B hz)⟩
theorem turn_fits {s : Vbpcas.State} {p : Int} (h : PathsIn s) : Fits ((cru s p 0).map turnRu) (s.chips.length + 1) := fun r hr => by
  obtain ⟨r0, h0, rfl⟩ := List.mem_map.mp hr
  have := cru_fits (p := p) (g := 0) h rfl r0 h0
  exact ⟨this.2, this.1⟩
theorem ok_early {f : Addr} {fd : FuncData} (F : Fun K "early" "early" s_early f fd) (T : Txt K mg cC cP cB cR cU) (D_is_period : Def P w K mg base 1 "is_period" spPeriod) (D_zero_of : Def P w K mg base 1 "zero_of" (spZero cC cP cB)) (D_rules_of : Def P w K mg base 4 "rules_of" (spRulesOf cC cP cB cU)) (D_turned : Def P w K mg base 3 "turned" (spTurned cU)) (D_least_sums : Def P w K mg base 2 "least_sums" (spLeastSums cU)) :
    FnOk P w K mg base CX0 6 f fd ps_early (spDo cC cP cB isEarly) := by
  refine F.ok sc_early (fun vs H Q E h => ?_) (fun cdv A outer s H vs Q E hr h => ?_)
  · obtain ⟨b, lc, lp, s, us, c, rfl, ⟨p, rfl, rfl⟩, _⟩ := h
    rfl
  · obtain ⟨b, lc, lp, s, us, c, rfl, ⟨p, rfl, rfl⟩, G, B, k⟩ := h
    refine ⟨_, (pss_cons (ps_if (pt_not (pt_val (pe_def D_is_period hr (pa_cons (pv 1) pa_nil)))) (pss_one (ps_ret (pe_lst (pa_cons (pe_gint rfl T.c_OUT_OF_RANGE) pa_nil)))) pss_nil)
      (pss_cons (ps_set (i := 2) sc_early.nd rfl (by first | exact Or.inl rfl | exact Or.inr rfl) (pe_def D_zero_of hr (pa_cons (pv 0) pa_nil)))
      (pss_cons (ps_set (i := 3) sc_early.nd rfl (by first | exact Or.inl rfl | exact Or.inr rfl) (pe_def D_least_sums hr (pa_cons (pe_def D_turned hr (pa_cons (pe_def D_rules_of hr (pa_cons (pv 0) (pa_cons (pv 1) (pa_cons pe_int pa_nil)))) pa_nil)) (pa_cons (pv 2) (pa_cons (pv 2) pa_nil)))))
      (pss_cons (ps_if (pt_cmpR op_isN (pv 3) pe_non (nomark _)) (pss_one (ps_ret (pe_lst (pa_cons (pe_gint rfl T.c_NO_ROW) pa_nil)))) pss_nil)
      (pss_one (ps_ret (pe_op op_cat (pe_lst (pa_cons (pv 2) pa_nil)) (pe_lc rfl sc_early.nd (pi_list (pe_slice sl_list (pv 3) po_none (po_some (pv 2)))) (blkOk_by (N := ["board", "period", "zero", "sums", "total"]) (sc := defScope s_early) (own := [("total", 4)]) (by decide +kernel)) (fun _ _ _ _ _ => (pg_name (i := 4) sc_early.nd rfl (by first | exact Or.inl rfl | exact Or.inr rfl))) (fun _ _ _ _ _ => pts_nil) (fun _ _ _ _ _ => (pe_un un_neg (pv 4))))))))))), ?_⟩
    have g1 := G.chips
    refine ⟨_, rfl, p, rfl, _, rfl, ?_⟩
    by_cases c1 : 0 ≤ p ∧ p ≤ 2000000000
    · rw [decide_eq_true c1]
      refine iteF ?_
      refine ⟨_, rfl, b, lc, lp, s, rfl, B, ?_⟩
      refine ⟨_, rfl, _, rfl, b, lc, lp, s, p, 0, rfl, G, B, fun H1 l1 s1 n1 R1 => ?_⟩
      refine ⟨l1, _, rfl, R1, cru_len G, fun H1' l s1' n1' R => ?_⟩
      rcases sums_turned (s := s) (p := p) (u := s.chips.length) G.inn (by omega) with ⟨a, d, e, D⟩ | ⟨a, e⟩
      · refine ⟨_, rfl, _, rfl, l, _, _, _, rfl, R, turn_fits G.inn, by omega, g1, (fun q => by rw [e] at q; cases q), fun d' e' H2 l2 s2 n2 S2 => ?_⟩
        rw [e] at e'
        cases e'
        obtain ⟨tl, et, ee⟩ := early_is G.inn a D
        have tlen : tl.length = s.chips.length := by rw [← early_len (s := s) (p := p), ← ee, List.length_map]
        rw [step_early_ok c1 a, ← ee] at k
        refine ⟨_, rfl, rfl, _, rfl, ?_⟩
        refine iteF ?_
        refine ⟨_, rfl, by show 1 ≤ sizeLine; decide, fun q hq => ?_⟩
        have nq : l2 ≠ q := ne_of_none S2 hq
        refine ⟨_, rfl, _, rfl, _, rfl, l2, _, rfl, SqL.of (by rw [upd_ne nq]; exact S2), fun m hm => ?_⟩
        rw [cut_take (by rw [List.length_map, D.len]; omega), ← List.map_take, et, map_ov]
        have hm1 : upd (upd H2 q (.lst [V.int (s.chips.length : Nat)])) m (.lst (tl.map V.int)) m = some (.lst (tl.map V.int)) := upd_same
        have hq1 : upd (upd H2 q (.lst [V.int (s.chips.length : Nat)])) m (.lst (tl.map V.int)) q = some (.lst [V.int (s.chips.length : Nat)]) := by rw [upd_ne (ne_of_none upd_same hm)]; exact upd_same
        have sa : Same H (upd (upd H2 q (.lst [V.int (s.chips.length : Nat)])) m (.lst (tl.map V.int))) := s1.trans (s1'.trans (s2.trans ((same_new hq).trans (same_new hm))))
        generalize upd (upd H2 q (.lst [V.int (s.chips.length : Nat)])) m (.lst (tl.map V.int)) = H3 at hm1 hq1 sa ⊢
        refine ⟨m, rfl, ⟨_, SqL.of hm1⟩, fun D' hD => lc_list (K := K) (xs := tl.map V.int) (fun i H' => ∃ ys, Grown H3 H' D' ys ∧ ys = (((tl.map fun x => -x).take i).map V.int)) ⟨[], .start (same_refl _) hD, rfl⟩ (fun i H' _ ⟨ys, M, _⟩ => SqL.of (M.same _ _ hm1)) ?_ ?_⟩
        · rintro i y H' hi ⟨ys, M, rfl⟩
          obtain ⟨x, hx, rfl⟩ := map_at hi
          have e1 : (tl.map fun x => -x)[i]? = some (-x) := by rw [List.getElem?_map, hx]; rfl
          refine ⟨rfl, lc_go ?_⟩
          refine ⟨_, rfl, _, rfl, ?_⟩
          refine gput (R := fun i ys H' => ys = (((tl.map fun x => -x).take i).map V.int)) M (same_refl _) (by rw [List.length_map, List.length_take, List.length_map]; exact lit_small (by omega)) ?_
          rw [take_snoc e1, List.map_append]
          rfl
        · rintro H4 ⟨ys, M, rfl⟩
          rw [List.length_map, List.take_of_length_le (by rw [List.length_map]; omega)] at M
          refine ⟨q, D', _, _, rfl, rfl, M.same _ _ hq1, M.lst, by rw [List.length_map, List.length_map, tlen]; exact lit_le (by show 1 + _ ≤ _; omega), fun z hz => ?_⟩
          have sb := sa.trans M.same
          refine k _ _ (.same B (sb.trans (same_new hz)) (sb.free hz) ?_)
          rw [upd_same]
          rfl
      · refine ⟨_, rfl, _, rfl, l, _, _, _, rfl, R, turn_fits G.inn, by omega, g1, (fun _ H2 s2 => ?_), fun d' e' => by rw [e] at e'; cases e'⟩
        rw [step_early_no c1 a] at k
        refine ⟨_, rfl, rfl, _, rfl, ?_⟩
        refine iteT ?_
        have sa := s1.trans (s1'.trans s2)
        exact ⟨by show 1 ≤ sizeLine; decide, fun z hz => k _ _ (.same B (sa.trans (same_new hz)) (sa.free hz) upd_same)⟩
    · rw [decide_eq_false c1]
      refine iteT ?_
      rw [step_early_p c1] at k
      exact ⟨by show 1 ≤ sizeLine; decide, fun z hz => k _ _ (.one B hz)⟩
def isApart (us : List V) (c : Vbpcas.Call) : Prop := ∃ p i j, us = [.int p, .int i, .int j] ∧ c = .apart p i j
theorem ok_apart {f : Addr} {fd : FuncData} (F : Fun K "apart" "apart" s_apart f fd) (T : Txt K mg cC cP cB cR cU) (D_is_period : Def P w K mg base 1 "is_period" spPeriod) (D_has_chip : Def P w K mg base 1 "has_chip" (spHasChip cC cP cB)) (D_zero_of : Def P w K mg base 1 "zero_of" (spZero cC cP cB)) (D_rules_of : Def P w K mg base 4 "rules_of" (spRulesOf cC cP cB cU)) (D_least_sums : Def P w K mg base 2 "least_sums" (spLeastSums cU)) :
    FnOk P w K mg base CX0 6 f fd ps_apart (spDo cC cP cB isApart) := by
  refine F.ok sc_apart (fun vs H Q E h => ?_) (fun cdv A outer s H vs Q E hr h => ?_)
  · obtain ⟨b, lc, lp, s, us, c, rfl, ⟨p, i, j, rfl, rfl⟩, _⟩ := h
    rfl
  · obtain ⟨b, lc, lp, s, us, c, rfl, ⟨p, i, j, rfl, rfl⟩, G, B, k⟩ := h
    refine ⟨_, (pss_cons (ps_if (pt_not (pt_val (pe_def D_is_period hr (pa_cons (pv 1) pa_nil)))) (pss_one (ps_ret (pe_lst (pa_cons (pe_gint rfl T.c_OUT_OF_RANGE) pa_nil)))) pss_nil)
      (pss_cons (ps_if (pt_not (PW.pt (pw_and (pt_val (pe_def D_has_chip hr (pa_cons (pv 0) (pa_cons (pv 2) pa_nil)))) (pw_and1 (pt_val (pe_def D_has_chip hr (pa_cons (pv 0) (pa_cons (pv 3) pa_nil)))))))) (pss_one (ps_ret (pe_lst (pa_cons (pe_gint rfl T.c_NO_CHIP) pa_nil)))) pss_nil)
      (pss_cons (ps_set (i := 4) sc_apart.nd rfl (by first | exact Or.inl rfl | exact Or.inr rfl) (pe_def D_rules_of hr (pa_cons (pv 0) (pa_cons (pv 1) (pa_cons pe_int pa_nil)))))
      (pss_cons (ps_set (i := 5) sc_apart.nd rfl (by first | exact Or.inl rfl | exact Or.inr rfl) (pe_def D_least_sums hr (pa_cons (pv 4) (pa_cons (pe_def D_zero_of hr (pa_cons (pv 0) pa_nil)) (pa_cons (pv 2) pa_nil)))))
      (pss_cons (ps_set (i := 6) sc_apart.nd rfl (by first | exact Or.inl rfl | exact Or.inr rfl) (pe_def D_least_sums hr (pa_cons (pv 4) (pa_cons (pe_def D_zero_of hr (pa_cons (pv 0) pa_nil)) (pa_cons (pv 3) pa_nil)))))
      (pss_cons (ps_if (PW.pt (pw_or (pt_cmpR op_isN (pv 5) pe_non (nomark _)) (pw_or1 (pt_cmpR op_isN (pv 6) pe_non (nomark _))))) (pss_one (ps_ret (pe_lst (pa_cons (pe_gint rfl T.c_NO_ROW) pa_nil)))) pss_nil)
      (pss_one (ps_ret (pe_lst (pa_cons (pe_un un_neg (pe_ix ix_own (pv 6) (pv 2) (fun _ _ => rfl))) (pa_cons (pe_ix ix_own (pv 5) (pv 3) (fun _ _ => rfl)) pa_nil))))))))))), ?_⟩
    have g1 := G.chips
    refine ⟨_, rfl, p, rfl, _, rfl, ?_⟩
    by_cases c1 : 0 ≤ p ∧ p ≤ 2000000000
    · rw [decide_eq_true c1]
      refine iteF ?_
      refine ⟨_, rfl, _, rfl, b, lc, lp, s, i, rfl, B, _, rfl, ?_⟩
      by_cases ci : 0 ≤ i ∧ i < s.chips.length
      · rw [decide_eq_true ci]
        refine iteT ?_
        refine ⟨_, rfl, _, rfl, b, lc, lp, s, j, rfl, B, _, rfl, ?_⟩
        by_cases cj : 0 ≤ j ∧ j < s.chips.length
        · rw [decide_eq_true cj]
          refine iteF ?_
          refine ⟨_, rfl, _, rfl, b, lc, lp, s, p, 0, rfl, G, B, fun H1 l s1 n1 R => ?_⟩
          have ei : (i.toNat : Int) = i := Int.toNat_of_nonneg ci.1
          have ej : (j.toNat : Int) = j := Int.toNat_of_nonneg cj.1
          rcases sums_is (s := s) (p := p) (g := 0) (u := i.toNat) G.inn (by omega) with ⟨a, d, e, D⟩ | ⟨a, e⟩
          · rcases sums_is (s := s) (p := p) (g := 0) (u := j.toNat) G.inn (by omega) with ⟨a', d', e', D'⟩ | ⟨a', e'⟩
            · refine ⟨_, rfl, _, rfl, b, lc, lp, s, rfl, B.same s1, _, rfl, l, _, s.chips.length, i.toNat, by rw [ei], R, cru_fits G.inn rfl, by omega, g1, (fun q => by rw [e] at q; cases q), fun d2 e2 H2 l2 s2 n2 S2 => ?_⟩
              rw [e] at e2
              cases e2
              refine ⟨_, rfl, _, rfl, b, lc, lp, s, rfl, B.same (s1.trans s2), _, rfl, l, _, s.chips.length, j.toNat, by rw [ej], R.same s2, cru_fits G.inn rfl, by omega, g1, (fun q => by rw [e'] at q; cases q), fun d2 e2 H3 l3 s3 n3 S3 => ?_⟩
              rw [e'] at e2
              cases e2
              have a : Vbpcas.feasible s p = true := a
              rw [step_apart_ok c1 ci cj a] at k
              refine ⟨_, rfl, rfl, _, rfl, ?_⟩
              refine iteF ?_
              refine ⟨_, rfl, rfl, _, rfl, ?_⟩
              refine iteF ?_
              have x1 := dist_at (v := j.toNat + 1) G.inn a (u := i.toNat + 1) (by omega) (by omega) D
              have x2 := dist_at (v := i.toNat + 1) G.inn a (u := j.toNat + 1) (by omega) (by omega) D'
              have t1 := at_ov (D := d) (i := j.toNat) (by rw [D.len]; omega) x1
              have t2 := at_ov (D := d') (i := i.toNat) (by rw [D'.len]; omega) x2
              rw [ej] at t1
              rw [ei] at t2
              refine ⟨_, rfl, _, rfl, l3, _, _, _, rfl, rfl, S3, t2, _, rfl, _, rfl, _, rfl, l2, _, _, _, rfl, rfl, s3 _ _ S2, t1, by show 2 ≤ sizeLine; decide, fun z hz => ?_⟩
              have sa := s1.trans (s2.trans s3)
              refine k _ _ (.same B (sa.trans (same_new hz)) (sa.free hz) ?_)
              rw [upd_same]
              rfl
            · rw [reserve_zero] at a a'
              rw [a] at a'
              cases a'
          · rcases sums_is (s := s) (p := p) (g := 0) (u := j.toNat) G.inn (by omega) with ⟨a', d', e', D'⟩ | ⟨a', e'⟩
            · rw [reserve_zero] at a a'
              rw [a] at a'
              cases a'
            · refine ⟨_, rfl, _, rfl, b, lc, lp, s, rfl, B.same s1, _, rfl, l, _, s.chips.length, i.toNat, by rw [ei], R, cru_fits G.inn rfl, by omega, g1, (fun _ H2 s2 => ?_), fun d2 e2 => by rw [e] at e2; cases e2⟩
              refine ⟨_, rfl, _, rfl, b, lc, lp, s, rfl, B.same (s1.trans s2), _, rfl, l, _, s.chips.length, j.toNat, by rw [ej], R.same s2, cru_fits G.inn rfl, by omega, g1, (fun _ H3 s3 => ?_), fun d2 e2 => by rw [e'] at e2; cases e2⟩
              have a : Vbpcas.feasible s p = false := a
              rw [step_apart_no c1 ci cj a] at k
              refine ⟨_, rfl, rfl, _, rfl, ?_⟩
              refine iteT ?_
              refine iteT ?_
              have sa := s1.trans (s2.trans s3)
              exact ⟨by show 1 ≤ sizeLine; decide, fun z hz => k _ _ (.same B (sa.trans (same_new hz)) (sa.free hz) upd_same)⟩
        · rw [decide_eq_false cj]
          refine iteT ?_
          rw [step_apart_c c1 (fun q => cj q.2)] at k
          exact ⟨by show 1 ≤ sizeLine; decide, fun z hz => k _ _ (.one B hz)⟩
      · rw [decide_eq_false ci]
        refine iteF ?_
        refine iteT ?_
        rw [step_apart_c c1 (fun q => ci q.1)] at k
        exact ⟨by show 1 ≤ sizeLine; decide, fun z hz => k _ _ (.one B hz)⟩
    · rw [decide_eq_false c1]
      refine iteT ?_
      rw [step_apart_p c1] at k
      exact ⟨by show 1 ≤ sizeLine; decide, fun z hz => k _ _ (.one B hz)⟩
def isLeast (us : List V) (c : Vbpcas.Call) : Prop := us = [] ∧ c = .least
def gap (i j : Nat) (σ : L2.St) : Nat := match σ[i]?, σ[j]? with
  | some (some (.int a)), some (some (.int b)) => (b - a).toNat
  | _, _ => 0
theorem test_mono {r : R2} {i j : Nat} {σ : L2.St} {H : Hp} {Q Q' : Bool → Hp → Prop} (h : ∀ b H1, Q b H1 → Q' b H1) (hr : ∀ x y H (q q' : VK), (∀ v H1, q v H1 → q' v H1) → r x y H q → r x y H q') (t : tTest (tOp r (tVar i) (tVar j)) σ H Q) : tTest (tOp r (tVar i) (tVar j)) σ H Q' := by
  obtain ⟨x, hx, y, hy, q⟩ := t
  exact ⟨x, hx, y, hy, hr _ _ _ _ _ (fun v H1 ⟨k, e, z⟩ => ⟨k, e, h _ _ z⟩) q⟩
theorem ok_least {f : Addr} {fd : FuncData} (F : Fun K "least" "least" s_least f fd) (T : Txt K mg cC cP cB cR cU) (D_some_row_is_right : Def P w K mg base 5 "some_row_is_right" (spSome cC cP cB)) :
    FnOk P w K mg base CX0 6 f fd ps_least (spDo cC cP cB isLeast) := by
  refine F.ok sc_least (fun vs H Q E h => ?_) (fun cdv A outer s H vs Q E hr h => ?_)
  · obtain ⟨b, lc, lp, s, us, c, rfl, ⟨rfl, rfl⟩, _⟩ := h
    rfl
  · obtain ⟨b, lc, lp, s, us, c, rfl, ⟨rfl, rfl⟩, G, B, k⟩ := h
    refine ⟨_, (pss_cons (ps_if (pt_not (pt_val (pe_def D_some_row_is_right hr (pa_cons (pv 0) (pa_cons (pe_gint rfl T.c_GREATEST_PERIOD) (pa_cons pe_int pa_nil)))))) (pss_one (ps_ret (pe_lst (pa_cons (pe_gint rfl T.c_NO_PERIOD) pa_nil)))) pss_nil)
      (pss_cons (ps_set (i := 1) sc_least.nd rfl (by first | exact Or.inl rfl | exact Or.inr rfl) pe_int)
      (pss_cons (ps_set (i := 2) sc_least.nd rfl (by first | exact Or.inl rfl | exact Or.inr rfl) (pe_gint rfl T.c_GREATEST_PERIOD))
      (pss_cons (ps_while PassesOwn.never (pt_cmpR op_lt (pv 1) (pv 2) (nomark _))
      (pss_cons (ps_set (i := 3) sc_least.nd rfl (by first | exact Or.inl rfl | exact Or.inr rfl) (pe_op op_fdiv (pe_op op_add (pv 1) (pv 2)) pe_int))
      (pss_one (ps_if (pt_val (pe_def D_some_row_is_right hr (pa_cons (pv 0) (pa_cons (pv 3) (pa_cons pe_int pa_nil))))) (pss_one (ps_set (i := 2) sc_least.nd rfl (by first | exact Or.inl rfl | exact Or.inr rfl) (pv 3))) (pss_one (ps_set (i := 1) sc_least.nd rfl (by first | exact Or.inl rfl | exact Or.inr rfl) (pe_op op_add (pv 3) pe_int)))))))
      (pss_one (ps_ret (pe_lst (pa_cons (pv 1) pa_nil)))))))), ?_⟩
    refine ⟨_, rfl, b, lc, lp, s, 2000000000, 0, rfl, G, B, fun H1 s1 => ⟨_, rfl, ?_⟩⟩
    rw [reserve_zero]
    cases q : Vbpcas.feasible s 2000000000 with
    | false =>
      refine iteT ?_
      rw [step_least_no (least_none G q)] at k
      exact ⟨by show 1 ≤ sizeLine; decide, fun z hz => k _ _ (.same B (s1.trans (same_new hz)) (s1.free hz) upd_same)⟩
    | true =>
      refine iteF ?_
      refine while_by (fun σ H' => ∃ (lo hi : Nat) (v3 : Option V), σ = [some (.ref b), some (.int (lo : Nat)), some (.int (hi : Nat)), v3] ∧ Same H H' ∧ lo ≤ hi ∧ Vbpcas.feasible s (hi : Int) = true ∧ ∀ x : Nat, x < lo → Vbpcas.feasible s (x : Int) = false) (fun σ _ => gap 1 2 σ)
        ⟨0, 2000000000, none, rfl, s1, by decide, q, fun x hx => absurd hx (Nat.not_lt_zero _)⟩ ?_ (fun σ H Q Q' h t => test_mono h (fun x y H q q' hq ⟨i, j, a, c, d⟩ => ⟨i, j, a, c, hq _ _ d⟩) t)
      rintro σ H2 ⟨lo, hi, v3, rfl, s2, hle, hf, hno⟩
      refine ⟨_, rfl, _, rfl, _, _, rfl, rfl, _, rfl, ?_⟩
      refine ite2 (fun c => ?_) (fun c => ?_)
      · have c : (lo : Int) < (hi : Int) := of_decide_eq_true c
        obtain ⟨mid, em⟩ : ∃ mid : Nat, ((lo : Int) + (hi : Int)) / 2 = (mid : Int) := ⟨(((lo : Int) + (hi : Int)) / 2).toNat, by omega⟩
        refine ⟨_, rfl, _, rfl, _, _, rfl, rfl, _, _, rfl, rfl, ⟨by decide, by decide⟩, ?_⟩
        simp only [em]
        refine ⟨_, rfl, _, rfl, b, lc, lp, s, mid, 0, rfl, G, B.same s2, fun H3 s3 => ⟨_, rfl, ?_⟩⟩
        rw [reserve_zero]
        cases q2 : Vbpcas.feasible s (mid : Int) with
        | true =>
          refine iteT ?_
          refine ⟨_, rfl, ⟨lo, mid, _, rfl, s2.trans s3, by omega, q2, hno⟩, ?_⟩
          show ((mid : Int) - (lo : Int)).toNat < ((hi : Int) - (lo : Int)).toNat
          omega
        | false =>
          refine iteF ?_
          refine ⟨_, rfl, _, _, rfl, rfl, ⟨mid + 1, hi, _, rfl, s2.trans s3, by omega, hf, fun x hx => ?_⟩, ?_⟩
          · cases q3 : Vbpcas.feasible s (x : Int) with
            | false => rfl
            | true =>
              have := feasible_mono G.inn (show (x : Int) ≤ (mid : Int) by omega) q3
              rw [q2] at this
              cases this
          · show ((hi : Int) - ((mid : Int) + 1)).toNat < ((hi : Int) - (lo : Int)).toNat
            omega
      · have c : ¬ (lo : Int) < (hi : Int) := fun z => c (decide_eq_true z)
        have e : lo = hi := by omega
        subst e
        rw [step_least_ok (least_is G hf hno)] at k
        exact ⟨_, rfl, by show 1 ≤ sizeLine; decide, fun z hz => k _ _ (.same B (s2.trans (same_new hz)) (s2.free hz) upd_same)⟩
def isReserve (us : List V) (c : Vbpcas.Call) : Prop := ∃ p m, us = [.int p, .int m] ∧ c = .reserve p m
theorem ok_reserve {f : Addr} {fd : FuncData} (F : Fun K "reserve" "reserve" s_reserve f fd) (T : Txt K mg cC cP cB cR cU) (D_is_period : Def P w K mg base 1 "is_period" spPeriod) (D_is_margin : Def P w K mg base 1 "is_margin" spMargin) (D_some_row_is_right : Def P w K mg base 5 "some_row_is_right" (spSome cC cP cB)) :
    FnOk P w K mg base CX0 6 f fd ps_reserve (spDo cC cP cB isReserve) := by
  refine F.ok sc_reserve (fun vs H Q E h => ?_) (fun cdv A outer s H vs Q E hr h => ?_)
  · obtain ⟨b, lc, lp, s, us, c, rfl, ⟨p, m, rfl, rfl⟩, _⟩ := h
    rfl
  · obtain ⟨b, lc, lp, s, us, c, rfl, ⟨p, m, rfl, rfl⟩, G, B, k⟩ := h
    refine ⟨_, (pss_cons (ps_if (pt_not (PW.pt (pw_and (pt_val (pe_def D_is_period hr (pa_cons (pv 1) pa_nil))) (pw_and1 (pt_val (pe_def D_is_margin hr (pa_cons (pv 2) pa_nil))))))) (pss_one (ps_ret (pe_lst (pa_cons (pe_gint rfl T.c_OUT_OF_RANGE) pa_nil)))) pss_nil)
      (pss_cons (ps_if (pt_not (pt_val (pe_def D_some_row_is_right hr (pa_cons (pv 0) (pa_cons (pv 1) (pa_cons pe_int pa_nil)))))) (pss_one (ps_ret (pe_lst (pa_cons (pe_gint rfl T.c_NO_ROW) pa_nil)))) pss_nil)
      (pss_cons (ps_set (i := 3) sc_reserve.nd rfl (by first | exact Or.inl rfl | exact Or.inr rfl) pe_int)
      (pss_cons (ps_set (i := 4) sc_reserve.nd rfl (by first | exact Or.inl rfl | exact Or.inr rfl) (pv 2))
      (pss_cons (ps_while PassesOwn.never (pt_cmpR op_lt (pv 3) (pv 4) (nomark _))
      (pss_cons (ps_set (i := 5) sc_reserve.nd rfl (by first | exact Or.inl rfl | exact Or.inr rfl) (pe_op op_fdiv (pe_op op_add (pe_op op_add (pv 3) (pv 4)) pe_int) pe_int))
      (pss_one (ps_if (pt_val (pe_def D_some_row_is_right hr (pa_cons (pv 0) (pa_cons (pv 1) (pa_cons (pv 5) pa_nil))))) (pss_one (ps_set (i := 3) sc_reserve.nd rfl (by first | exact Or.inl rfl | exact Or.inr rfl) (pv 5))) (pss_one (ps_set (i := 4) sc_reserve.nd rfl (by first | exact Or.inl rfl | exact Or.inr rfl) (pe_op op_sub (pv 5) pe_int)))))))
      (pss_one (ps_ret (pe_lst (pa_cons (pv 3) pa_nil))))))))), ?_⟩
    refine ⟨_, rfl, p, rfl, _, rfl, ?_⟩
    by_cases c1 : 0 ≤ p ∧ p ≤ 2000000000
    · rw [decide_eq_true c1]
      refine iteT ?_
      refine ⟨_, rfl, m, rfl, _, rfl, ?_⟩
      by_cases c2 : 0 ≤ m ∧ m ≤ 100000000
      · rw [decide_eq_true c2]
        refine iteF ?_
        refine ⟨_, rfl, _, rfl, b, lc, lp, s, p, 0, rfl, G, B, fun H1 s1 => ⟨_, rfl, ?_⟩⟩
        rw [reserve_zero]
        cases q : Vbpcas.feasible s p with
        | false =>
          refine iteT ?_
          rw [step_reserve_no c1 c2 q] at k
          exact ⟨by show 1 ≤ sizeLine; decide, fun z hz => k _ _ (.same B (s1.trans (same_new hz)) (s1.free hz) upd_same)⟩
        | true =>
          refine iteF ?_
          rw [step_reserve_ok c1 c2 q] at k
          have em : (m.toNat : Int) = m := Int.toNat_of_nonneg c2.1
          refine ⟨_, rfl, ?_⟩
          refine while_by (fun σ H' => ∃ (lo hi : Nat) (v3 : Option V), σ = [some (.ref b), some (.int p), some (.int m), some (.int (lo : Nat)), some (.int (hi : Nat)), v3] ∧ Same H H' ∧ lo ≤ hi ∧ hi ≤ m.toNat ∧ Vbpcas.feasible (Vbpcas.withReserve s lo) p = true ∧ (hi = m.toNat ∨ Vbpcas.feasible (Vbpcas.withReserve s (hi + 1)) p = false)) (fun σ _ => gap 3 4 σ)
            ⟨0, m.toNat, none, by rw [em]; rfl, s1, Nat.zero_le _, Nat.le_refl _, q, .inl rfl⟩ ?_ (fun σ H Q Q' h t => test_mono h (fun x y H q q' hq ⟨i, j, a, c, d⟩ => ⟨i, j, a, c, hq _ _ d⟩) t)
          rintro σ H2 ⟨lo, hi, v3, rfl, s2, hle, hhi, hf, hno⟩
          refine ⟨_, rfl, _, rfl, _, _, rfl, rfl, _, rfl, ?_⟩
          refine ite2 (fun c => ?_) (fun c => ?_)
          · have c : (lo : Int) < (hi : Int) := of_decide_eq_true c
            obtain ⟨mid, em2⟩ : ∃ mid : Nat, ((lo : Int) + (hi : Int) + 1) / 2 = (mid : Int) := ⟨(((lo : Int) + (hi : Int) + 1) / 2).toNat, by omega⟩
            refine ⟨_, rfl, _, rfl, _, _, rfl, rfl, _, _, rfl, rfl, _, _, rfl, rfl, ⟨by decide, by decide⟩, ?_⟩
            simp only [em2]
            refine ⟨_, rfl, _, rfl, _, rfl, b, lc, lp, s, p, mid, rfl, G, B.same s2, fun H3 s3 => ⟨_, rfl, ?_⟩⟩
            cases q2 : Vbpcas.feasible (Vbpcas.withReserve s mid) p with
            | true =>
              refine iteT ?_
              refine ⟨_, rfl, ⟨mid, hi, _, rfl, s2.trans s3, by omega, hhi, q2, hno⟩, ?_⟩
              show ((hi : Int) - (mid : Int)).toNat < ((hi : Int) - (lo : Int)).toNat
              omega
            | false =>
              refine iteF ?_
              obtain ⟨m1, e1⟩ : ∃ m1 : Nat, mid = m1 + 1 := ⟨mid - 1, by omega⟩
              subst e1
              refine ⟨_, rfl, _, _, rfl, rfl, ⟨lo, m1, some (.int ((m1 + 1 : Nat) : Int)), by show [some (V.ref b), some (V.int p), some (V.int m), some (V.int (lo : Int)), some (V.int (((m1 + 1 : Nat) : Int) - 1)), some (V.int ((m1 + 1 : Nat) : Int))] = _; rw [show ((m1 + 1 : Nat) : Int) - 1 = (m1 : Int) by omega], s2.trans s3, by omega, by omega, hf, .inr q2⟩, ?_⟩
              show (((m1 + 1 : Nat) : Int) - 1 - (lo : Int)).toNat < ((hi : Int) - (lo : Int)).toNat
              omega
          · have c : ¬ (lo : Int) < (hi : Int) := fun z => c (decide_eq_true z)
            have e : lo = hi := by omega
            subst e
            rw [reserve_is G.inn (by omega) hhi hf hno] at k
            exact ⟨_, rfl, by show 1 ≤ sizeLine; decide, fun z hz => k _ _ (.same B (s2.trans (same_new hz)) (s2.free hz) upd_same)⟩
      · rw [decide_eq_false c2]
        refine iteT ?_
        rw [step_reserve_p (fun q => c2 q.2)] at k
        exact ⟨by show 1 ≤ sizeLine; decide, fun z hz => k _ _ (.one B hz)⟩
    · rw [decide_eq_false c1]
      refine iteF ?_
      refine iteT ?_
      rw [step_reserve_p (fun q => c1 q.1)] at k
      exact ⟨by show 1 ≤ sizeLine; decide, fun z hz => k _ _ (.one B hz)⟩
end
end Ck

set_option Elab.async false
set_option linter.all false
set_option maxRecDepth 100000
set_option maxHeartbeats 4000000
namespace Ck
open PySem PySem.Spec PyProof.Rows L2
theorem at_last {xs : List Addr} {k : Nat} {a : Addr} (hl : xs.length = k + 1) (h : xs[k]? = some a) : atI (xs.map V.ref) (-1) = some (V.ref a) := by
  unfold atI ixN
  rw [if_neg (by decide), if_pos (by rw [List.length_map]; omega)]
  show (xs.map V.ref)[((-1 : Int) + (xs.map V.ref).length).toNat]? = _
  rw [List.length_map, hl, show ((-1 : Int) + ((k + 1 : Nat) : Int)).toNat = k by omega, List.getElem?_map, h]
  rfl
theorem cut_last {xs : List V} {k : Nat} (h : xs.length = k + 1) : cutV xs none (some (-1)) = xs.take k := by
  unfold cutV
  rw [HT.sIx_none, List.drop_zero, Nat.sub_zero]
  show xs.take (if (-1 : Int) < 0 then ((-1 : Int) + (xs.length : Int)).toNat else min (-1 : Int).toNat xs.length) = xs.take k
  rw [if_pos (by decide), h, show ((-1 : Int) + ((k + 1 : Nat) : Int)).toNat = k by omega]
theorem find_filter {α : Type} {P : α → Bool} {r : α} : ∀ {l : List α}, l.find? P = some r → ∃ tl, l.filter P = r :: tl
  | [], h => by cases h
  | a :: l, h => by
    rw [List.find?_cons] at h
    rw [List.filter_cons]
    cases q : P a with
    | true =>
      rw [q] at h
      cases h
      exact ⟨_, rfl⟩
    | false =>
      rw [q] at h
      exact find_filter (l := l) h
theorem find_none {α : Type} {P : α → Bool} {l : List α} (h : l.find? P = none) : l.filter P = [] := by
  rw [List.filter_eq_nil_iff]
  exact List.find?_eq_none.mp h
def hole (H : Hp) (D : Addr) : Hp := fun a => if a = D then none else H a
theorem hole_sub (H : Hp) (D : Addr) : Same (hole H D) H := fun a o e => by
  unfold hole at e
  split at e
  · cases e
  · exact e
theorem hole_same {H H' : Hp} {D : Addr} (k : Same H H') : Same (hole H D) (hole H' D) := fun a o e => by
  unfold hole at e ⊢
  split at e
  · cases e
  · rename_i n
    rw [if_neg n]
    exact k a o e
theorem hole_upd {H : Hp} {D : Addr} {o : HO} : hole (upd H D o) D = hole H D := by
  funext a
  unfold hole
  split
  · rfl
  · rename_i n
    exact upd_ne n
theorem hole_at {H : Hp} {D a : Addr} {o : HO} (n : a ≠ D) (h : H a = some o) : hole H D a = some o := by
  unfold hole
  rw [if_neg n]
  exact h
section
variable {P : Program} {w : World} {K : PySem.W.Frag} {mg : Str → Option Value} {base : Heap} {cC cP cB cR cU : Addr}
def spAtGoal : Sp := fun vs H Q _ => ∃ n g : Nat, vs = [.int n, .int g] ∧ g < n ∧ n ≤ 17 ∧ giveSums H (seedC n g) Q
theorem ok_sums_at_goal {f : Addr} {fd : FuncData} (F : Fun K "sums_at_goal" "sums_at_goal" s_sums_at_goal f fd) (T : Txt K mg cC cP cB cR cU) : FnOk P w K mg base CX0 1 f fd ps_sums_at_goal spAtGoal := by
  refine F.ok sc_sums_at_goal (fun vs H Q E h => ?_) (fun cdv A outer s H vs Q E hr h => ?_)
  · obtain ⟨n, g, rfl, _⟩ := h
    rfl
  · obtain ⟨n, g, rfl, hg, hn, k⟩ := h
    refine ⟨_, (pss_cons (ps_set (i := 2) sc_sums_at_goal.nd rfl (by first | exact Or.inl rfl | exact Or.inr rfl) (pe_op op_rep (pe_lst (pa_cons pe_non pa_nil)) (pv 0)))
      (pss_cons (ps_asg pe_int (pg_sub (pv 2) (pv 1) set_list))
      (pss_one (ps_ret (pv 2))))), ?_⟩
    refine ⟨by show 1 ≤ sizeLine; decide, fun q hq => ?_⟩
    refine ⟨_, rfl, q, _, _, rfl, rfl, upd_same, by omega, by omega, by rw [Int.toNat_natCast]; exact lit_le (by show 1 * _ ≤ _; omega), fun d hd => ?_⟩
    rw [Int.toNat_natCast, rep_none]
    refine ⟨_, rfl, _, rfl, d, _, _, g, rfl, rfl, upd_same, ?_, ?_⟩
    · have := ix_nat (n := ((List.replicate n (none : Option Int)).map ov).length) (k := (g : Int)) (by rw [List.length_map, List.length_replicate]; omega)
      rw [Int.toNat_natCast] at this
      exact this
    rw [upd_upd, seed_ov]
    exact ⟨_, rfl, k _ _ ((same_new hq).trans (same_new hd)) ((same_new hq).free hd) upd_same⟩
def spMore (cU : Addr) : Sp := fun vs H Q _ => ∃ d l D rs, vs = [.ref d, .ref l] ∧ SumsAt H d D ∧ RulesAt cU H l rs ∧ Fits rs D.length ∧ D.length ≤ 17 ∧ giveSums H (more rs D) Q
theorem ok_with_one_more {f : Addr} {fd : FuncData} (F : Fun K "with_one_more" "with_one_more" s_with_one_more f fd) (T : Txt K mg cC cP cB cR cU) : FnOk P w K mg base CX0 1 f fd ps_with_one_more (spMore cU) := by
  refine F.ok sc_with_one_more (fun vs H Q E h => ?_) (fun cdv A outer s H vs Q E hr h => ?_)
  · obtain ⟨d, l, D, rs, rfl, _⟩ := h
    rfl
  · obtain ⟨d, l, D, rs, rfl, hd, ⟨as, hl, pa⟩, fi, hn, k⟩ := h
    refine ⟨_, (pss_cons (ps_set (i := 2) sc_with_one_more.nd rfl (by first | exact Or.inl rfl | exact Or.inr rfl) (pe_op op_rep (pe_lst (pa_cons pe_non pa_nil)) (pe_callB call_lenL rfl T.b_len PySem.boot_len (pa_cons (pv 0) pa_nil))))
      (pss_cons (ps_for PassesOwn.never rfl (pi_list (pv 1)) (pg_name (i := 3) sc_with_one_more.nd rfl (by first | exact Or.inl rfl | exact Or.inr rfl))
      (pss_cons (ps_set (i := 4) sc_with_one_more.nd rfl (by first | exact Or.inl rfl | exact Or.inr rfl) (pe_ix ix_own (pv 0) (pe_fld (pv 3) rfl) (fun _ _ => rfl)))
      (pss_one (ps_if (pt_cmpR op_notN (pv 4) pe_non (nomark _)) (pss_cons (ps_set (i := 5) sc_with_one_more.nd rfl (by first | exact Or.inl rfl | exact Or.inr rfl) (pe_op op_add (pe_fld (pv 3) rfl) (pv 4)))
      (pss_one (ps_if (PW.pt (pw_or (pt_cmpR op_isN (pe_ix ix_own (pv 2) (pe_fld (pv 3) rfl) (fun _ _ => rfl)) pe_non (nomark _)) (pw_or1 (pt_cmpR op_lt (pv 5) (pe_ix ix_own (pv 2) (pe_fld (pv 3) rfl) (fun _ _ => rfl)) (nomark _))))) (pss_one (ps_asg (pv 5) (pg_sub (pv 2) (pe_fld (pv 3) rfl) set_list))) pss_nil))) pss_nil))))
      (pss_one (ps_ret (pv 2))))), ?_⟩
    have ea := paired_len pa
    refine ⟨by show 1 ≤ sizeLine; decide, fun q hq => ?_⟩
    have nq : d ≠ q := ne_of_none hd hq
    refine ⟨_, rfl, d, _, rfl, by rw [upd_ne nq]; exact hd, q, _, _, rfl, rfl, upd_same, by omega, by rw [List.length_map]; omega, by rw [Int.toNat_natCast, List.length_map]; exact lit_le (by show 1 * _ ≤ _; omega), fun m hm => ?_⟩
    rw [Int.toNat_natCast, List.length_map, rep_none]
    have G0 : Grown H (upd (upd H q (.lst [V.non])) m (.lst ((List.replicate D.length (none : Option Int)).map ov))) m ((List.replicate D.length (none : Option Int)).map ov) := .start (same_new hq) hm
    generalize upd (upd H q (.lst [V.non])) m (.lst ((List.replicate D.length (none : Option Int)).map ov)) = H0 at G0 ⊢
    refine ⟨_, rfl, l, rfl, ⟨_, SqL.of (G0.same _ _ hl)⟩, for_list (K := K) (xs := as.map V.ref) (fun i σ H' => ∃ (x : Sums) (v3 v4 v5 : Option V), x = (rs.take i).foldl (more1 D) (List.replicate D.length none) ∧ σ = [some (.ref d), some (.ref l), some (.ref m), v3, v4, v5] ∧ Grown H H' m (x.map ov))
      ⟨_, none, none, none, rfl, rfl, G0⟩ (fun i σ H' _ ⟨_, _, _, _, _, _, M⟩ => SqL.of (M.same _ _ hl)) ?_ ?_⟩
    · rintro i y σ H' hi ⟨x, v3, v4, v5, ex, rfl, M⟩
      obtain ⟨a, ha, rfl⟩ := map_at hi
      obtain ⟨r, hr', dr, hcc⟩ : ∃ x, rs[i]? = some x ∧ RuleAt cU H a x := paired_get pa ha
      obtain ⟨fb, fe⟩ := fi r (List.mem_of_getElem? hr')
      have hcc1 := M.same _ _ hcc
      have hd1 : H' d = some (.lst (D.map ov)) := M.same _ _ hd
      have xl : x.length = D.length := by rw [ex, fold_len]; simp
      have nx : (rs.take (i + 1)).foldl (more1 D) (List.replicate D.length none) = more1 D x r := by rw [take_snoc hr', List.foldl_append, ← ex]; rfl
      cases e1 : D.getD r.e none with
      | none =>
        have st : more1 D x r = x := by unfold more1; rw [e1]
        refine ⟨_, rfl, _, rfl, a, cU, dr, _, _, rfl, hcc1, T.clU, T.end_, rfl, d, _, _, _, rfl, rfl, hd1, at_ov fe e1, ?_⟩
        refine ⟨_, rfl, rfl, _, rfl, ?_⟩
        refine nn_none ?_
        exact ⟨x, _, _, _, by rw [nx, st], rfl, M⟩
      | some y =>
        refine ⟨_, rfl, _, rfl, a, cU, dr, _, _, rfl, hcc1, T.clU, T.end_, rfl, d, _, _, _, rfl, rfl, hd1, at_ov fe e1, ?_⟩
        refine ⟨_, rfl, rfl, _, rfl, ?_⟩
        refine nn_some ?_
        refine ⟨_, rfl, a, cU, dr, _, _, rfl, hcc1, T.clU, T.bound, rfl, _, rfl, _, _, rfl, rfl, ?_⟩
        have yes : less (r.w + y) (x.getD r.b none) = true → more1 D x r = x.set r.b (some (r.w + y)) := fun q => by
          unfold more1
          rw [e1]
          exact if_pos q
        have no : ¬ less (r.w + y) (x.getD r.b none) = true → more1 D x r = x := fun q => by
          unfold more1
          rw [e1]
          exact if_neg q
        have es : (x.map ov).set r.b (V.int (r.w + y)) = (x.set r.b (some (r.w + y))).map ov := by rw [List.map_set]; rfl
        have hm1 := M.lst
        have fb' : r.b < x.length := by omega
        have ib : ixN (x.map ov).length (r.b : Int) = some r.b := by
          have := ix_nat (n := (x.map ov).length) (k := (r.b : Int)) (by rw [List.length_map]; omega)
          rw [Int.toNat_natCast] at this
          exact this
        cases e2 : x.getD r.b none with
        | none =>
          refine ⟨_, rfl, _, rfl, a, cU, dr, _, _, rfl, hcc1, T.clU, T.begin_, rfl, m, _, _, _, rfl, rfl, hm1, at_ov fb' e2, rfl, _, rfl, ?_⟩
          refine is_none ?_
          refine iteT ?_
          refine ⟨_, rfl, _, rfl, _, rfl, a, cU, dr, _, _, rfl, hcc1, T.clU, T.begin_, rfl, m, _, _, r.b, rfl, rfl, hm1, ib, ?_⟩
          rw [es]
          exact ⟨_, _, _, _, (nx.trans (yes (by rw [e2]; rfl))).symm, rfl, M.put (same_refl _)⟩
        | some z =>
          refine ⟨_, rfl, _, rfl, a, cU, dr, _, _, rfl, hcc1, T.clU, T.begin_, rfl, m, _, _, _, rfl, rfl, hm1, at_ov fb' e2, rfl, _, rfl, ?_⟩
          refine is_some ?_
          refine ⟨_, rfl, _, rfl, _, rfl, a, cU, dr, _, _, rfl, hcc1, T.clU, T.begin_, rfl, m, _, _, _, rfl, rfl, hm1, at_ov fb' e2, _, _, rfl, rfl, _, rfl, ?_⟩
          refine ite2 (fun c => ?_) (fun c => ?_)
          · refine ⟨_, rfl, _, rfl, _, rfl, a, cU, dr, _, _, rfl, hcc1, T.clU, T.begin_, rfl, m, _, _, r.b, rfl, rfl, hm1, ib, ?_⟩
            rw [es]
            exact ⟨_, _, _, _, (nx.trans (yes (by rw [e2]; exact c))).symm, rfl, M.put (same_refl _)⟩
          · exact ⟨x, _, _, _, by rw [nx, no (by rw [e2]; exact c)], rfl, M⟩
    · rintro σ H1 ⟨x, v3, v4, v5, ex, rfl, M⟩
      rw [List.take_of_length_le (by rw [List.length_map]; omega)] at ex
      have e : more rs D = x := ex.symm
      rw [e] at k
      exact ⟨_, rfl, k _ _ M.same M.new M.lst⟩
def spCloses (cU : Addr) : Sp := fun vs H Q _ => ∃ a d r D x, vs = [.ref a, .ref d, .int x] ∧ RuleAt cU H a r ∧ SumsAt H d D ∧ r.e < D.length ∧ Q (.bl (closes r D x)) H
theorem ok_closes {f : Addr} {fd : FuncData} (F : Fun K "closes" "closes" s_closes f fd) (T : Txt K mg cC cP cB cR cU) : FnOk P w K mg base CX0 1 f fd ps_closes (spCloses cU) := by
  refine F.ok sc_closes (fun vs H Q E h => ?_) (fun cdv A outer s H vs Q E hr h => ?_)
  · obtain ⟨a, d, r, D, x, rfl, _⟩ := h
    rfl
  · obtain ⟨a, d, r, D, x, rfl, ⟨dr, hcc⟩, hd, fe, k⟩ := h
    refine ⟨_, (pss_cons (ps_set (i := 3) sc_closes.nd rfl (by first | exact Or.inl rfl | exact Or.inr rfl) (pe_ix ix_own (pv 1) (pe_fld (pv 0) rfl) (fun _ _ => rfl)))
      (pss_one (ps_ret (pe_and (pe_cmpR op_notN (pv 3) pe_non (nomark _)) (pe_one (pe_cmpR op_lt (pe_op op_add (pe_op op_add (pv 2) (pe_fld (pv 0) rfl)) (pv 3)) pe_int (nomark _))))))), ?_⟩
    unfold closes at k
    cases e1 : D.getD r.e none with
    | none =>
      rw [e1] at k
      refine ⟨_, rfl, _, rfl, a, cU, dr, _, _, rfl, hcc, T.clU, T.end_, rfl, d, _, _, _, rfl, rfl, hd, at_ov fe e1, ?_⟩
      refine ⟨_, rfl, rfl, _, rfl, ?_⟩
      refine nn_none ?_
      exact k
    | some y =>
      rw [e1] at k
      refine ⟨_, rfl, _, rfl, a, cU, dr, _, _, rfl, hcc, T.clU, T.end_, rfl, d, _, _, _, rfl, rfl, hd, at_ov fe e1, ?_⟩
      refine ⟨_, rfl, rfl, _, rfl, ?_⟩
      refine nn_some ?_
      exact ⟨_, rfl, _, rfl, a, cU, dr, _, _, rfl, hcc, T.clU, T.bound, rfl, _, _, rfl, rfl, _, rfl, _, _, rfl, rfl, _, _, rfl, rfl, k⟩
def TabAt (H : Hp) (rs : List Ru) (n k : Nat) (t g : Nat) : Prop := ∃ ds : List Addr, H t = some (.lst (ds.map V.ref)) ∧ Paired (fun d j => SumsAt H d (back rs n g j)) ds (List.range (k + 1))
def TabsAt (H : Hp) (T : Addr) (rs : List Ru) (n k : Nat) : Prop := ∃ ts : List Addr, H T = some (.lst (ts.map V.ref)) ∧ Paired (TabAt H rs n k) ts (List.range n)
theorem TabAt.same {H H' : Hp} {rs : List Ru} {n k t g : Nat} (h : TabAt H rs n k t g) (s : Same H H') : TabAt H' rs n k t g := let ⟨ds, e, p⟩ := h; ⟨ds, s _ _ e, Paired.imp' (fun _ _ q => s _ _ q) p⟩
theorem TabsAt.same {H H' : Hp} {T : Addr} {rs : List Ru} {n k : Nat} (h : TabsAt H T rs n k) (s : Same H H') : TabsAt H' T rs n k := let ⟨ts, e, p⟩ := h; ⟨ts, s _ _ e, Paired.imp' (fun _ _ q => TabAt.same q s) p⟩
theorem TabAt.last {H : Hp} {rs : List Ru} {n k t g : Nat} (h : TabAt H rs n k t g) : ∃ (ds : List Addr) (d : Addr), H t = some (.lst (ds.map V.ref)) ∧ ds.length = k + 1 ∧ atI (ds.map V.ref) (-1) = some (V.ref d) ∧ SumsAt H d (back rs n g k) := by
  obtain ⟨ds, e, p⟩ := h
  have l := paired_len p
  rw [List.length_range] at l
  obtain ⟨d, hd, S⟩ := paired_at (i := k) (c := k) p (List.getElem?_range (by omega))
  exact ⟨ds, d, e, l, at_last l hd, S⟩
theorem TabsAt.get {H : Hp} {T : Addr} {rs : List Ru} {n k g : Nat} (h : TabsAt H T rs n k) (hg : g < n) : ∃ (ts : List Addr) (t : Addr), H T = some (.lst (ts.map V.ref)) ∧ atI (ts.map V.ref) (g : Int) = some (V.ref t) ∧ TabAt H rs n k t g := by
  obtain ⟨ts, e, p⟩ := h
  obtain ⟨t, ht, q⟩ := paired_at (i := g) (c := g) p (List.getElem?_range hg)
  exact ⟨ts, t, e, atI_nat (by rw [List.getElem?_map, ht]; rfl), q⟩
def spBeginnings (cU : Addr) : Sp := fun vs H Q _ => ∃ l T rs n k, vs = [.ref l, .ref T] ∧ RulesAt cU H l rs ∧ TabsAt H T rs n k ∧ Fits rs n ∧ rs.length ≤ 128 ∧ giveRules cU H (rs.filter (beg rs n k)) Q
theorem ok_beginnings {f : Addr} {fd : FuncData} (F : Fun K "beginnings" "beginnings" s_beginnings f fd) (T : Txt K mg cC cP cB cR cU) (D_closes : Def P w K mg base 1 "closes" (spCloses cU)) : FnOk P w K mg base CX0 2 f fd ps_beginnings (spBeginnings cU) := by
  refine F.ok sc_beginnings (fun vs H Q E h => ?_) (fun cdv A outer s H vs Q E hr h => ?_)
  · obtain ⟨l, tT, rs, n, k, rfl, _⟩ := h
    rfl
  · obtain ⟨l, tT, rs, n, kk, rfl, ⟨as, hl, pa⟩, TT, fi, hn, k⟩ := h
    refine ⟨_, (pss_one (ps_ret (pe_lc rfl sc_beginnings.nd (pi_list (pv 0)) (blkOk_by (N := ["rules", "tables", "rule"]) (sc := defScope s_beginnings) (own := [("rule", 2)]) (by decide +kernel)) (fun _ _ _ _ _ => (pg_name (i := 2) sc_beginnings.nd rfl (by first | exact Or.inl rfl | exact Or.inr rfl))) (fun _ _ _ _ _ => (pts_one (pt_val (pe_def D_closes hr (pa_cons (pv 2) (pa_cons (pe_ix ix_own (pe_ix ix_own (pv 1) (pe_fldB K (pv 2) rfl) (fun _ _ => rfl)) (pe_un un_neg pe_int) (fun _ _ => rfl)) (pa_cons pe_int pa_nil))))))) (fun _ _ _ _ _ => (pv 2))))), ?_⟩
    have ea := paired_len pa
    refine ⟨_, rfl, l, rfl, ⟨_, SqL.of hl⟩, fun D hD => lc_list (K := K) (xs := as.map V.ref) (fun i H' => ∃ ys, Grown H H' D ys ∧ Picked cU H rs (beg rs n kk) i ys) ⟨[], .start (same_refl _) hD, [], rfl, by simp; exact .nil⟩ (fun i H' _ ⟨ys, M, _⟩ => SqL.of (M.same _ _ hl)) ?_ ?_⟩
    · rintro i y H' hi ⟨ys, M, pk⟩
      obtain ⟨a, ha, rfl⟩ := map_at hi
      obtain ⟨r, hr', hcc⟩ : ∃ x, rs[i]? = some x ∧ RuleAt cU H a x := paired_get pa ha
      obtain ⟨fb, fe⟩ := fi r (List.mem_of_getElem? hr')
      obtain ⟨dr, hcc1⟩ := RuleAt.same hcc M.same
      obtain ⟨ts, t, hT, at1, tb⟩ := (TT.same M.same).get fb
      obtain ⟨ds, d, ht, dl, at2, S⟩ := tb.last
      have pl := picked_len pk
      refine ⟨rfl, ?_⟩
      refine ⟨_, rfl, _, rfl, _, rfl, a, cU, dr, _, _, rfl, hcc1, T.clU, T.begin_, rfl, tT, _, _, _, rfl, rfl, hT, at1, _, rfl, t, _, _, _, rfl, rfl, ht, at2, a, d, r, _, 0, rfl, ⟨dr, hcc1⟩, S, by rw [back_len]; exact fe, _, rfl, ?_⟩
      cases c : beg rs n kk r with
      | true =>
        have c' : closes r (back rs n r.b kk) 0 = true := c
        rw [c']
        refine iteT ?_
        exact ⟨_, rfl, gput (R := fun i ys H' => Picked cU H rs (beg rs n kk) i ys) M (same_refl _) (lit_small (by omega)) (picked_yes pk hr' hcc c)⟩
      | false =>
        have c' : closes r (back rs n r.b kk) 0 = false := c
        rw [c']
        refine iteF ?_
        exact ⟨ys, M, picked_no pk hr' (by rw [c]; decide)⟩
    · rintro H2 ⟨ys, M, bs, rfl, p⟩
      rw [List.length_map, List.take_of_length_le (by omega)] at p
      exact k _ _ M.same M.new ⟨bs, M.lst, rules_same p M.same⟩
def spWays (cU : Addr) : Sp := fun vs H Q _ => ∃ l u d x rs D, vs = [.ref l, .int (u : Nat), .ref d, .int x] ∧ RulesAt cU H l rs ∧ SumsAt H d D ∧ Fits rs D.length ∧ rs.length ≤ 128 ∧ giveRules cU H (rs.filter fun r => decide (r.b = u) && closes r D x) Q
theorem ok_ways_on {f : Addr} {fd : FuncData} (F : Fun K "ways_on" "ways_on" s_ways_on f fd) (T : Txt K mg cC cP cB cR cU) (D_closes : Def P w K mg base 1 "closes" (spCloses cU)) : FnOk P w K mg base CX0 2 f fd ps_ways_on (spWays cU) := by
  refine F.ok sc_ways_on (fun vs H Q E h => ?_) (fun cdv A outer s H vs Q E hr h => ?_)
  · obtain ⟨l, u, d, x, rs, D, rfl, _⟩ := h
    rfl
  · obtain ⟨l, u, d, x, rs, D, rfl, ⟨as, hl, pa⟩, hd, fi, hn, k⟩ := h
    refine ⟨_, (pss_one (ps_ret (pe_lc rfl sc_ways_on.nd (pi_list (pv 0)) (blkOk_by (N := ["rules", "where", "sums", "so_far", "rule"]) (sc := defScope s_ways_on) (own := [("rule", 4)]) (by decide +kernel)) (fun _ _ _ _ _ => (pg_name (i := 4) sc_ways_on.nd rfl (by first | exact Or.inl rfl | exact Or.inr rfl))) (fun _ _ _ _ _ => (pts_one (PW.pt (pw_and (pt_cmpR op_eq (pe_fldB K (pv 4) rfl) (pv 1) (nomark _)) (pw_and1 (pt_val (pe_def D_closes hr (pa_cons (pv 4) (pa_cons (pv 2) (pa_cons (pv 3) pa_nil)))))))))) (fun _ _ _ _ _ => (pv 4))))), ?_⟩
    have ea := paired_len pa
    refine ⟨_, rfl, l, rfl, ⟨_, SqL.of hl⟩, fun m hm => lc_list (K := K) (xs := as.map V.ref) (fun i H' => ∃ ys, Grown H H' m ys ∧ Picked cU H rs (fun r => decide (r.b = u) && closes r D x) i ys) ⟨[], .start (same_refl _) hm, [], rfl, by simp; exact .nil⟩ (fun i H' _ ⟨ys, M, _⟩ => SqL.of (M.same _ _ hl)) ?_ ?_⟩
    · rintro i y H' hi ⟨ys, M, pk⟩
      obtain ⟨a, ha, rfl⟩ := map_at hi
      obtain ⟨r, hr', hcc⟩ : ∃ x, rs[i]? = some x ∧ RuleAt cU H a x := paired_get pa ha
      obtain ⟨fb, fe⟩ := fi r (List.mem_of_getElem? hr')
      obtain ⟨dr, hcc1⟩ := RuleAt.same hcc M.same
      have pl := picked_len pk
      refine ⟨rfl, ?_⟩
      refine ⟨_, rfl, a, cU, dr, _, _, rfl, hcc1, T.clU, T.begin_, rfl, _, rfl, rfl, _, rfl, ?_⟩
      by_cases c1 : r.b = u
      · rw [decide_eq_true (by rw [c1])]
        refine iteT ?_
        refine ⟨_, rfl, _, rfl, _, rfl, a, d, r, D, x, rfl, ⟨dr, hcc1⟩, M.same _ _ hd, fe, _, rfl, ?_⟩
        cases c : closes r D x with
        | true =>
          refine iteT ?_
          exact ⟨_, rfl, gput (R := fun i ys H' => Picked cU H rs (fun r => decide (r.b = u) && closes r D x) i ys) M (same_refl _) (lit_small (by omega)) (picked_yes pk hr' hcc (by rw [c, decide_eq_true c1]; rfl))⟩
        | false =>
          refine iteF ?_
          exact ⟨ys, M, picked_no pk hr' (by rw [c, Bool.and_false]; decide)⟩
      · rw [decide_eq_false (by intro q; exact c1 (by injection q; omega))]
        refine iteF ?_
        refine iteF ?_
        exact ⟨ys, M, picked_no pk hr' (by rw [decide_eq_false c1, Bool.false_and]; decide)⟩
    · rintro H2 ⟨ys, M, bs, rfl, p⟩
      rw [List.length_map, List.take_of_length_le (by omega)] at p
      exact k _ _ M.same M.new ⟨bs, M.lst, rules_same p M.same⟩
def spRingFrom (cU : Addr) : Sp := fun vs H Q _ => ∃ a l t r rs n k, vs = [.ref a, .ref l, .ref t] ∧ RuleAt cU H a r ∧ RulesAt cU H l rs ∧ TabAt H rs n k t r.b ∧ Inside (wl rs) n ∧ r.b < n ∧ rs.length ≤ 128 ∧ k ≤ 17 ∧ (∃ p, Way (wl rs) r.e p r.b ∧ p.length = k ∧ r.w + wsum p < 0) ∧ giveRules cU H (r :: ringGo rs n r.b k r.e r.w) Q
theorem fits_of {rs : List Ru} {n : Nat} (h : Inside (wl rs) n) : Fits rs n := fun r hr => h r.rule (List.mem_map_of_mem hr)
theorem ok_ring_from {f : Addr} {fd : FuncData} (F : Fun K "ring_from" "ring_from" s_ring_from f fd) (T : Txt K mg cC cP cB cR cU) (D_ways_on : Def P w K mg base 2 "ways_on" (spWays cU)) : FnOk P w K mg base CX0 3 f fd ps_ring_from (spRingFrom cU) := by
  refine F.ok sc_ring_from (fun vs H Q E h => ?_) (fun cdv A outer s H vs Q E hr h => ?_)
  · obtain ⟨a, l, t, r, rs, n, k, rfl, _⟩ := h
    rfl
  · obtain ⟨a, l, t, r, rs, n, kk, rfl, ⟨dr, hcc⟩, R, tb, hin, hb, hn, hk, way, k⟩ := h
    refine ⟨_, (pss_cons (ps_set (i := 3) sc_ring_from.nd rfl (by first | exact Or.inl rfl | exact Or.inr rfl) (pe_lst (pa_cons (pv 0) pa_nil)))
      (pss_cons (ps_set (i := 4) sc_ring_from.nd rfl (by first | exact Or.inl rfl | exact Or.inr rfl) (pe_fld (pv 0) rfl))
      (pss_cons (ps_for PassesOwn.never rfl (pi_reversed rfl T.b_reversed (pa_cons (pe_slice sl_list (pv 2) po_none (po_some (pe_un un_neg pe_int))) pa_nil)) (pg_name (i := 5) sc_ring_from.nd rfl (by first | exact Or.inl rfl | exact Or.inr rfl))
      (pss_cons (ps_set (i := 6) sc_ring_from.nd rfl (by first | exact Or.inl rfl | exact Or.inr rfl) (pe_ix ix_own (pe_def D_ways_on hr (pa_cons (pv 1) (pa_cons (pe_fld (pe_ix ix_own (pv 3) (pe_un un_neg pe_int) (fun _ _ => rfl)) rfl) (pa_cons (pv 5) (pa_cons (pv 4) pa_nil))))) pe_int (fun _ _ => rfl)))
      (pss_cons (ps_expr (pe_bm PySem.F.plainAttrs_list PySem.F.slot_list_append PySem.F.type_list_append mt_append (pv 3) (pa_cons (pv 6) pa_nil)))
      (pss_one (ps_aug (i := 4) sc_ring_from.nd rfl (by first | exact Or.inl rfl | exact Or.inr rfl) (pe_fld (pv 6) rfl) ip_add)))))
      (pss_one (ps_ret (pv 3)))))), ?_⟩
    obtain ⟨ds, ht, pd⟩ := id tb
    have dl := paired_len pd
    rw [List.length_range] at dl
    refine ⟨_, rfl, by show 1 ≤ sizeLine; decide, fun m hm => ?_⟩
    have G0 : Grown H (upd H m (.lst [V.ref a])) m ([a].map V.ref) := .start (xs := [a].map V.ref) (same_refl H) hm
    have hcc0 := G0.same _ _ hcc
    have ht0 := G0.same _ _ ht
    generalize upd H m (.lst [V.ref a]) = H0 at G0 hcc0 ht0 ⊢
    refine ⟨_, rfl, a, cU, dr, _, _, rfl, hcc0, T.clU, T.bound, rfl, ?_⟩
    refine ⟨_, rfl, _, rfl, _, rfl, t, _, rfl, SqL.of ht0, fun q hq => ?_⟩
    rw [cut_last (by rw [List.length_map]; exact dl), ← List.map_take]
    have G1 := G0.grow (same_new (o := .lst ((ds.take kk).map V.ref)) hq)
    have hq1 : upd H0 q (.lst ((ds.take kk).map V.ref)) q = some (.lst ((ds.take kk).map V.ref)) := upd_same
    have P1 : Paired (RuleAt cU (upd H0 q (.lst ((ds.take kk).map V.ref)))) [a] [r] := .cons ⟨dr, same_new hq _ _ hcc0⟩ .nil
    have nqm : q ≠ m := Ne.symm (ne_of_none G0.lst hq)
    have nH : H q = none := G0.same.free hq
    generalize upd H0 q (.lst ((ds.take kk).map V.ref)) = H1 at G1 hq1 P1 ⊢
    have tk : ((ds.take kk).map V.ref).length = kk := by rw [List.length_map, List.length_take]; omega
    refine ⟨q, _, rfl, SqL.of hq1, for_rev (K := K) (xs := (ds.take kk).map V.ref) (fun i σ H' => ∃ (gs : List Ru) (as : List Addr) (g : Ru) (x : Int) (v5 v6 : Option V), σ = [some (.ref a), some (.ref l), some (.ref t), some (.ref m), some (.int x), v5, v6] ∧ Grown H H' m (as.map V.ref) ∧ H' q = some (.lst ((ds.take kk).map V.ref)) ∧ Paired (RuleAt cU H') as (gs ++ [g]) ∧ gs.length = i ∧ i ≤ kk ∧
        r :: ringGo rs n r.b kk r.e r.w = gs ++ g :: ringGo rs n r.b (kk - i) g.e x ∧ ∃ p, Way (wl rs) g.e p r.b ∧ p.length = kk - i ∧ x + wsum p < 0)
      ⟨[], [a], r, r.w, none, none, rfl, G1, hq1, P1, rfl, Nat.zero_le _, rfl, way⟩ (fun i σ H' _ ⟨_, _, _, _, _, _, _, _, M, _⟩ => SqL.of M) ?_ ?_⟩
    · rintro i y σ H' hi hy ⟨gs, as, g, x, v5, v6, rfl, M, hq', pa, gl, ik, er, wy⟩
      rw [tk] at hi hy
      obtain ⟨d, hd, rfl⟩ := map_at hy
      rw [List.getElem?_take_of_lt (by omega)] at hd
      obtain ⟨j, hj, S⟩ := paired_get pd hd
      rw [List.getElem?_range (by omega)] at hj
      cases hj
      have ea := paired_len pa
      rw [List.length_append, List.length_singleton, gl] at ea
      obtain ⟨al, hal, dg, hg⟩ := paired_at (i := i) (c := g) pa (by rw [List.getElem?_append_right (by omega), gl, Nat.sub_self]; rfl)
      have hm1 := M.lst
      obtain ⟨r', ef, hr', wy'⟩ := go_some hin hb (k := kk - 1 - i) (u := g.e) (x := x) (by
        obtain ⟨p, h1, h2, h3⟩ := wy
        exact ⟨p, h1, by omega, h3⟩)
      obtain ⟨tl, et⟩ := find_filter ef
      have et : (rs.filter fun z => decide (z.b = g.e) && closes z (back rs n r.b (kk - 1 - i)) x) = r' :: tl := et
      refine ⟨_, rfl, _, rfl, _, rfl, m, _, _, _, rfl, rfl, hm1, at_last ea hal, al, cU, dg, _, _, rfl, hg, T.clU, T.end_, rfl, _, rfl, _, rfl, l, g.e, d, x, rs, _, rfl, R.same M.same, M.same _ _ S, by rw [back_len]; exact fits_of hin, hn, fun H2 l2 s2 n2 R2 => ?_⟩
      rw [et] at R2
      obtain ⟨bs, hl2, pb⟩ := R2
      cases pb with
      | cons rb pb =>
        rename_i b' bs'
        refine ⟨l2, _, _, _, rfl, rfl, hl2, atI_nat (j := 0) rfl, ?_⟩
        have hm2 := s2 _ _ hm1
        refine ⟨_, rfl, tyV_lst hm2, _, rfl, m, _, _, rfl, rfl, hm2, by rw [List.length_map]; exact lit_small (by omega), ?_⟩
        have M3 := M.put (ys := as.map V.ref ++ [V.ref b']) s2
        have hq3 : upd H2 m (.lst (as.map V.ref ++ [V.ref b'])) q = some (.lst ((ds.take kk).map V.ref)) := by rw [upd_ne nqm]; exact s2 _ _ hq'
        have pa3 : Paired (RuleAt cU (upd H2 m (.lst (as.map V.ref ++ [V.ref b'])))) (as ++ [b']) ((gs ++ [g]) ++ [r']) := rules_put (paired_snoc (rules_same pa s2) rb) hm2
        obtain ⟨db, hb'⟩ := RuleAt.put (ys := as.map V.ref ++ [V.ref b']) rb hm2
        generalize upd H2 m (.lst (as.map V.ref ++ [V.ref b'])) = H3 at M3 hq3 pa3 hb' ⊢
        refine ⟨_, rfl, _, rfl, b', cU, db, _, _, rfl, hb', T.clU, T.bound, rfl, _, _, rfl, rfl, ?_⟩
        refine ⟨gs ++ [g], as ++ [b'], r', x + r'.w, _, _, rfl, by rw [List.map_append]; exact M3, hq3, pa3, by rw [List.length_append, gl]; rfl, by omega, ?_, ?_⟩
        · rw [er, List.append_assoc]
          congr 1
          rw [show kk - i = (kk - 1 - i) + 1 by omega]
          show g :: ringGo rs n r.b ((kk - 1 - i) + 1) g.e x = g :: (r' :: ringGo rs n r.b (kk - (i + 1)) r'.e (x + r'.w))
          rw [show kk - (i + 1) = kk - 1 - i by omega]
          conv => lhs; unfold ringGo
          rw [ef]
        · obtain ⟨p, h1, h2, h3⟩ := wy'
          exact ⟨p, h1, by omega, h3⟩
    · rintro σ H2 ⟨gs, as, g, x, v5, v6, rfl, M, hq', pa, gl, ik, er, wy⟩
      rw [tk] at er
      rw [Nat.sub_self] at er
      rw [er] at k
      exact ⟨_, rfl, k _ _ M.same M.new ⟨as, M.lst, pa⟩⟩
def spLeastRing (cU : Addr) : Sp := fun vs H Q _ => ∃ l rs zero, vs = [.ref l, .int (zero : Nat)] ∧ RulesAt cU H l rs ∧ Inside (wl rs) (zero + 1) ∧ rs.length ≤ 128 ∧ zero ≤ 16 ∧ giveRules cU H (leastRing rs (zero + 1)) Q
theorem range_snoc (i : Nat) : List.range (i + 1) = List.range i ++ [i] := List.range_succ
theorem ok_least_ring {f : Addr} {fd : FuncData} (F : Fun K "least_ring" "least_ring" s_least_ring f fd) (T : Txt K mg cC cP cB cR cU) (D_sums_at_goal : Def P w K mg base 1 "sums_at_goal" spAtGoal) (D_with_one_more : Def P w K mg base 1 "with_one_more" (spMore cU)) (D_beginnings : Def P w K mg base 2 "beginnings" (spBeginnings cU)) (D_ring_from : Def P w K mg base 3 "ring_from" (spRingFrom cU)) :
    FnOk P w K mg base CX0 4 f fd ps_least_ring (spLeastRing cU) := by
  refine F.ok sc_least_ring (fun vs H Q E h => ?_) (fun cdv A outer s H vs Q E hr h => ?_)
  · obtain ⟨l, rs, zero, rfl, _⟩ := h
    rfl
  · obtain ⟨l, rs, zero, rfl, R, hin, hn, hz, k⟩ := h
    refine ⟨_, (pss_cons (ps_set (i := 2) sc_least_ring.nd rfl (by first | exact Or.inl rfl | exact Or.inr rfl) (pe_op op_add (pv 1) pe_int))
      (pss_cons (ps_setLc (i := 3) rfl sc_least_ring.nd rfl rfl (sw_true rfl rfl rfl rfl) (pi_range1 rfl T.b_range (pa_cons (pv 2) pa_nil)) (blkOk_by (N := ["rules", "zero", "places", "tables", "goal", "length", "firsts", "table"]) (sc := defScope s_least_ring) (own := [("goal", 4)]) (by decide +kernel)) (fun _ _ _ _ _ => (pg_name (i := 4) sc_least_ring.nd rfl (by first | exact Or.inl rfl | exact Or.inr rfl))) (fun _ _ _ _ _ => pts_nil) (fun _ _ _ _ _ => (pe_lst (pa_cons (pe_def D_sums_at_goal hr (pa_cons (pv 2) (pa_cons (pv 4) pa_nil))) pa_nil))))
      (pss_cons (ps_for PassesOwn.never rfl (pi_range1 rfl T.b_range (pa_cons (pv 2) pa_nil)) (pg_name (i := 5) sc_least_ring.nd rfl (by first | exact Or.inl rfl | exact Or.inr rfl))
      (pss_cons (ps_set (i := 6) sc_least_ring.nd rfl (by first | exact Or.inl rfl | exact Or.inr rfl) (pe_def D_beginnings hr (pa_cons (pv 0) (pa_cons (pv 3) pa_nil))))
      (pss_cons (ps_if (pt_cmpR (op_neNil hr.units0) (pv 6) (pe_lst pa_nil) (nomark _)) (pss_one (ps_ret (pe_def D_ring_from hr (pa_cons (pe_ix ix_own (pv 6) pe_int (fun _ _ => rfl)) (pa_cons (pv 0) (pa_cons (pe_ix ix_own (pv 3) (pe_fld (pe_ix ix_own (pv 6) pe_int (fun _ _ => rfl)) rfl) (fun _ _ => rfl)) pa_nil)))))) pss_nil)
      (pss_one (ps_setLc (i := 3) rfl sc_least_ring.nd rfl rfl (sw_true rfl rfl rfl rfl) (pi_list (pv 3)) (blkOk_by (N := ["rules", "zero", "places", "tables", "goal", "length", "firsts", "table"]) (sc := defScope s_least_ring) (own := [("table", 7)]) (by decide +kernel)) (fun _ _ _ _ _ => (pg_name (i := 7) sc_least_ring.nd rfl (by first | exact Or.inl rfl | exact Or.inr rfl))) (fun _ _ _ _ _ => pts_nil) (fun _ _ _ _ _ => (pe_op op_cat (pv 7) (pe_lst (pa_cons (pe_def D_with_one_more hr (pa_cons (pe_ix ix_own (pv 7) (pe_un un_neg pe_int) (fun _ _ => rfl)) (pa_cons (pv 0) pa_nil))) pa_nil)))))))))
      (pss_one (ps_ret (pe_lst pa_nil)))))), ?_⟩
    have fi := fits_of hin
    have en : ((zero : Int) + 1).toNat = zero + 1 := by omega
    refine ⟨_, rfl, _, _, rfl, rfl, ?_⟩
    refine ⟨_, rfl, _, rfl, by omega, by omega, fun D hD => ?_⟩
    rw [en]
    refine lc_range (n := zero + 1) (fun i H' => ∃ ys, Grown H H' D ys ∧ ∃ ts : List Addr, ys = ts.map V.ref ∧ Paired (TabAt (hole H' D) rs (zero + 1) 0) ts (List.range i)) ⟨[], .start (same_refl _) hD, [], rfl, .nil⟩ ?_ ?_
    · rintro i H' hi ⟨ys, M, ts, rfl, pt⟩
      have tl := paired_len pt
      rw [List.length_range] at tl
      refine ⟨rfl, lc_go ?_⟩
      refine ⟨_, rfl, _, rfl, zero + 1, i, by rw [show (0 : Int) + (i : Int) = (i : Int) by omega]; rfl, hi, by omega, fun H2 d s2 n2 S2 => ?_⟩
      refine ⟨by show 1 ≤ sizeLine; decide, fun t ht => ?_⟩
      have hD2 := s2 _ _ M.lst
      have ndD : d ≠ D := fun e => by rw [e, M.lst] at n2; cases n2
      have ntD : t ≠ D := Ne.symm (ne_of_none hD2 ht)
      have k2 : Same H' (upd H2 t (.lst [V.ref d])) := s2.trans (same_new ht)
      refine gput (R := fun i ys H' => ∃ ts : List Addr, ys = ts.map V.ref ∧ Paired (TabAt (hole H' D) rs (zero + 1) 0) ts (List.range i)) M k2 (by rw [List.length_map]; exact lit_small (by omega)) ?_
      rw [hole_upd]
      refine ⟨ts ++ [t], by rw [List.map_append]; rfl, ?_⟩
      rw [range_snoc]
      refine paired_snoc (Paired.imp' (fun _ _ q => TabAt.same q (hole_same k2)) pt) ⟨[d], hole_at ntD upd_same, .cons (hole_at ndD ?_) .nil⟩
      rw [upd_ne (ne_of_none S2 ht)]
      exact S2
    · rintro H1 ⟨ys, M, ts, rfl, pt⟩
      have T0 : TabsAt H1 D rs (zero + 1) 0 := ⟨ts, M.lst, Paired.imp' (fun _ _ q => TabAt.same q (hole_sub _ _)) pt⟩
      refine ⟨_, rfl, _, rfl, by omega, by omega, ?_⟩
      rw [en]
      refine for_range (n := zero + 1) (fun i σ H' => ∃ (tT : Addr) (v4 v5 v6 v7 : Option V), σ = [some (.ref l), some (.int (zero : Nat)), some (.int ((zero : Int) + 1)), some (.ref tT), v4, v5, v6, v7] ∧ Same H H' ∧ TabsAt H' tT rs (zero + 1) i ∧ leastRing rs (zero + 1) = ringLoop rs (zero + 1) (zero + 1 - i) i)
        ⟨D, none, none, none, none, rfl, M.same, T0, rfl⟩ ?_ ?_
      · rintro i σ H2 hi ⟨tT, v4, v5, v6, v7, rfl, s2, TT, er⟩
        refine ⟨_, rfl, _, rfl, l, tT, rs, zero + 1, i, rfl, R.same s2, TT, fi, hn, fun H3 l3 s3 n3 R3 => ?_⟩
        obtain ⟨bs, hl3, pb⟩ := R3
        refine ⟨_, rfl, Nat.zero_le _, fun q hq => ?_⟩
        have nq : l3 ≠ q := ne_of_none hl3 hq
        refine ⟨l3, q, _, rfl, rfl, by rw [upd_ne nq]; exact hl3, upd_same, _, rfl, ?_⟩
        have s4 : Same H2 (upd H3 q (.lst [])) := s3.trans (same_new hq)
        have hl4 : upd H3 q (.lst []) l3 = some (.lst (bs.map V.ref)) := by rw [upd_ne nq]; exact hl3
        have pb4 : Paired (RuleAt cU (upd H3 q (.lst []))) bs (rs.filter (beg rs (zero + 1) i)) := rules_upd pb hq
        generalize upd H3 q (.lst []) = H4 at s4 hl4 pb4 ⊢
        rw [show zero + 1 - i = (zero + 1 - (i + 1)) + 1 by omega] at er
        unfold ringLoop at er
        cases ef : rs.find? (beg rs (zero + 1) i) with
        | some r =>
          rw [ef] at er
          obtain ⟨tl, et⟩ := find_filter ef
          rw [et] at pb4
          have hm := List.mem_of_find?_eq_some ef
          cases pb4 with
          | cons rb pb' =>
            rename_i b' bs'
            refine iteT ?_
            have hb := (fi r hm).1
            obtain ⟨db, hb'⟩ := id rb
            obtain ⟨ts4, t4, hT4, at4, tb4⟩ := (TT.same s4).get hb
            have at0 : atI ((b' :: bs').map V.ref) (0 : Int) = some (V.ref b') := atI_nat (j := 0) rfl
            refine ⟨_, rfl, l3, _, _, _, rfl, rfl, hl4, at0, _, rfl, _, rfl, _, rfl, l3, _, _, _, rfl, rfl, hl4, at0, b', cU, db, _, _, rfl, hb', T.clU, T.begin_, rfl, tT, _, _, _, rfl, rfl, hT4, at4, b', l, t4, r, rs, zero + 1, i, rfl, rb, R.same (s2.trans s4), tb4, hin, hb, hn, by omega, beg_way hin hm (List.find?_some ef), fun H5 l5 s5 n5 R5 => ?_⟩
            have sa := s2.trans s4
            have er : leastRing rs (zero + 1) = r :: ringGo rs (zero + 1) r.b i r.e r.w := er
            rw [er] at k
            exact k _ _ (sa.trans s5) (sa.free n5) R5
        | none =>
          rw [ef] at er
          have er : leastRing rs (zero + 1) = ringLoop rs (zero + 1) (zero + 1 - (i + 1)) (i + 1) := er
          rw [find_none ef] at pb4
          cases pb4
          refine iteF ?_
          have sa := s2.trans s4
          have TT4 := TT.same s4
          obtain ⟨ts4, hT4, pt4⟩ := id TT4
          have tl4 := paired_len pt4
          rw [List.length_range] at tl4
          refine ⟨_, rfl, tT, rfl, ⟨_, SqL.of hT4⟩, fun D2 hD2 => lc_list (K := K) (xs := ts4.map V.ref) (fun j H' => ∃ ys, Grown H4 H' D2 ys ∧ ∃ us : List Addr, ys = us.map V.ref ∧ Paired (TabAt (hole H' D2) rs (zero + 1) (i + 1)) us ((List.range (zero + 1)).take j)) ⟨[], .start (same_refl _) hD2, [], rfl, by simp; exact .nil⟩ (fun j H' _ ⟨ys, M2, _⟩ => SqL.of (M2.same _ _ hT4)) ?_ ?_⟩
          · rintro j y H' hj ⟨ys, M2, us, rfl, pu⟩
            obtain ⟨t, htj, rfl⟩ := map_at hj
            obtain ⟨g, hg, tb⟩ := paired_get pt4 htj
            have ul := paired_len pu
            rw [List.length_take, List.length_range] at ul
            obtain ⟨ds, d, ht, dl, at2, S⟩ := (tb.same M2.same).last
            have ntD : ∀ {x : Addr} {o : HO}, H4 x = some o → x ≠ D2 := fun {x o} e => ne_of_none e M2.new
            refine ⟨rfl, lc_go ?_⟩
            refine ⟨_, rfl, _, rfl, _, rfl, t, _, _, _, rfl, rfl, ht, at2, _, rfl, d, l, _, rs, rfl, S, R.same (sa.trans M2.same), by rw [back_len]; exact fi, by rw [back_len]; omega, fun H5 m s5 n5 S5 => ?_⟩
            refine ⟨by show 1 ≤ sizeLine; decide, fun q2 hq2 => ?_⟩
            have ht5 := s5 _ _ ht
            have ntq : t ≠ q2 := ne_of_none ht5 hq2
            refine ⟨t, q2, _, _, rfl, rfl, by rw [upd_ne ntq]; exact ht5, upd_same, by rw [List.length_map, dl]; exact lit_le (by show i + 1 + 1 ≤ _; omega), fun t2 ht2 => ?_⟩
            have k6 : Same H5 (upd (upd H5 q2 (.lst [V.ref m])) t2 (.lst (ds.map V.ref ++ [V.ref m]))) := (same_new hq2).trans (same_new ht2)
            have k5 := s5.trans k6
            have hDD := k5 _ _ M2.lst
            have nmD : m ≠ D2 := fun e => by rw [e, M2.lst] at n5; cases n5
            have nt2 : t2 ≠ D2 := fun e => by
              rw [e] at ht2
              rw [(s5.trans (same_new hq2)) _ _ M2.lst] at ht2
              cases ht2
            refine gput (R := fun j ys H' => ∃ us : List Addr, ys = us.map V.ref ∧ Paired (TabAt (hole H' D2) rs (zero + 1) (i + 1)) us ((List.range (zero + 1)).take j)) M2 k5 (by rw [List.length_map]; exact lit_small (by omega)) ?_
            rw [hole_upd]
            refine ⟨us ++ [t2], by rw [List.map_append]; rfl, ?_⟩
            rw [take_snoc hg]
            refine paired_snoc (Paired.imp' (fun _ _ q => TabAt.same q (hole_same k5)) pu) ?_
            obtain ⟨ds', ht', pd'⟩ := tb
            have eds : ds' = ds := by
              have h1 := M2.same _ _ ht'
              rw [ht] at h1
              have h2 : ds.map V.ref = ds'.map V.ref := by injection (Option.some.inj h1)
              exact (List.map_inj_right (fun a b e => by injection e)).mp h2.symm
            subst eds
            refine ⟨ds' ++ [m], ?_, ?_⟩
            · rw [List.map_append]
              exact hole_at nt2 upd_same
            · rw [range_snoc (i + 1)]
              refine paired_snoc (Paired.imp' (fun x y q => ?_) pd') (hole_at nmD (k6 _ _ S5))
              exact hole_at (ntD q) (k5 _ _ (M2.same _ _ q))
          · rintro H5 ⟨ys, M2, us, rfl, pu⟩
            rw [List.length_map, tl4, List.take_of_length_le (by rw [List.length_range]; omega)] at pu
            exact ⟨D2, _, _, _, _, rfl, sa.trans M2.same, ⟨us, M2.lst, Paired.imp' (fun _ _ q => TabAt.same q (hole_sub _ _)) pu⟩, er⟩
      · rintro σ H2 ⟨tT, v4, v5, v6, v7, rfl, s2, TT, er⟩
        rw [Nat.sub_self] at er
        have er : leastRing rs (zero + 1) = [] := er
        rw [er] at k
        exact ⟨Nat.zero_le _, fun q hq => k _ _ (s2.trans (same_new hq)) (s2.free hq) ⟨[], upd_same, .nil⟩⟩
def isRing (us : List V) (c : Vbpcas.Call) : Prop := ∃ p, us = [.int p] ∧ c = .ring p
theorem ok_ring {f : Addr} {fd : FuncData} (F : Fun K "ring" "ring" s_ring f fd) (T : Txt K mg cC cP cB cR cU) (D_is_period : Def P w K mg base 1 "is_period" spPeriod) (D_zero_of : Def P w K mg base 1 "zero_of" (spZero cC cP cB)) (D_rules_of : Def P w K mg base 4 "rules_of" (spRulesOf cC cP cB cU)) (D_least_ring : Def P w K mg base 4 "least_ring" (spLeastRing cU)) (D_told_rules : Def P w K mg base 1 "told_rules" (spTold cU)) :
    FnOk P w K mg base CX0 6 f fd ps_ring (spDo cC cP cB isRing) := by
  refine F.ok sc_ring (fun vs H Q E h => ?_) (fun cdv A outer s H vs Q E hr h => ?_)
  · obtain ⟨b, lc, lp, s, us, c, rfl, ⟨p, rfl, rfl⟩, _⟩ := h
    rfl
  · obtain ⟨b, lc, lp, s, us, c, rfl, ⟨p, rfl, rfl⟩, G, B, k⟩ := h
    refine ⟨_, (pss_cons (ps_if (pt_not (pt_val (pe_def D_is_period hr (pa_cons (pv 1) pa_nil)))) (pss_one (ps_ret (pe_lst (pa_cons (pe_gint rfl T.c_OUT_OF_RANGE) pa_nil)))) pss_nil)
      (pss_cons (ps_set (i := 2) sc_ring.nd rfl (by first | exact Or.inl rfl | exact Or.inr rfl) (pe_def D_least_ring hr (pa_cons (pe_def D_rules_of hr (pa_cons (pv 0) (pa_cons (pv 1) (pa_cons pe_int pa_nil)))) (pa_cons (pe_def D_zero_of hr (pa_cons (pv 0) pa_nil)) pa_nil))))
      (pss_one (ps_ret (pe_op op_cat (pe_def D_told_rules hr (pa_cons (pv 2) pa_nil)) (pe_lst (pa_cons (pe_callB (cr_sum rfl) rfl T.b_sum PyProof.Rows.boot_sum (pa_cons (pe_lc rfl sc_ring.nd (pi_list (pv 2)) (blkOk_by (N := ["board", "period", "found", "rule"]) (sc := defScope s_ring) (own := [("rule", 3)]) (by decide +kernel)) (fun _ _ _ _ _ => (pg_name (i := 3) sc_ring.nd rfl (by first | exact Or.inl rfl | exact Or.inr rfl))) (fun _ _ _ _ _ => pts_nil) (fun _ _ _ _ _ => (pe_fldB K (pv 3) rfl))) pa_nil)) pa_nil))))))), ?_⟩
    have g1 := G.chips
    refine ⟨_, rfl, p, rfl, _, rfl, ?_⟩
    by_cases c1 : 0 ≤ p ∧ p ≤ 2000000000
    · rw [decide_eq_true c1]
      refine iteF ?_
      rw [step_ring_ok c1, ring_told G.inn] at k
      have rl : (leastRing (cru s p 0) (s.chips.length + 1)).length ≤ 17 := by
        have := ringLoop_len (cru s p 0) (s.chips.length + 1) (s.chips.length + 1) 0
        unfold leastRing
        omega
      refine ⟨_, rfl, _, rfl, b, lc, lp, s, p, 0, rfl, G, B, fun H1 l s1 n1 R => ?_⟩
      refine ⟨_, rfl, b, lc, lp, s, rfl, B.same s1, l, _, _, rfl, R, cru_inside G.inn, cru_len G, g1, fun H2 l2 s2 n2 R2 => ?_⟩
      generalize leastRing (cru s p 0) (s.chips.length + 1) = rs at R2 rl k
      have sa := s1.trans s2
      refine ⟨_, rfl, l2, rs, rfl, R2, by omega, fun H3 l3 M3 => ?_⟩
      obtain ⟨as, hl2, pa⟩ := R2.same M3.same
      have ea := paired_len pa
      refine ⟨_, rfl, l2, rfl, ⟨_, SqL.of hl2⟩, fun D hD => lc_list (K := K) (xs := as.map V.ref) (fun i H' => ∃ ys, Grown H3 H' D ys ∧ ys = (((rs.map fun r => r.w).take i).map V.int)) ⟨[], .start (same_refl _) hD, rfl⟩ (fun i H' _ ⟨ys, M, _⟩ => SqL.of (M.same _ _ hl2)) ?_ ?_⟩
      · rintro i y H' hi ⟨ys, M, rfl⟩
        obtain ⟨a, ha, rfl⟩ := map_at hi
        obtain ⟨r, hr', d, hcc⟩ : ∃ x, rs[i]? = some x ∧ RuleAt cU H3 a x := paired_get pa ha
        have e1 : (rs.map fun r => r.w)[i]? = some r.w := by rw [List.getElem?_map, hr']; rfl
        refine ⟨rfl, lc_go ?_⟩
        refine ⟨_, rfl, a, cU, d, _, _, rfl, M.same _ _ hcc, T.clU, T.bound, rfl, ?_⟩
        refine gput (R := fun i ys H' => ys = (((rs.map fun r => r.w).take i).map V.int)) M (same_refl _) (by rw [List.length_map, List.length_take, List.length_map]; exact lit_small (by omega)) ?_
        rw [take_snoc e1, List.map_append]
        rfl
      · rintro H4 ⟨ys, M, rfl⟩
        rw [List.length_map, List.take_of_length_le (by rw [List.length_map]; omega)] at M
        refine ⟨D, _, rfl, SqL.of M.lst, by show 1 ≤ sizeLine; decide, fun q hq => ?_⟩
        have nl3 : l3 ≠ q := ne_of_none (M.same _ _ M3.lst) hq
        refine ⟨l3, q, _, _, rfl, rfl, by rw [upd_ne nl3]; exact M.same _ _ M3.lst, upd_same, by rw [List.length_map, told_len]; exact lit_le (by show 1 + 2 * _ + 1 ≤ _; omega), fun z hz => ?_⟩
        refine k _ _ (.same B (sa.trans (M3.same.trans (M.same.trans ((same_new hq).trans (same_new hz))))) ((sa.trans (M3.same.trans (M.same.trans (same_new hq)))).free hz) ?_)
        rw [upd_same, List.map_append]
        rfl
    · rw [decide_eq_false c1]
      refine iteT ?_
      rw [step_ring_p c1] at k
      exact ⟨by show 1 ≤ sizeLine; decide, fun z hz => k _ _ (.one B hz)⟩
end
end Ck

set_option Elab.async false
set_option linter.all false
set_option maxRecDepth 100000
set_option maxHeartbeats 4000000
namespace Ck
open PySem PySem.Spec PyProof.Rows L2
theorem sk {a b : Int} {A B : Prop} (h : a ≠ b) (q : B) : if decide (V.int a = V.int b) = true then A else B := by
  rw [decide_eq_false (fun e => h (by injection e))]
  exact iteF q
theorem hit {a : Int} {A B : Prop} (q : A) : if decide (V.int a = V.int a) = true then A else B := by
  rw [decide_eq_true rfl]
  exact iteT q
section
variable {P : Program} {w : World} {K : PySem.W.Frag} {mg : Str → Option Value} {base : Heap} {cC cP cB cR cU : Addr}
def spChange (cC cP cB : Addr) (fm : Int → List Int → Vbpcas.Call → Prop) : Sp := fun vs H Q _ => ∃ b lc lp s c t nums d, vs = [.ref b, .int c, .ref t] ∧ fm c nums d ∧ H t = some (.lst (nums.map V.int)) ∧ Good s ∧ BoardAt cC cP cB H b lc lp s ∧ ∀ H' p, Done cC cP cB H H' b lc lp (Vbpcas.step s d) p → Q (.ref p) H'
theorem ok_change {f : Addr} {fd : FuncData} (F : Fun K "change" "change" s_change f fd) (T : Txt K mg cC cP cB cR cU) (D_set_margins : Def P w K mg base 2 "set_margins" (spDo cC cP cB isMargins)) (D_add_chip : Def P w K mg base 3 "add_chip" (spDo cC cP cB isChip)) (D_add_path : Def P w K mg base 3 "add_path" (spDo cC cP cB isPath)) (D_set_bounds : Def P w K mg base 3 "set_bounds" (spDo cC cP cB isBound)) (D_set_delays : Def P w K mg base 3 "set_delays" (spDo cC cP cB isDelay)) (D_take_away : Def P w K mg base 2 "take_away" (spDo cC cP cB isAway)) (D_clear_all : Def P w K mg base 1 "clear_all" (spDo cC cP cB isClear)) (D_shift : Def P w K mg base 3 "shift" (spDo cC cP cB isShift)) : FnOk P w K mg base CX0 4 f fd ps_change (spChange cC cP cB chForm) := by
  refine F.ok sc_change (fun vs H Q E h => ?_) (fun cdv A outer s H vs Q E hr h => ?_)
  · obtain ⟨b, lc, lp, s, c, t, nums, d, rfl, _⟩ := h
    rfl
  · obtain ⟨b, lc, lp, s, c, t, nums, d, rfl, fm, ht, G, B, k⟩ := h
    refine ⟨_, (pss_cons (ps_if (pt_cmpR op_eq (pv 1) (pe_gint rfl T.c_MARGINS) (nomark _)) (pss_one (ps_ret (pe_def D_set_margins hr (pa_cons (pv 0) (pa_cons (pe_ix ix_own (pv 2) pe_int (fun _ _ => rfl)) (pa_cons (pe_ix ix_own (pv 2) pe_int (fun _ _ => rfl)) pa_nil)))))) pss_nil)
      (pss_cons (ps_if (pt_cmpR op_eq (pv 1) (pe_gint rfl T.c_CHIP) (nomark _)) (pss_one (ps_ret (pe_def D_add_chip hr (pa_cons (pv 0) (pa_cons (pe_ix ix_own (pv 2) pe_int (fun _ _ => rfl)) (pa_cons (pe_ix ix_own (pv 2) pe_int (fun _ _ => rfl)) pa_nil)))))) pss_nil)
      (pss_cons (ps_if (pt_cmpR op_eq (pv 1) (pe_gint rfl T.c_PATH) (nomark _)) (pss_one (ps_ret (pe_def D_add_path hr (pa_cons (pv 0) (pa_cons (pe_ix ix_own (pv 2) pe_int (fun _ _ => rfl)) (pa_cons (pe_ix ix_own (pv 2) pe_int (fun _ _ => rfl)) (pa_cons (pe_ix ix_own (pv 2) pe_int (fun _ _ => rfl)) (pa_cons (pe_ix ix_own (pv 2) pe_int (fun _ _ => rfl)) pa_nil)))))))) pss_nil)
      (pss_cons (ps_if (pt_cmpR op_eq (pv 1) (pe_gint rfl T.c_BOUND) (nomark _)) (pss_one (ps_ret (pe_def D_set_bounds hr (pa_cons (pv 0) (pa_cons (pe_ix ix_own (pv 2) pe_int (fun _ _ => rfl)) (pa_cons (pe_ix ix_own (pv 2) pe_int (fun _ _ => rfl)) (pa_cons (pe_ix ix_own (pv 2) pe_int (fun _ _ => rfl)) pa_nil))))))) pss_nil)
      (pss_cons (ps_if (pt_cmpR op_eq (pv 1) (pe_gint rfl T.c_DELAY) (nomark _)) (pss_one (ps_ret (pe_def D_set_delays hr (pa_cons (pv 0) (pa_cons (pe_ix ix_own (pv 2) pe_int (fun _ _ => rfl)) (pa_cons (pe_ix ix_own (pv 2) pe_int (fun _ _ => rfl)) (pa_cons (pe_ix ix_own (pv 2) pe_int (fun _ _ => rfl)) pa_nil))))))) pss_nil)
      (pss_cons (ps_if (pt_cmpR op_eq (pv 1) (pe_gint rfl T.c_AWAY) (nomark _)) (pss_one (ps_ret (pe_def D_take_away hr (pa_cons (pv 0) (pa_cons (pe_ix ix_own (pv 2) pe_int (fun _ _ => rfl)) pa_nil))))) pss_nil)
      (pss_cons (ps_if (pt_cmpR op_eq (pv 1) (pe_gint rfl T.c_SHIFT) (nomark _)) (pss_one (ps_ret (pe_def D_shift hr (pa_cons (pv 0) (pa_cons (pe_ix ix_own (pv 2) pe_int (fun _ _ => rfl)) pa_nil))))) pss_nil)
      (pss_one (ps_ret (pe_def D_clear_all hr (pa_cons (pv 0) pa_nil))))))))))), ?_⟩
    rcases fm with ⟨rfl, za, zb, rfl, rfl⟩ | ⟨rfl, za, zb, rfl, rfl⟩ | ⟨rfl, za, zb, zx, zy, rfl, rfl⟩ | ⟨rfl, za, zb, zc, rfl, rfl⟩ | ⟨rfl, za, zb, zc, rfl, rfl⟩ | ⟨rfl, za, rfl, rfl⟩ | ⟨rfl, rfl, rfl⟩ | ⟨rfl, za, rfl, rfl⟩
    · refine ⟨_, rfl, rfl, _, rfl, hit ?_⟩
      exact ⟨_, rfl, _, rfl, t, _, _, _, rfl, rfl, ht, at_of (j := 0) rfl rfl, _, rfl, t, _, _, _, rfl, rfl, ht, at_of (j := 1) rfl rfl, b, lc, lp, s, _, _, rfl, ⟨_, _, rfl, rfl⟩, G, B, k⟩
    · refine ⟨_, rfl, rfl, _, rfl, sk (by decide) ?_⟩
      refine ⟨_, rfl, rfl, _, rfl, hit ?_⟩
      exact ⟨_, rfl, _, rfl, t, _, _, _, rfl, rfl, ht, at_of (j := 0) rfl rfl, _, rfl, t, _, _, _, rfl, rfl, ht, at_of (j := 1) rfl rfl, b, lc, lp, s, _, _, rfl, ⟨_, _, rfl, rfl⟩, G, B, k⟩
    · refine ⟨_, rfl, rfl, _, rfl, sk (by decide) ?_⟩
      refine ⟨_, rfl, rfl, _, rfl, sk (by decide) ?_⟩
      refine ⟨_, rfl, rfl, _, rfl, hit ?_⟩
      exact ⟨_, rfl, _, rfl, t, _, _, _, rfl, rfl, ht, at_of (j := 0) rfl rfl, _, rfl, t, _, _, _, rfl, rfl, ht, at_of (j := 1) rfl rfl, _, rfl, t, _, _, _, rfl, rfl, ht, at_of (j := 2) rfl rfl, _, rfl, t, _, _, _, rfl, rfl, ht, at_of (j := 3) rfl rfl, b, lc, lp, s, _, _, rfl, ⟨_, _, _, _, rfl, rfl⟩, G, B, k⟩
    · refine ⟨_, rfl, rfl, _, rfl, sk (by decide) ?_⟩
      refine ⟨_, rfl, rfl, _, rfl, sk (by decide) ?_⟩
      refine ⟨_, rfl, rfl, _, rfl, sk (by decide) ?_⟩
      refine ⟨_, rfl, rfl, _, rfl, hit ?_⟩
      exact ⟨_, rfl, _, rfl, t, _, _, _, rfl, rfl, ht, at_of (j := 0) rfl rfl, _, rfl, t, _, _, _, rfl, rfl, ht, at_of (j := 1) rfl rfl, _, rfl, t, _, _, _, rfl, rfl, ht, at_of (j := 2) rfl rfl, b, lc, lp, s, _, _, rfl, ⟨_, _, _, rfl, rfl⟩, G, B, k⟩
    · refine ⟨_, rfl, rfl, _, rfl, sk (by decide) ?_⟩
      refine ⟨_, rfl, rfl, _, rfl, sk (by decide) ?_⟩
      refine ⟨_, rfl, rfl, _, rfl, sk (by decide) ?_⟩
      refine ⟨_, rfl, rfl, _, rfl, sk (by decide) ?_⟩
      refine ⟨_, rfl, rfl, _, rfl, hit ?_⟩
      exact ⟨_, rfl, _, rfl, t, _, _, _, rfl, rfl, ht, at_of (j := 0) rfl rfl, _, rfl, t, _, _, _, rfl, rfl, ht, at_of (j := 1) rfl rfl, _, rfl, t, _, _, _, rfl, rfl, ht, at_of (j := 2) rfl rfl, b, lc, lp, s, _, _, rfl, ⟨_, _, _, rfl, rfl⟩, G, B, k⟩
    · refine ⟨_, rfl, rfl, _, rfl, sk (by decide) ?_⟩
      refine ⟨_, rfl, rfl, _, rfl, sk (by decide) ?_⟩
      refine ⟨_, rfl, rfl, _, rfl, sk (by decide) ?_⟩
      refine ⟨_, rfl, rfl, _, rfl, sk (by decide) ?_⟩
      refine ⟨_, rfl, rfl, _, rfl, sk (by decide) ?_⟩
      refine ⟨_, rfl, rfl, _, rfl, hit ?_⟩
      exact ⟨_, rfl, _, rfl, t, _, _, _, rfl, rfl, ht, at_of (j := 0) rfl rfl, b, lc, lp, s, _, _, rfl, ⟨_, rfl, rfl⟩, G, B, k⟩
    · refine ⟨_, rfl, rfl, _, rfl, sk (by decide) ?_⟩
      refine ⟨_, rfl, rfl, _, rfl, sk (by decide) ?_⟩
      refine ⟨_, rfl, rfl, _, rfl, sk (by decide) ?_⟩
      refine ⟨_, rfl, rfl, _, rfl, sk (by decide) ?_⟩
      refine ⟨_, rfl, rfl, _, rfl, sk (by decide) ?_⟩
      refine ⟨_, rfl, rfl, _, rfl, sk (by decide) ?_⟩
      refine ⟨_, rfl, rfl, _, rfl, sk (by decide) ?_⟩
      exact ⟨_, rfl, b, lc, lp, s, _, _, rfl, ⟨rfl, rfl⟩, G, B, k⟩
    · refine ⟨_, rfl, rfl, _, rfl, sk (by decide) ?_⟩
      refine ⟨_, rfl, rfl, _, rfl, sk (by decide) ?_⟩
      refine ⟨_, rfl, rfl, _, rfl, sk (by decide) ?_⟩
      refine ⟨_, rfl, rfl, _, rfl, sk (by decide) ?_⟩
      refine ⟨_, rfl, rfl, _, rfl, sk (by decide) ?_⟩
      refine ⟨_, rfl, rfl, _, rfl, sk (by decide) ?_⟩
      refine ⟨_, rfl, rfl, _, rfl, hit ?_⟩
      exact ⟨_, rfl, _, rfl, t, _, _, _, rfl, rfl, ht, at_of (j := 0) rfl rfl, b, lc, lp, s, _, _, rfl, ⟨_, rfl, rfl⟩, G, B, k⟩
theorem ok_find {f : Addr} {fd : FuncData} (F : Fun K "find" "find" s_find f fd) (T : Txt K mg cC cP cB cR cU) (D_feasible : Def P w K mg base 6 "feasible" (spDo cC cP cB isFeasible)) (D_early : Def P w K mg base 6 "early" (spDo cC cP cB isEarly)) (D_late : Def P w K mg base 6 "late" (spDo cC cP cB isLate)) (D_apart : Def P w K mg base 6 "apart" (spDo cC cP cB isApart)) (D_ring : Def P w K mg base 6 "ring" (spDo cC cP cB isRing)) (D_least : Def P w K mg base 6 "least" (spDo cC cP cB isLeast)) (D_reserve : Def P w K mg base 6 "reserve" (spDo cC cP cB isReserve)) : FnOk P w K mg base CX0 7 f fd ps_find (spChange cC cP cB fiForm) := by
  refine F.ok sc_find (fun vs H Q E h => ?_) (fun cdv A outer s H vs Q E hr h => ?_)
  · obtain ⟨b, lc, lp, s, c, t, nums, d, rfl, _⟩ := h
    rfl
  · obtain ⟨b, lc, lp, s, c, t, nums, d, rfl, fm, ht, G, B, k⟩ := h
    refine ⟨_, (pss_cons (ps_if (pt_cmpR op_eq (pv 1) (pe_gint rfl T.c_FEASIBLE) (nomark _)) (pss_one (ps_ret (pe_def D_feasible hr (pa_cons (pv 0) (pa_cons (pe_ix ix_own (pv 2) pe_int (fun _ _ => rfl)) pa_nil))))) pss_nil)
      (pss_cons (ps_if (pt_cmpR op_eq (pv 1) (pe_gint rfl T.c_EARLY) (nomark _)) (pss_one (ps_ret (pe_def D_early hr (pa_cons (pv 0) (pa_cons (pe_ix ix_own (pv 2) pe_int (fun _ _ => rfl)) pa_nil))))) pss_nil)
      (pss_cons (ps_if (pt_cmpR op_eq (pv 1) (pe_gint rfl T.c_LATE) (nomark _)) (pss_one (ps_ret (pe_def D_late hr (pa_cons (pv 0) (pa_cons (pe_ix ix_own (pv 2) pe_int (fun _ _ => rfl)) pa_nil))))) pss_nil)
      (pss_cons (ps_if (pt_cmpR op_eq (pv 1) (pe_gint rfl T.c_APART) (nomark _)) (pss_one (ps_ret (pe_def D_apart hr (pa_cons (pv 0) (pa_cons (pe_ix ix_own (pv 2) pe_int (fun _ _ => rfl)) (pa_cons (pe_ix ix_own (pv 2) pe_int (fun _ _ => rfl)) (pa_cons (pe_ix ix_own (pv 2) pe_int (fun _ _ => rfl)) pa_nil))))))) pss_nil)
      (pss_cons (ps_if (pt_cmpR op_eq (pv 1) (pe_gint rfl T.c_RING) (nomark _)) (pss_one (ps_ret (pe_def D_ring hr (pa_cons (pv 0) (pa_cons (pe_ix ix_own (pv 2) pe_int (fun _ _ => rfl)) pa_nil))))) pss_nil)
      (pss_cons (ps_if (pt_cmpR op_eq (pv 1) (pe_gint rfl T.c_LEAST) (nomark _)) (pss_one (ps_ret (pe_def D_least hr (pa_cons (pv 0) pa_nil)))) pss_nil)
      (pss_one (ps_ret (pe_def D_reserve hr (pa_cons (pv 0) (pa_cons (pe_ix ix_own (pv 2) pe_int (fun _ _ => rfl)) (pa_cons (pe_ix ix_own (pv 2) pe_int (fun _ _ => rfl)) pa_nil)))))))))))), ?_⟩
    rcases fm with ⟨rfl, za, rfl, rfl⟩ | ⟨rfl, za, rfl, rfl⟩ | ⟨rfl, za, rfl, rfl⟩ | ⟨rfl, za, zb, zc, rfl, rfl⟩ | ⟨rfl, za, rfl, rfl⟩ | ⟨rfl, rfl, rfl⟩ | ⟨rfl, za, zb, rfl, rfl⟩
    · refine ⟨_, rfl, rfl, _, rfl, hit ?_⟩
      exact ⟨_, rfl, _, rfl, t, _, _, _, rfl, rfl, ht, at_of (j := 0) rfl rfl, b, lc, lp, s, _, _, rfl, ⟨_, rfl, rfl⟩, G, B, k⟩
    · refine ⟨_, rfl, rfl, _, rfl, sk (by decide) ?_⟩
      refine ⟨_, rfl, rfl, _, rfl, hit ?_⟩
      exact ⟨_, rfl, _, rfl, t, _, _, _, rfl, rfl, ht, at_of (j := 0) rfl rfl, b, lc, lp, s, _, _, rfl, ⟨_, rfl, rfl⟩, G, B, k⟩
    · refine ⟨_, rfl, rfl, _, rfl, sk (by decide) ?_⟩
      refine ⟨_, rfl, rfl, _, rfl, sk (by decide) ?_⟩
      refine ⟨_, rfl, rfl, _, rfl, hit ?_⟩
      exact ⟨_, rfl, _, rfl, t, _, _, _, rfl, rfl, ht, at_of (j := 0) rfl rfl, b, lc, lp, s, _, _, rfl, ⟨_, rfl, rfl⟩, G, B, k⟩
    · refine ⟨_, rfl, rfl, _, rfl, sk (by decide) ?_⟩
      refine ⟨_, rfl, rfl, _, rfl, sk (by decide) ?_⟩
      refine ⟨_, rfl, rfl, _, rfl, sk (by decide) ?_⟩
      refine ⟨_, rfl, rfl, _, rfl, hit ?_⟩
      exact ⟨_, rfl, _, rfl, t, _, _, _, rfl, rfl, ht, at_of (j := 0) rfl rfl, _, rfl, t, _, _, _, rfl, rfl, ht, at_of (j := 1) rfl rfl, _, rfl, t, _, _, _, rfl, rfl, ht, at_of (j := 2) rfl rfl, b, lc, lp, s, _, _, rfl, ⟨_, _, _, rfl, rfl⟩, G, B, k⟩
    · refine ⟨_, rfl, rfl, _, rfl, sk (by decide) ?_⟩
      refine ⟨_, rfl, rfl, _, rfl, sk (by decide) ?_⟩
      refine ⟨_, rfl, rfl, _, rfl, sk (by decide) ?_⟩
      refine ⟨_, rfl, rfl, _, rfl, sk (by decide) ?_⟩
      refine ⟨_, rfl, rfl, _, rfl, hit ?_⟩
      exact ⟨_, rfl, _, rfl, t, _, _, _, rfl, rfl, ht, at_of (j := 0) rfl rfl, b, lc, lp, s, _, _, rfl, ⟨_, rfl, rfl⟩, G, B, k⟩
    · refine ⟨_, rfl, rfl, _, rfl, sk (by decide) ?_⟩
      refine ⟨_, rfl, rfl, _, rfl, sk (by decide) ?_⟩
      refine ⟨_, rfl, rfl, _, rfl, sk (by decide) ?_⟩
      refine ⟨_, rfl, rfl, _, rfl, sk (by decide) ?_⟩
      refine ⟨_, rfl, rfl, _, rfl, sk (by decide) ?_⟩
      refine ⟨_, rfl, rfl, _, rfl, hit ?_⟩
      exact ⟨_, rfl, b, lc, lp, s, _, _, rfl, ⟨rfl, rfl⟩, G, B, k⟩
    · refine ⟨_, rfl, rfl, _, rfl, sk (by decide) ?_⟩
      refine ⟨_, rfl, rfl, _, rfl, sk (by decide) ?_⟩
      refine ⟨_, rfl, rfl, _, rfl, sk (by decide) ?_⟩
      refine ⟨_, rfl, rfl, _, rfl, sk (by decide) ?_⟩
      refine ⟨_, rfl, rfl, _, rfl, sk (by decide) ?_⟩
      refine ⟨_, rfl, rfl, _, rfl, sk (by decide) ?_⟩
      exact ⟨_, rfl, _, rfl, t, _, _, _, rfl, rfl, ht, at_of (j := 0) rfl rfl, _, rfl, t, _, _, _, rfl, rfl, ht, at_of (j := 1) rfl rfl, b, lc, lp, s, _, _, rfl, ⟨_, _, rfl, rfl⟩, G, B, k⟩
def RowsAt (H : Hp) (l : Addr) (rows : List (List Int)) : Prop := ∃ qs : List Addr, H l = some (.lst (qs.map V.ref)) ∧ Paired (fun q (r : List Int) => H q = some (.lst (r.map V.int))) qs rows
theorem RowsAt.same {H H' : Hp} {l : Addr} {rows : List (List Int)} (h : RowsAt H l rows) (k : Same H H') : RowsAt H' l rows := let ⟨qs, e, p⟩ := h; ⟨qs, k _ _ e, Paired.imp' (fun _ _ q => k _ _ q) p⟩
def spLook (cC cP cB : Addr) : Sp := fun vs H Q _ => ∃ b lc lp s c t u nums rows d, vs = [.ref b, .int c, .ref t, .ref u] ∧ loForm c nums rows d ∧ H t = some (.lst (nums.map V.int)) ∧ RowsAt H u rows ∧ Good s ∧ BoardAt cC cP cB H b lc lp s ∧ ∀ H' p, Done cC cP cB H H' b lc lp (Vbpcas.step s d) p → Q (.ref p) H'
theorem ok_look_at {f : Addr} {fd : FuncData} (F : Fun K "look_at" "look_at" s_look_at f fd) (T : Txt K mg cC cP cB cR cU) (D_list_all : Def P w K mg base 1 "list_all" (spDo cC cP cB isList)) (D_check : Def P w K mg base 5 "check" (spDoR cC cP cB .check)) (D_slacks : Def P w K mg base 5 "slacks" (spDoR cC cP cB .slacks)) : FnOk P w K mg base CX0 6 f fd ps_look_at (spLook cC cP cB) := by
  refine F.ok sc_look_at (fun vs H Q E h => ?_) (fun cdv A outer s H vs Q E hr h => ?_)
  · obtain ⟨b, lc, lp, s, c, t, u, nums, rows, d, rfl, _⟩ := h
    rfl
  · obtain ⟨b, lc, lp, s, c, t, u, nums, rows, d, rfl, fm, ht, ⟨qs, hu, pq⟩, G, B, k⟩ := h
    refine ⟨_, (pss_cons (ps_if (pt_cmpR op_eq (pv 1) (pe_gint rfl T.c_LIST) (nomark _)) (pss_one (ps_ret (pe_def D_list_all hr (pa_cons (pv 0) pa_nil)))) pss_nil)
      (pss_cons (ps_if (pt_cmpR op_eq (pv 1) (pe_gint rfl T.c_CHECK) (nomark _)) (pss_one (ps_ret (pe_def D_check hr (pa_cons (pv 0) (pa_cons (pe_ix ix_own (pv 2) pe_int (fun _ _ => rfl)) (pa_cons (pe_ix ix_own (pv 3) pe_int (fun _ _ => rfl)) pa_nil)))))) pss_nil)
      (pss_one (ps_ret (pe_def D_slacks hr (pa_cons (pv 0) (pa_cons (pe_ix ix_own (pv 2) pe_int (fun _ _ => rfl)) (pa_cons (pe_ix ix_own (pv 3) pe_int (fun _ _ => rfl)) pa_nil)))))))), ?_⟩
    rcases fm with ⟨rfl, rfl, rfl, rfl⟩ | ⟨rfl, p, r, rfl, rfl, rfl⟩ | ⟨rfl, p, r, rfl, rfl, rfl⟩
    · refine ⟨_, rfl, rfl, _, rfl, hit ?_⟩
      exact ⟨_, rfl, b, lc, lp, s, _, _, rfl, ⟨rfl, rfl⟩, G, B, k⟩
    · refine ⟨_, rfl, rfl, _, rfl, sk (by decide) ?_⟩
      refine ⟨_, rfl, rfl, _, rfl, hit ?_⟩
      cases pq with
      | cons r1 r2 =>
        exact ⟨_, rfl, _, rfl, t, _, _, _, rfl, rfl, ht, at_of (j := 0) rfl rfl, _, rfl, u, _, _, _, rfl, rfl, hu, at_of (j := 0) rfl rfl, b, lc, lp, s, p, _, r, rfl, G, B, r1, k⟩
    · refine ⟨_, rfl, rfl, _, rfl, sk (by decide) ?_⟩
      refine ⟨_, rfl, rfl, _, rfl, sk (by decide) ?_⟩
      cases pq with
      | cons r1 r2 =>
        exact ⟨_, rfl, _, rfl, t, _, _, _, rfl, rfl, ht, at_of (j := 0) rfl rfl, _, rfl, u, _, _, _, rfl, rfl, hu, at_of (j := 0) rfl rfl, b, lc, lp, s, p, _, r, rfl, G, B, r1, k⟩
def spCompare (cC cP cB : Addr) : Sp := fun vs H Q _ => ∃ b lc lp s c u rows d, vs = [.ref b, .int c, .ref u] ∧ coForm c rows d ∧ RowsAt H u rows ∧ Good s ∧ BoardAt cC cP cB H b lc lp s ∧ ∀ H' p, Done cC cP cB H H' b lc lp (Vbpcas.step s d) p → Q (.ref p) H'
theorem ok_compare {f : Addr} {fd : FuncData} (F : Fun K "compare" "compare" s_compare f fd) (T : Txt K mg cC cP cB cR cU) (D_sooner : Def P w K mg base 2 "sooner" (spTwo cC cP cB .sooner)) (D_later : Def P w K mg base 2 "later" (spTwo cC cP cB .later)) : FnOk P w K mg base CX0 3 f fd ps_compare (spCompare cC cP cB) := by
  refine F.ok sc_compare (fun vs H Q E h => ?_) (fun cdv A outer s H vs Q E hr h => ?_)
  · obtain ⟨b, lc, lp, s, c, u, rows, d, rfl, _⟩ := h
    rfl
  · obtain ⟨b, lc, lp, s, c, u, rows, d, rfl, fm, ⟨qs, hu, pq⟩, G, B, k⟩ := h
    refine ⟨_, (pss_cons (ps_if (pt_cmpR op_eq (pv 1) (pe_gint rfl T.c_SOONER) (nomark _)) (pss_one (ps_ret (pe_def D_sooner hr (pa_cons (pv 0) (pa_cons (pe_ix ix_own (pv 2) pe_int (fun _ _ => rfl)) (pa_cons (pe_ix ix_own (pv 2) pe_int (fun _ _ => rfl)) pa_nil)))))) pss_nil)
      (pss_one (ps_ret (pe_def D_later hr (pa_cons (pv 0) (pa_cons (pe_ix ix_own (pv 2) pe_int (fun _ _ => rfl)) (pa_cons (pe_ix ix_own (pv 2) pe_int (fun _ _ => rfl)) pa_nil))))))), ?_⟩
    rcases fm with ⟨rfl, x, y, rfl, rfl⟩ | ⟨rfl, x, y, rfl, rfl⟩
    · refine ⟨_, rfl, rfl, _, rfl, hit ?_⟩
      cases pq with
      | cons r1 r2 =>
        cases r2 with
        | cons r2 r3 =>
          exact ⟨_, rfl, _, rfl, u, _, _, _, rfl, rfl, hu, at_of (j := 0) rfl rfl, _, rfl, u, _, _, _, rfl, rfl, hu, at_of (j := 1) rfl rfl, b, lc, lp, s, _, _, x, y, rfl, G, B, r1, r2, k⟩
    · refine ⟨_, rfl, rfl, _, rfl, sk (by decide) ?_⟩
      cases pq with
      | cons r1 r2 =>
        cases r2 with
        | cons r2 r3 =>
          exact ⟨_, rfl, _, rfl, u, _, _, _, rfl, rfl, hu, at_of (j := 0) rfl rfl, _, rfl, u, _, _, _, rfl, rfl, hu, at_of (j := 1) rfl rfl, b, lc, lp, s, _, _, x, y, rfl, G, B, r1, r2, k⟩
def spAnswer (cC cP cB : Addr) : Sp := fun vs H Q _ => ∃ b lc lp s c t u nums rows d, vs = [.ref b, .int c, .ref t, .ref u] ∧ aForm c nums rows d ∧ H t = some (.lst (nums.map V.int)) ∧ RowsAt H u rows ∧ Good s ∧ BoardAt cC cP cB H b lc lp s ∧ ∀ H' p, Done cC cP cB H H' b lc lp (Vbpcas.step s d) p → Q (.ref p) H'
theorem ch_is {c : Int} {nums : List Int} {d : Vbpcas.Call} (h : chForm c nums d) : c ≤ 6 ∨ c = 19 := by
  unfold chForm at h
  omega
theorem fi_is {c : Int} {nums : List Int} {d : Vbpcas.Call} (h : fiForm c nums d) : 10 ≤ c ∧ c ≤ 16 := by
  unfold fiForm at h
  omega
theorem lo_is {c : Int} {nums : List Int} {rows : List (List Int)} {d : Vbpcas.Call} (h : loForm c nums rows d) : 7 ≤ c ∧ c ≤ 9 := by
  unfold loForm at h
  omega
theorem co_is {c : Int} {rows : List (List Int)} {d : Vbpcas.Call} (h : coForm c rows d) : 17 ≤ c ∧ c ≤ 18 := by
  unfold coForm at h
  omega
theorem no_le {a b : Int} {A B : Prop} (h : ¬ a ≤ b) (q : B) : if decide (a ≤ b) = true then A else B := by
  rw [decide_eq_false h]
  exact iteF q
theorem yes_le {a b : Int} {A B : Prop} (h : a ≤ b) (q : A) : if decide (a ≤ b) = true then A else B := by
  rw [decide_eq_true h]
  exact iteT q
theorem ok_answer_call {f : Addr} {fd : FuncData} (F : Fun K "answer_call" "answer_call" s_answer_call f fd) (T : Txt K mg cC cP cB cR cU) (D_change : Def P w K mg base 4 "change" (spChange cC cP cB chForm)) (D_look_at : Def P w K mg base 6 "look_at" (spLook cC cP cB)) (D_find : Def P w K mg base 7 "find" (spChange cC cP cB fiForm)) (D_compare : Def P w K mg base 3 "compare" (spCompare cC cP cB)) : FnOk P w K mg base CX0 8 f fd ps_answer_call (spAnswer cC cP cB) := by
  refine F.ok sc_answer_call (fun vs H Q E h => ?_) (fun cdv A outer s H vs Q E hr h => ?_)
  · obtain ⟨b, lc, lp, s, c, t, u, nums, rows, d, rfl, _⟩ := h
    rfl
  · obtain ⟨b, lc, lp, s, c, t, u, nums, rows, d, rfl, md, ht, hu, G, B, k⟩ := h
    refine ⟨_, (pss_cons (ps_if (PW.pt (pw_or (pt_cmpR op_le (pv 1) (pe_gint rfl T.c_CLEAR) (nomark _)) (pw_or1 (pt_cmpR op_eq (pv 1) (pe_gint rfl T.c_SHIFT) (nomark _))))) (pss_one (ps_ret (pe_def D_change hr (pa_cons (pv 0) (pa_cons (pv 1) (pa_cons (pv 2) pa_nil)))))) pss_nil)
      (pss_cons (ps_if (pt_cmpR op_le (pv 1) (pe_gint rfl T.c_SLACKS) (nomark _)) (pss_one (ps_ret (pe_def D_look_at hr (pa_cons (pv 0) (pa_cons (pv 1) (pa_cons (pv 2) (pa_cons (pv 3) pa_nil))))))) pss_nil)
      (pss_cons (ps_if (pt_cmpR op_le (pv 1) (pe_gint rfl T.c_RESERVE) (nomark _)) (pss_one (ps_ret (pe_def D_find hr (pa_cons (pv 0) (pa_cons (pv 1) (pa_cons (pv 2) pa_nil)))))) pss_nil)
      (pss_one (ps_ret (pe_def D_compare hr (pa_cons (pv 0) (pa_cons (pv 1) (pa_cons (pv 3) pa_nil))))))))), ?_⟩
    rcases md with fm | fm | fm | fm
    · rcases ch_is fm with h6 | h19
      · refine ⟨_, rfl, _, _, rfl, rfl, _, rfl, yes_le h6 ?_⟩
        refine iteT ?_
        exact ⟨_, rfl, _, rfl, _, rfl, b, lc, lp, s, c, t, nums, d, rfl, fm, ht, G, B, k⟩
      · subst h19
        refine ⟨_, rfl, _, _, rfl, rfl, _, rfl, no_le (by decide) ?_⟩
        refine ⟨_, rfl, rfl, _, rfl, hit ?_⟩
        exact ⟨_, rfl, _, rfl, _, rfl, b, lc, lp, s, _, t, nums, d, rfl, fm, ht, G, B, k⟩
    · have r := lo_is fm
      refine ⟨_, rfl, _, _, rfl, rfl, _, rfl, no_le (by omega) ?_⟩
      refine ⟨_, rfl, rfl, _, rfl, sk (by omega) ?_⟩
      refine ⟨_, rfl, _, _, rfl, rfl, _, rfl, yes_le (by omega) ?_⟩
      exact ⟨_, rfl, _, rfl, _, rfl, _, rfl, b, lc, lp, s, c, t, u, nums, rows, d, rfl, fm, ht, hu, G, B, k⟩
    · have r := fi_is fm
      refine ⟨_, rfl, _, _, rfl, rfl, _, rfl, no_le (by omega) ?_⟩
      refine ⟨_, rfl, rfl, _, rfl, sk (by omega) ?_⟩
      refine ⟨_, rfl, _, _, rfl, rfl, _, rfl, no_le (by omega) ?_⟩
      refine ⟨_, rfl, _, _, rfl, rfl, _, rfl, yes_le (by omega) ?_⟩
      exact ⟨_, rfl, _, rfl, _, rfl, b, lc, lp, s, c, t, nums, d, rfl, fm, ht, G, B, k⟩
    · have r := co_is fm
      refine ⟨_, rfl, _, _, rfl, rfl, _, rfl, no_le (by omega) ?_⟩
      refine ⟨_, rfl, rfl, _, rfl, sk (by omega) ?_⟩
      refine ⟨_, rfl, _, _, rfl, rfl, _, rfl, no_le (by omega) ?_⟩
      refine ⟨_, rfl, _, _, rfl, rfl, _, rfl, no_le (by omega) ?_⟩
      exact ⟨_, rfl, _, rfl, _, rfl, b, lc, lp, s, c, u, rows, d, rfl, fm, hu, G, B, k⟩
end
end Ck

set_option Elab.async false
set_option linter.all false
set_option maxRecDepth 100000
set_option maxHeartbeats 4000000
namespace Ck
open PySem PySem.Spec PyProof.Rows L2
def readerF (a : Addr) (i : Int) : List (Str × V) := [("calls", .ref a), ("place", .int i)]
def ReaderAt (cR : Addr) (H : Hp) (x a : Addr) (i : Nat) : Prop := ∃ d, H x = some (.ins cR d (readerF a (i : Nat)))
def But (x : Addr) (H H' : Hp) : Prop := ∀ b o, b ≠ x → H b = some o → H' b = some o
theorem But.trans {x : Addr} {H H1 H2 : Hp} (h : But x H H1) (k : But x H1 H2) : But x H H2 := fun b o n e => k b o n (h b o n e)
theorem But.of {x : Addr} {H H' : Hp} (k : Same H H') : But x H H' := fun b o _ e => k b o e
theorem But.free {x p : Addr} {H H' : Hp} (k : But x H H') (n : p ≠ x) (h : H' p = none) : H p = none := by
  cases e : H p with
  | none => rfl
  | some o => rw [k p o n e] at h; cases h
theorem SqL.but {K : PySem.W.Frag} {x C d a : Addr} {fs : List (Str × V)} {H H' : Hp} {xs : List V} (hx : H x = some (.ins C d fs)) (k : But x H H') (h : SqL K H a xs) : SqL K H' a xs := by
  rcases h with (h | ⟨o, h⟩) | h
  · exact .inl (.inl (k _ _ (ne_of h hx (by intro q; cases q)) h))
  · exact .inl (.inr ⟨o, k _ _ (ne_of h hx (by intro q; cases q)) h⟩)
  · exact .inr h
section
variable {P : Program} {w : World} {K : PySem.W.Frag} {mg : Str → Option Value} {base : Heap} {cC cP cB cR cU : Addr}
def spReaderInit (cR : Addr) : Sp := fun vs H Q _ => ∃ x dx a, vs = [.ref x, .ref a] ∧ H x = some (.ins cR dx []) ∧ Q .non (upd H x (.ins cR dx (readerF a 0)))
theorem ok_Reader_init {f : Addr} {fd : FuncData} (F : Fun K "__init__" "Reader.__init__" s_Reader_init f fd) (T : Txt K mg cC cP cB cR cU) : FnOk P w K mg base CX0 1 f fd ps_Reader_init (spReaderInit cR) := by
  refine F.ok sc_Reader_init (fun vs H Q E h => ?_) (fun cdv A outer s H vs Q E hr h => ?_)
  · obtain ⟨x, dx, a, rfl, _⟩ := h
    rfl
  · obtain ⟨x, dx, a, rfl, hx, k⟩ := h
    refine ⟨_, (pss_cons (ps_fld (pv 0) (pv 1) rfl)
      (pss_one (ps_fld (pv 0) pe_int rfl))), ?_⟩
    refine ⟨_, rfl, _, rfl, x, cR, dx, _, rfl, hx, T.clR, T.calls, by show 0 < 1000; decide, ?_⟩
    refine ⟨_, rfl, x, cR, dx, _, rfl, upd_same, T.clR, T.place, by show 1 < 1000; decide, ?_⟩
    rw [upd_upd]
    exact k
def spReader (cR : Addr) : Sp := fun vs H Q _ => ∃ a, vs = [.ref a] ∧ ∀ H' x, H x = none → Same H H' → ReaderAt cR H' x a 0 → Q (.ref x) H'
theorem new_reader {f : Addr} {fd : FuncData} (F : Fun K "__init__" "Reader.__init__" s_Reader_init f fd) (T : Txt K mg cC cP cB cR cU) (M : Mk K cR f) (h : mg "Reader" = some (.ref cR)) (B : Binds K fd ps_Reader_init []) : New P w K mg base 1 "Reader" (spReader cR) :=
  ⟨cR, f, fd, _, _, M, ok_Reader_init F T, h, B, fun vs H Q ⟨a, e, k⟩ x dx hx hd hn => by
    subst e
    refine ⟨x, dx, a, rfl, upd_same, rfl, ?_⟩
    rw [upd_upd]
    exact k _ x hx (fun a o e => by rw [upd_ne (ne_of_none e hx), upd_ne (ne_of_none e hd)]; exact e) ⟨dx, upd_same⟩⟩
def spAtEnd (K : PySem.W.Frag) (cR : Addr) : Sp := fun vs H Q _ => ∃ x a i l, vs = [.ref x] ∧ ReaderAt cR H x a i ∧ SqL K H a ((l : List Int).map V.int) ∧ Q (.bl (decide (i = l.length))) H
theorem ok_Reader_at_end {f : Addr} {fd : FuncData} (F : Fun K "at_end" "Reader.at_end" s_Reader_at_end f fd) (T : Txt K mg cC cP cB cR cU) : FnOk P w K mg base CX0 1 f fd ps_Reader_at_end (spAtEnd K cR) := by
  refine F.ok sc_Reader_at_end (fun vs H Q E h => ?_) (fun cdv A outer s H vs Q E hr h => ?_)
  · obtain ⟨x, a, i, l, rfl, _⟩ := h
    rfl
  · obtain ⟨x, a, i, l, rfl, ⟨d, hx⟩, hS, k⟩ := h
    refine ⟨_, (pss_one (ps_ret (pe_cmpR op_eq (pe_fld (pv 0) rfl) (pe_callB call_len_seq rfl T.b_len PySem.boot_len (pa_cons (pe_fld (pv 0) rfl) pa_nil)) (nomark _)))), ?_⟩
    refine ⟨_, rfl, x, cR, d, _, _, rfl, hx, T.clR, T.place, rfl, _, rfl, x, cR, d, _, _, rfl, hx, T.clR, T.calls, rfl, a, _, rfl, .inl hS, rfl, ?_⟩
    rw [List.length_map]
    refine bl_eq k ?_
    apply decide_eq_decide.mpr
    constructor
    · intro e
      rw [e]
    · intro e
      injection e with e
      omega
def spReadNumber (K : PySem.W.Frag) (cR : Addr) : Sp := fun vs H Q _ => ∃ x a i l z, vs = [.ref x] ∧ ReaderAt cR H x a i ∧ SqL K H a ((l : List Int).map V.int) ∧ l[i]? = some z ∧ ∀ H', But x H H' → ReaderAt cR H' x a (i + 1) → Q (.int z) H'
theorem ok_Reader_read_number {f : Addr} {fd : FuncData} (F : Fun K "read_number" "Reader.read_number" s_Reader_read_number f fd) (T : Txt K mg cC cP cB cR cU) : FnOk P w K mg base CX0 1 f fd ps_Reader_read_number (spReadNumber K cR) := by
  refine F.ok sc_Reader_read_number (fun vs H Q E h => ?_) (fun cdv A outer s H vs Q E hr h => ?_)
  · obtain ⟨x, a, i, l, z, rfl, _⟩ := h
    rfl
  · obtain ⟨x, a, i, l, z, rfl, ⟨d, hx⟩, hS, hz, k⟩ := h
    refine ⟨_, (pss_cons (ps_set (i := 1) sc_Reader_read_number.nd rfl (by first | exact Or.inl rfl | exact Or.inr rfl) (pe_ix ix_list (pe_fld (pv 0) rfl) (pe_fld (pv 0) rfl) (fun _ _ => rfl)))
      (pss_cons (ps_fldaug (pv 0) pe_int in_add)
      (pss_one (ps_ret (pv 1))))), ?_⟩
    refine ⟨_, rfl, x, cR, d, _, _, rfl, hx, T.clR, T.calls, rfl, _, rfl, x, cR, d, _, _, rfl, hx, T.clR, T.place, rfl, a, _, _, _, rfl, rfl, hS, atI_nat (by rw [List.getElem?_map, hz]; rfl), ?_⟩
    refine ⟨_, rfl, x, cR, d, _, _, rfl, hx, T.clR, T.place, rfl, _, _, rfl, rfl, d, _, hx, by show 2 < 1000; decide, ?_⟩
    exact ⟨_, rfl, k _ (fun b o n e => by rw [upd_ne n]; exact e) ⟨d, upd_same⟩⟩
theorem reader_no (a : Addr) (i : Int) : (readerF a i).lookup ("read_number" : Str) = none := by rfl
theorem reader_nos (a : Addr) (i : Int) : (readerF a i).lookup ("read_numbers" : Str) = none := by rfl
theorem reader_rows (a : Addr) (i : Int) : (readerF a i).lookup ("read_rows" : Str) = none := by rfl
theorem reader_end (a : Addr) (i : Int) : (readerF a i).lookup ("at_end" : Str) = none := by rfl
def spReadNumbers (K : PySem.W.Frag) (cR : Addr) : Sp := fun vs H Q _ => ∃ x a i l n, vs = [.ref x, .int (n : Nat)] ∧ ReaderAt cR H x a i ∧ SqL K H a ((l : List Int).map V.int) ∧ i + n ≤ l.length ∧ l.length ≤ 30000 ∧ ∀ H' p, But x H H' → H p = none → ReaderAt cR H' x a (i + n) → H' p = some (.lst (((l.drop i).take n).map V.int)) → Q (.ref p) H'
theorem ok_Reader_read_numbers {f f1 : Addr} {fd fd1 : FuncData} {ps1 : List Str} (F : Fun K "read_numbers" "Reader.read_numbers" s_Reader_read_numbers f fd) (T : Txt K mg cC cP cB cR cU) (M_read_number : Mth P w K mg base 1 cR "read_number" (spReadNumber K cR) f1 fd1 ps1) :
    FnOk P w K mg base CX0 2 f fd ps_Reader_read_numbers (spReadNumbers K cR) := by
  refine F.ok sc_Reader_read_numbers (fun vs H Q E h => ?_) (fun cdv A outer s H vs Q E hr h => ?_)
  · obtain ⟨x, a, i, l, n, rfl, _⟩ := h
    rfl
  · obtain ⟨x, a, i, l, n, rfl, ⟨d, hx⟩, hS, hn, hl, k⟩ := h
    refine ⟨_, (pss_cons (ps_set (i := 2) sc_Reader_read_numbers.nd rfl (by first | exact Or.inl rfl | exact Or.inr rfl) (pe_lst pa_nil))
      (pss_cons (ps_for PassesOwn.never rfl (pi_range1 rfl T.b_range (pa_cons (pv 1) pa_nil)) (pg_name (i := 3) sc_Reader_read_numbers.nd rfl (by first | exact Or.inl rfl | exact Or.inr rfl))
      (pss_one (ps_expr (pe_bm PySem.F.plainAttrs_list PySem.F.slot_list_append PySem.F.type_list_append mt_append (pv 2) (pa_cons (pe_mth0 M_read_number (pv 0) hr) pa_nil)))))
      (pss_one (ps_ret (pv 2))))), ?_⟩
    refine ⟨Nat.zero_le _, fun m hm => ?_⟩
    have nxm : x ≠ m := ne_of_none hx hm
    refine ⟨_, rfl, _, rfl, by omega, by omega, ?_⟩
    rw [Int.toNat_natCast]
    refine for_range (n := n) (fun j σ H' => ∃ v3 : Option V, σ = [some (.ref x), some (.int (n : Nat)), some (.ref m), v3] ∧ But x H H' ∧ ReaderAt cR H' x a (i + j) ∧ H' m = some (.lst (((l.drop i).take j).map V.int)))
      ⟨none, rfl, fun b o nb e => by rw [upd_ne (ne_of_none e hm)]; exact e, ⟨d, by rw [upd_ne nxm]; exact hx⟩, upd_same⟩ ?_ ?_
    · rintro j σ H' hj ⟨v3, rfl, bt, ⟨d', hx'⟩, hm'⟩
      obtain ⟨z, hz⟩ : ∃ z, l[i + j]? = some z := ⟨_, List.getElem?_eq_getElem (by omega)⟩
      have hz' : (l.drop i)[j]? = some z := by rw [List.getElem?_drop]; exact hz
      refine ⟨_, rfl, tyV_lst hm', _, rfl, x, d', _, rfl, hx', reader_no _ _, x, a, i + j, l, z, rfl, ⟨d', hx'⟩, SqL.but hx bt hS, hz, fun H2 bt2 r2 => ?_⟩
      have hm2 := bt2 m _ (Ne.symm nxm) hm'
      refine ⟨m, _, _, rfl, rfl, hm2, by rw [List.length_map, List.length_take]; exact lit_small (by omega), ?_⟩
      refine ⟨_, rfl, fun b o nb e => ?_, ?_, ?_⟩
      · rw [upd_ne (ne_of_none e hm)]
        exact bt2 b o nb (bt b o nb e)
      · obtain ⟨d2, r2⟩ := r2
        exact ⟨d2, by rw [upd_ne nxm]; exact r2⟩
      · rw [upd_same, take_snoc hz', List.map_append]
        rfl
    · rintro σ H2 ⟨v3, rfl, bt, r, hm'⟩
      exact ⟨_, rfl, k _ _ bt hm r hm'⟩
def spReadRows (K : PySem.W.Frag) (cR : Addr) : Sp := fun vs H Q _ => ∃ x a i l n xs t, vs = [.ref x, .int (n : Nat)] ∧ ReaderAt cR H x a i ∧ SqL K H a ((l : List Int).map V.int) ∧ PyFlat.rows n (l.drop i) = some (xs, t) ∧ i ≤ l.length ∧ l.length ≤ 30000 ∧ n ≤ 2 ∧ ∀ H' p i', But x H H' → H p = none → ReaderAt cR H' x a i' → i' ≤ l.length → l.drop i' = t → RowsAt H' p xs → Q (.ref p) H'
theorem ok_Reader_read_rows {f f1 f2 : Addr} {fd fd1 fd2 : FuncData} {ps1 ps2 : List Str} (F : Fun K "read_rows" "Reader.read_rows" s_Reader_read_rows f fd) (T : Txt K mg cC cP cB cR cU) (M_read_number : Mth P w K mg base 1 cR "read_number" (spReadNumber K cR) f1 fd1 ps1) (M_read_numbers : Mth P w K mg base 2 cR "read_numbers" (spReadNumbers K cR) f2 fd2 ps2) :
    FnOk P w K mg base CX0 3 f fd ps_Reader_read_rows (spReadRows K cR) := by
  refine F.ok sc_Reader_read_rows (fun vs H Q E h => ?_) (fun cdv A outer s H vs Q E hr h => ?_)
  · obtain ⟨x, a, i, l, n, xs, t, rfl, _⟩ := h
    rfl
  · obtain ⟨x, a, i, l, n, xs, t, rfl, ⟨d, hx⟩, hS, hrows, hi, hl, hn, k⟩ := h
    refine ⟨_, (pss_cons (ps_set (i := 2) sc_Reader_read_rows.nd rfl (by first | exact Or.inl rfl | exact Or.inr rfl) (pe_lst pa_nil))
      (pss_cons (ps_for PassesOwn.never rfl (pi_range1 rfl T.b_range (pa_cons (pv 1) pa_nil)) (pg_name (i := 3) sc_Reader_read_rows.nd rfl (by first | exact Or.inl rfl | exact Or.inr rfl))
      (pss_one (ps_expr (pe_bm PySem.F.plainAttrs_list PySem.F.slot_list_append PySem.F.type_list_append mt_append (pv 2) (pa_cons (pe_mth M_read_numbers (pv 0) hr (pa_cons (pe_mth0 M_read_number (pv 0) hr) pa_nil)) pa_nil)))))
      (pss_one (ps_ret (pv 2))))), ?_⟩
    refine ⟨Nat.zero_le _, fun m hm => ?_⟩
    have nxm : x ≠ m := ne_of_none hx hm
    refine ⟨_, rfl, _, rfl, by omega, by omega, ?_⟩
    rw [Int.toNat_natCast]
    refine for_range (n := n) (fun j σ H' => ∃ (v3 : Option V) (done rest : List (List Int)) (i' : Nat) (qs : List Addr), σ = [some (.ref x), some (.int (n : Nat)), some (.ref m), v3] ∧ But x H H' ∧ ReaderAt cR H' x a i' ∧ i' ≤ l.length ∧ PyFlat.rows (n - j) (l.drop i') = some (rest, t) ∧ xs = done ++ rest ∧ done.length = j ∧ H' m = some (.lst (qs.map V.ref)) ∧ Paired (fun q (r : List Int) => hole H' m q = some (.lst (r.map V.int))) qs done)
      ⟨none, [], xs, i, [], rfl, fun b o nb e => by rw [upd_ne (ne_of_none e hm)]; exact e, ⟨d, by rw [upd_ne nxm]; exact hx⟩, hi, hrows, rfl, rfl, upd_same, .nil⟩ ?_ ?_
    · rintro j σ H' hj ⟨v3, done, rest, i', qs, rfl, bt, ⟨d', hx'⟩, hi', hr', exs, dl, hm', pq⟩
      rw [show n - j = (n - (j + 1)) + 1 by omega] at hr'
      obtain ⟨x1, t1, ys, h1, h2, rfl⟩ := rows_succ hr'
      obtain ⟨len, r, e1, e2, rfl, rfl⟩ := row_is h1
      have ql := paired_len pq
      have hz : l[i']? = some (len : Int) := by
        have : (l.drop i')[0]? = some (len : Int) := by rw [e1]; rfl
        rw [List.getElem?_drop] at this
        exact this
      have il : i' < l.length := (List.getElem?_eq_some_iff.mp hz).1
      have er : l.drop (i' + 1) = r := by
        rw [← List.tail_drop, e1]
        rfl
      have rl : r.length = l.length - (i' + 1) := by rw [← er, List.length_drop]
      refine ⟨_, rfl, tyV_lst hm', _, rfl, x, d', _, rfl, hx', reader_nos _ _, _, rfl, x, d', _, rfl, hx', reader_no _ _, x, a, i', l, _, rfl, ⟨d', hx'⟩, SqL.but hx bt hS, hz, fun H2 bt2 ⟨d2, hx2⟩ => ?_⟩
      have hS2 := SqL.but hx (bt.trans bt2) hS
      refine ⟨x, a, i' + 1, l, len, rfl, ⟨d2, hx2⟩, hS2, by omega, hl, fun H3 p bt3 hp ⟨d3, hx3⟩ hp3 => ?_⟩
      have hm3 := bt3 m _ (Ne.symm nxm) (bt2 m _ (Ne.symm nxm) hm')
      refine ⟨m, _, _, rfl, rfl, hm3, by rw [List.length_map]; exact lit_small (by omega), ?_⟩
      have bt13 := bt2.trans bt3
      have npm : p ≠ m := fun e => by
        rw [e] at hp
        rw [bt2 m _ (Ne.symm nxm) hm'] at hp
        cases hp
      have hsub : ∀ b o, hole H' m b = some o → b ≠ x → hole (upd H3 m (.lst (qs.map V.ref ++ [V.ref p]))) m b = some o := fun b o e nb => by
        have nbm : b ≠ m := fun q => by
          rw [q] at e
          unfold hole at e
          rw [if_pos rfl] at e
          cases e
        rw [hole_upd]
        exact hole_at nbm (bt13 b o nb (hole_sub _ _ _ _ e))
      refine ⟨_, done ++ [r.take len], ys, i' + 1 + len, qs ++ [p], rfl, fun b o nb e => ?_, ⟨d3, by rw [upd_ne nxm]; exact hx3⟩, by omega, ?_, ?_, by rw [List.length_append, dl]; rfl, by rw [upd_same, List.map_append]; rfl, ?_⟩
      · rw [upd_ne (ne_of_none e hm)]
        exact bt13 b o nb (bt b o nb e)
      · rw [← List.drop_drop, er]
        exact h2
      · rw [exs, List.append_assoc]
        rfl
      · refine paired_snoc (Paired.imp' (fun q r0 e => hsub q _ e ?_) pq) ?_
        · exact ne_of (hole_sub _ _ _ _ e) hx' (by intro z; cases z)
        · rw [hole_upd]
          refine hole_at npm ?_
          rw [er] at hp3
          exact hp3
    · rintro σ H2 ⟨v3, done, rest, i', qs, rfl, bt, r, hi', hr', exs, dl, hm', pq⟩
      rw [Nat.sub_self] at hr'
      have e : (([] : List (List Int)), l.drop i') = (rest, t) := Option.some.inj hr'
      injection e with e1 e2
      subst e1
      rw [List.append_nil] at exs
      subst exs
      exact ⟨_, rfl, k _ _ i' bt hm r hi' e2 ⟨qs, hm', Paired.imp' (fun _ _ e => hole_sub _ _ _ _ e) pq⟩⟩
structure Stands (K : PySem.W.Frag) (cC cP cB cR : Addr) (H H' : Hp) (a b x m lc lp : Addr) (i : Nat) (s : Vbpcas.State) (tl : List Int) : Prop where
  same : Same H H'
  nb : H b = none
  nx : H x = none
  nm : H m = none
  nlc : H lc = none
  nlp : H lp = none
  board : BoardAt cC cP cB H' b lc lp s
  rd : ReaderAt cR H' x a i
  told : H' m = some (.lst (tl.map V.int))
  mc : m ≠ lc
  mp : m ≠ lp
theorem ne_rd_board {C C' d d' y y' : Addr} {H : Hp} {a : Addr} {i st ho : Int} {lc lp : Addr} (h : H y = some (.ins C d (readerF a i))) (h' : H y' = some (.ins C' d' (boardF st ho lc lp))) : y ≠ y' := ne_ins h h' (by simp [readerF, boardF])
theorem Stands.read {H H' H2 : Hp} {a b x m lc lp : Addr} {i i' : Nat} {s : Vbpcas.State} {tl : List Int} (S : Stands K cC cP cB cR H H' a b x m lc lp i s tl) (bt : But x H' H2) (r : ReaderAt cR H2 x a i') : Stands K cC cP cB cR H H2 a b x m lc lp i' s tl := by
  obtain ⟨d, hx⟩ := S.rd
  obtain ⟨db, hb⟩ := S.board.at_
  obtain ⟨cs, hc, pc⟩ := S.board.chips
  obtain ⟨qs, hp, pp⟩ := S.board.paths
  have chipN : ∀ {y : Addr} {c : Vbpcas.Chip}, ChipAt cC H' y c → y ≠ x := fun {y c} ⟨dy, e⟩ => ne_of e hx (by
    intro q
    injection q with _ _ q
    have e : ("lo" : Str) = "calls" := congrArg Prod.fst (List.cons.inj q).1
    exact absurd e (by decide))
  have pathN : ∀ {y : Addr} {c : Vbpcas.Path}, PathAt cP H' y c → y ≠ x := fun {y c} ⟨dy, e⟩ => ne_ins e hx (by simp [readerF, pathF])
  refine ⟨fun y o e => bt y o (ne_of_none e S.nx) (S.same y o e), S.nb, S.nx, S.nm, S.nlc, S.nlp, ⟨⟨db, bt _ _ (Ne.symm (ne_rd_board hx hb)) hb⟩, ⟨cs, bt _ _ (Ne.symm (ne_ins_lst hx hc)) hc, ?_⟩, ⟨qs, bt _ _ (Ne.symm (ne_ins_lst hx hp)) hp, ?_⟩, S.board.ne⟩, r, bt _ _ (Ne.symm (ne_ins_lst hx S.told)) S.told, S.mc, S.mp⟩
  · exact Paired.imp' (fun y c e => let ⟨dy, z⟩ := id e; ⟨dy, bt _ _ (chipN e) z⟩) pc
  · exact Paired.imp' (fun y c e => let ⟨dy, z⟩ := id e; ⟨dy, bt _ _ (pathN e) z⟩) pp
theorem Stands.done {H H' H2 : Hp} {a b x m lc lp p : Addr} {i : Nat} {s : Vbpcas.State} {tl : List Int} {r : Vbpcas.State × List Int} (S : Stands K cC cP cB cR H H' a b x m lc lp i s tl) (D : Done cC cP cB H' H2 b lc lp r p) : ∃ lc' lp', Stands K cC cP cB cR H H2 a b x m lc' lp' i r.1 tl ∧ p ≠ m := by
  obtain ⟨lc', lp', B', h1, h2⟩ := D.board
  obtain ⟨d, hx⟩ := S.rd
  obtain ⟨db, hb⟩ := S.board.at_
  obtain ⟨cs, hc, pc⟩ := S.board.chips
  obtain ⟨qs, hp, pp⟩ := S.board.paths
  refine ⟨lc', lp', ⟨fun y o e => D.kept y o (S.same y o e) (ne_of_none e S.nb) (ne_of_none e S.nlc) (ne_of_none e S.nlp), S.nb, S.nx, S.nm, ?_, ?_, B', ⟨d, D.kept _ _ hx (ne_rd_board hx hb) (ne_ins_lst hx hc) (ne_ins_lst hx hp)⟩, D.kept _ _ S.told (Ne.symm (ne_ins_lst hb S.told)) S.mc S.mp, ?_, ?_⟩, ?_⟩
  · rcases h1 with e | e
    · rw [e]; exact S.nlc
    · exact S.same.free e
  · rcases h2 with e | e
    · rw [e]; exact S.nlp
    · exact S.same.free e
  · rcases h1 with e | e
    · rw [e]; exact S.mc
    · exact ne_of_none S.told e
  · rcases h2 with e | e
    · rw [e]; exact S.mp
    · exact ne_of_none S.told e
  · exact Ne.symm (ne_of_none S.told D.new)
theorem Stands.tell {H H' : Hp} {a b x m lc lp : Addr} {i : Nat} {s : Vbpcas.State} {tl more : List Int} {xs : List V} (S : Stands K cC cP cB cR H H' a b x m lc lp i s tl) (e : xs = more.map V.int) : Stands K cC cP cB cR H (upd H' m (.lst (tl.map V.int ++ xs))) a b x m lc lp i s (tl ++ more) := by
  obtain ⟨d, hx⟩ := S.rd
  obtain ⟨db, hb⟩ := S.board.at_
  obtain ⟨cs, hc, pc⟩ := S.board.chips
  obtain ⟨qs, hp, pp⟩ := S.board.paths
  refine ⟨fun y o e => by rw [upd_ne (ne_of_none e S.nm)]; exact S.same y o e, S.nb, S.nx, S.nm, S.nlc, S.nlp, ⟨⟨db, by rw [upd_ne (ne_ins_lst hb S.told)]; exact hb⟩, ⟨cs, by rw [upd_ne (Ne.symm S.mc)]; exact hc, ?_⟩, ⟨qs, by rw [upd_ne (Ne.symm S.mp)]; exact hp, ?_⟩, S.board.ne⟩, ⟨d, by rw [upd_ne (ne_ins_lst hx S.told)]; exact hx⟩, by rw [upd_same, List.map_append, e], S.mc, S.mp⟩
  · exact Paired.imp' (fun y c ⟨dy, z⟩ => ⟨dy, by rw [upd_ne (ne_ins_lst z S.told)]; exact z⟩) pc
  · exact Paired.imp' (fun y c ⟨dy, z⟩ => ⟨dy, by rw [upd_ne (ne_ins_lst z S.told)]; exact z⟩) pp
def spAnswers (K : PySem.W.Frag) : Sp := fun vs H Q _ => ∃ a l, vs = [.ref a] ∧ SqL K H a ((l : List Int).map V.int) ∧ l.length ≤ 30000 ∧ PyVbpcas.answers_asked l = true ∧ ∀ H' p, H' p = some (.lst ((PyVbpcas.answers l).map V.int)) → Q (.ref p) H'
theorem ok_answers {f f1 f2 f3 f4 tN tR : Addr} {fd fd1 fd2 fd3 fd4 : FuncData} {ps1 ps2 ps3 ps4 : List Str} (F : Fun K "answers" "answers" s_answers f fd) (T : Txt K mg cC cP cB cR cU) (D_Board : New P w K mg base 1 "Board" (spBoard cC cP cB)) (D_Reader : New P w K mg base 1 "Reader" (spReader cR))
    (M_at_end : Mth P w K mg base 1 cR "at_end" (spAtEnd K cR) f4 fd4 ps4) (M_read_number : Mth P w K mg base 1 cR "read_number" (spReadNumber K cR) f1 fd1 ps1) (M_read_numbers : Mth P w K mg base 2 cR "read_numbers" (spReadNumbers K cR) f2 fd2 ps2) (M_read_rows : Mth P w K mg base 3 cR "read_rows" (spReadRows K cR) f3 fd3 ps3)
    (D_answer_call : Def P w K mg base 8 "answer_call" (spAnswer cC cP cB)) (t_HOW_MANY_NUMBERS : mg "HOW_MANY_NUMBERS" = some (.ref tN)) (t_HOW_MANY_ROWS : mg "HOW_MANY_ROWS" = some (.ref tR)) (qN : ∀ H, SqT K H tN (tabN.map V.int)) (qR : ∀ H, SqT K H tR (tabR.map V.int)) :
    FnOk P w K mg base CX0 9 f fd ps_answers (spAnswers K) := by
  refine F.ok sc_answers (fun vs H Q E h => ?_) (fun cdv A outer s H vs Q E hr h => ?_)
  · obtain ⟨a, l, rfl, _⟩ := h
    rfl
  · obtain ⟨a, l, rfl, hS, hl, hask, k⟩ := h
    refine ⟨_, (pss_cons (ps_set (i := 1) sc_answers.nd rfl (by first | exact Or.inl rfl | exact Or.inr rfl) (pe_new0 D_Board hr))
      (pss_cons (ps_set (i := 2) sc_answers.nd rfl (by first | exact Or.inl rfl | exact Or.inr rfl) (pe_new D_Reader hr (pa_cons (pv 0) pa_nil)))
      (pss_cons (ps_set (i := 3) sc_answers.nd rfl (by first | exact Or.inl rfl | exact Or.inr rfl) (pe_lst pa_nil))
      (pss_cons (ps_while PassesOwn.never (pt_not (pt_val (pe_mth0 M_at_end (pv 2) hr)))
      (pss_cons (ps_set (i := 4) sc_answers.nd rfl (by first | exact Or.inl rfl | exact Or.inr rfl) (pe_mth0 M_read_number (pv 2) hr))
      (pss_cons (ps_set (i := 5) sc_answers.nd rfl (by first | exact Or.inl rfl | exact Or.inr rfl) (pe_mth M_read_numbers (pv 2) hr (pa_cons (pe_ix ix_tup (pe_gref rfl t_HOW_MANY_NUMBERS) (pv 4) (fun _ _ => rfl)) pa_nil)))
      (pss_cons (ps_set (i := 6) sc_answers.nd rfl (by first | exact Or.inl rfl | exact Or.inr rfl) (pe_mth M_read_rows (pv 2) hr (pa_cons (pe_ix ix_tup (pe_gref rfl t_HOW_MANY_ROWS) (pv 4) (fun _ _ => rfl)) pa_nil)))
      (pss_cons (ps_set (i := 7) sc_answers.nd rfl (by first | exact Or.inl rfl | exact Or.inr rfl) (pe_def D_answer_call hr (pa_cons (pv 1) (pa_cons (pv 4) (pa_cons (pv 5) (pa_cons (pv 6) pa_nil))))))
      (pss_cons (ps_expr (pe_bm PySem.F.plainAttrs_list PySem.F.slot_list_append PySem.F.type_list_append mt_append (pv 3) (pa_cons (pe_callB call_lenL rfl T.b_len PySem.boot_len (pa_cons (pv 7) pa_nil)) pa_nil)))
      (pss_one (ps_expr (pe_bm PySem.F.plainAttrs_list PySem.F.slot_list_extend PySem.F.type_list_extend mt_extend (pv 3) (pa_cons (pv 7) pa_nil))))))))))
      (pss_one (ps_ret (pv 3))))))), ?_⟩
    obtain ⟨cs, rq, ea⟩ := req_of hask
    rw [ea] at k
    refine ⟨rfl, fun H1 b lc lp n1 n2 n3 s1 B1 => ?_⟩
    refine ⟨_, rfl, a, rfl, fun H2 x n4 s2 r2 => ?_⟩
    refine ⟨Nat.zero_le _, fun m hm => ?_⟩
    have S0 : Stands K cC cP cB cR H (upd H2 m (.lst [])) a b x m lc lp 0 Vbpcas.start [] := by
      have s12 := s1.trans s2
      have B2 := B1.same (s2.trans (same_new (o := .lst []) hm))
      obtain ⟨db, hb⟩ := (B1.same s2).at_
      obtain ⟨cs0, hc, _⟩ := (B1.same s2).chips
      obtain ⟨qs0, hp, _⟩ := (B1.same s2).paths
      obtain ⟨d, hx⟩ := r2
      exact ⟨s12.trans (same_new hm), n1, s1.free n4, s12.free hm, n2, n3, B2, ⟨d, same_new hm _ _ hx⟩, upd_same, Ne.symm (ne_of_none hc hm), Ne.symm (ne_of_none hp hm)⟩
    generalize upd H2 m (.lst []) = H3 at S0 ⊢
    refine ⟨fun n σ H' => ∃ (lc lp : Addr) (i fu : Nat) (s : Vbpcas.State) (tl : List Int) (ds : List (List (List Int))) (v4 v5 v6 v7 : Option V), σ = [some (.ref a), some (.ref b), some (.ref x), some (.ref m), v4, v5, v6, v7] ∧ Stands K cC cP cB cR H H' a b x m lc lp i s tl ∧ Good s ∧ i ≤ l.length ∧ PyFlat.calls PyVbpcas.shape fu (l.drop i) = some ds ∧ n = ds.length ∧ tl.length + 301 * ds.length ≤ 130000 ∧
        tl ++ PyFlat.told (PyFlat.played VbpcasNeutral.step s (ds.map PyVbpcas.whole)) = PyFlat.told (PyFlat.played VbpcasNeutral.step VbpcasNeutral.start (cs.map PyVbpcas.whole)), ⟨cs.length, lc, lp, 0, l.length, Vbpcas.start, [], cs, none, none, none, none, rfl, S0, good_start, Nat.zero_le _, rq.calls, rfl, by have := rq.len; simp; omega, rfl⟩, ?_⟩
    rintro n σ H4 ⟨lc, lp, i, fu, s, tl, ds, v4, v5, v6, v7, rfl, S, G, hi, hcalls, rfl, hlen, htot⟩
    obtain ⟨d, hx⟩ := id S.rd
    have hS4 := S.same.seq hS
    refine ⟨_, rfl, x, d, _, rfl, hx, reader_end _ _, x, a, i, l, rfl, ⟨d, hx⟩, hS4, _, rfl, ?_⟩
    by_cases e : i = l.length
    · rw [decide_eq_true e]
      refine iteF ?_
      rw [e, List.drop_length] at hcalls
      have e0 := calls_nil hcalls
      subst e0
      refine ⟨_, rfl, k _ _ ?_⟩
      have e1 : tl = PyFlat.told (PyFlat.played VbpcasNeutral.step VbpcasNeutral.start (cs.map PyVbpcas.whole)) := by
        rw [← htot]
        exact (List.append_nil _).symm
      rw [← e1]
      exact S.told
    · rw [decide_eq_false e]
      refine iteT ?_
      obtain ⟨p, hp⟩ : ∃ p, l[i]? = some p := ⟨_, List.getElem?_eq_getElem (by omega)⟩
      have ed : l.drop i = p :: l.drop (i + 1) := by
        have := List.drop_eq_getElem_cons (l := l) (i := i) (by omega)
        rw [this]
        congr 1
        rw [List.getElem?_eq_getElem (by omega)] at hp
        exact Option.some.inj hp
      rw [ed] at hcalls
      obtain ⟨g, c, t, ds', rfl, hcall, hrest, rfl⟩ := calls_cons hcalls
      obtain ⟨cn, ck, xs, hsh, hcn, hrows, rfl⟩ := call_is hcall
      obtain ⟨j, rfl, hj, tn, tr⟩ := shape_tab hsh
      obtain ⟨dd, hmade', hmade⟩ := call_form hsh (nums := (l.drop (i + 1)).take cn) (by rw [List.length_take]; omega) (rows_len hrows)
      have ck2 : ck ≤ 2 := by
        have := List.mem_of_getElem? tr
        simp [tabR] at this
        omega
      have dl : (l.drop (i + 1)).length = l.length - (i + 1) := List.length_drop
      refine ⟨fun σ' H' => ∃ (lc lp : Addr) (i fu : Nat) (s : Vbpcas.State) (tl : List Int) (v4 v5 v6 v7 : Option V), σ' = [some (.ref a), some (.ref b), some (.ref x), some (.ref m), v4, v5, v6, v7] ∧ Stands K cC cP cB cR H H' a b x m lc lp i s tl ∧ Good s ∧ i ≤ l.length ∧ PyFlat.calls PyVbpcas.shape fu (l.drop i) = some ds' ∧ tl.length + 301 * ds'.length ≤ 130000 ∧ tl ++ PyFlat.told (PyFlat.played VbpcasNeutral.step s (ds'.map PyVbpcas.whole)) = PyFlat.told (PyFlat.played VbpcasNeutral.step VbpcasNeutral.start (cs.map PyVbpcas.whole)), ?_, ?_⟩
      · rintro σ' H' ⟨lc, lp, i, fu, s, tl, v4, v5, v6, v7, rfl, S, G, hi, hc, hlen, htot⟩
        exact ⟨ds'.length, Nat.lt_succ_self _, lc, lp, i, fu, s, tl, ds', v4, v5, v6, v7, rfl, S, G, hi, hc, rfl, hlen, htot⟩
      refine ⟨_, rfl, x, d, _, rfl, hx, reader_no _ _, x, a, i, l, _, rfl, ⟨d, hx⟩, hS4, hp, fun H5 bt5 r5 => ?_⟩
      have S5 := S.read bt5 r5
      obtain ⟨d5, hx5⟩ := id r5
      refine ⟨_, rfl, x, d5, _, rfl, hx5, reader_nos _ _, _, rfl, tN, _, _, _, rfl, rfl, qN _, atI_nat (by rw [List.getElem?_map, tn]; rfl), x, a, i + 1, l, cn, rfl, r5, S5.same.seq hS, by omega, hl, fun H6 pn bt6 hpn r6 hn6 => ?_⟩
      have S6 := S5.read bt6 r6
      obtain ⟨d6, hx6⟩ := id r6
      refine ⟨_, rfl, x, d6, _, rfl, hx6, reader_rows _ _, _, rfl, tR, _, _, _, rfl, rfl, qR _, atI_nat (by rw [List.getElem?_map, tr]; rfl), x, a, i + 1 + cn, l, ck, xs, t, rfl, r6, S6.same.seq hS, by rw [← List.drop_drop]; exact hrows, by omega, hl, ck2, fun H7 pr i' bt7 hpr r7 hi7 et hr7 => ?_⟩
      have S7 := S6.read bt7 r7
      have hn7 : H7 pn = some (.lst (((l.drop (i + 1)).take cn).map V.int)) := bt7 _ _ (Ne.symm (ne_ins_lst hx6 hn6)) hn6
      refine ⟨_, rfl, _, rfl, _, rfl, _, rfl, b, lc, lp, s, (j : Int), pn, pr, _, xs, dd, rfl, hmade', hn7, hr7, G, S7.board, fun H8 pa D8 => ?_⟩
      obtain ⟨lc', lp', S8, npm⟩ := S7.done D8
      have al := step_len G dd
      have hpa := D8.ans
      have lenT : tl.length ≤ 130000 - 301 := by simp at hlen; omega
      refine ⟨_, rfl, tyV_lst S8.told, _, rfl, pa, _, rfl, hpa, m, _, _, rfl, rfl, S8.told, by rw [List.length_map, sizeLine_eq]; omega, ?_⟩
      have S9 := S8.tell (more := [((Vbpcas.step s dd).2.length : Int)]) (xs := [V.int (((Vbpcas.step s dd).2.map V.int).length : Nat)]) (by rw [List.length_map]; rfl)
      have hpa9 : upd H8 m (.lst (tl.map V.int ++ [V.int (((Vbpcas.step s dd).2.map V.int).length : Nat)])) pa = some (.lst ((Vbpcas.step s dd).2.map V.int)) := by rw [upd_ne npm]; exact hpa
      generalize upd H8 m (.lst (tl.map V.int ++ [V.int (((Vbpcas.step s dd).2.map V.int).length : Nat)])) = H9 at S9 hpa9 ⊢
      refine ⟨_, rfl, tyV_lst S9.told, _, rfl, m, pa, _, _, rfl, rfl, S9.told, hpa9, by rw [List.length_map, List.length_map, List.length_append, sizeLine_eq]; show _ + 1 + _ ≤ _; omega, ?_⟩
      have S10 := S9.tell (more := (Vbpcas.step s dd).2) (xs := (Vbpcas.step s dd).2.map V.int) rfl
      refine ⟨lc', lp', i', g, (Vbpcas.step s dd).1, _, _, _, _, _, rfl, S10, good_step G dd, hi7, by rw [et]; exact hrest, ?_, ?_⟩
      · rw [List.length_append, List.length_append]
        simp only [List.length_cons, List.length_nil] at hlen ⊢
        omega
      · rw [← htot]
        have e2 : PyFlat.told (PyFlat.played VbpcasNeutral.step s (((((j : Int) :: (l.drop (i + 1)).take cn) :: xs) :: ds').map PyVbpcas.whole)) = (((Vbpcas.step s dd).2.length : Int) :: (Vbpcas.step s dd).2) ++ PyFlat.told (PyFlat.played VbpcasNeutral.step (Vbpcas.step s dd).1 (ds'.map PyVbpcas.whole)) := by
          have e3 := step_made (s := s) hmade
          rw [List.map_cons]
          generalize PyVbpcas.whole (((j : Int) :: (l.drop (i + 1)).take cn) :: xs) = c at e3 ⊢
          show (((VbpcasNeutral.step s c).2.length : Int) :: (VbpcasNeutral.step s c).2) ++ PyFlat.told (PyFlat.played VbpcasNeutral.step (VbpcasNeutral.step s c).1 (ds'.map PyVbpcas.whole)) = _
          rw [e3]
        rw [e2, List.append_assoc, List.append_assoc]
        rfl
end
end Ck

set_option Elab.async false
set_option linter.all false
set_option maxRecDepth 100000
set_option maxHeartbeats 4000000
namespace Ck
open PySem PySem.Spec PyProof.Rows L2
theorem arity1 {α : Type} {l : List α} (h : l.length = 1) : ∃ a, l = [a] := len1 h
theorem arity2 {α : Type} {l : List α} (h : l.length = 2) : ∃ a b, l = [a, b] := len2 h
theorem arity3 {α : Type} {l : List α} (h : l.length = 3) : ∃ a b c, l = [a, b, c] := len3 h
theorem arity4 {α : Type} {l : List α} (h : l.length = 4) : ∃ a b c d, l = [a, b, c, d] := len4 h
theorem arity5 {α : Type} {l : List α} (h : l.length = 5) : ∃ a b c d e, l = [a, b, c, d, e] := by
  obtain ⟨a, m, rfl, g⟩ := lenS h
  obtain ⟨b, c, d, e, rfl⟩ := len4 g
  exact ⟨a, b, c, d, e, rfl⟩
theorem arity6 {α : Type} {l : List α} (h : l.length = 6) : ∃ a b c d e f, l = [a, b, c, d, e, f] := by
  obtain ⟨a, m, rfl, g⟩ := lenS h
  obtain ⟨b, c, d, e, f, rfl⟩ := arity5 g
  exact ⟨a, b, c, d, e, f, rfl⟩
def FunAt (K : PySem.W.Frag) (x qual : Str) (st : Stmt) (f : Addr) : Prop := ∃ fd, Fun K x qual st f fd
theorem funAt_mk {K : PySem.W.Frag} {x qual : Str} {st : Stmt} {f : Addr} {oc : Value} {od an : Option Addr} {osl : Array (Option Value)} {kV doc pm cdv ct : Value} (l : K.lookup f = some ⟨oc, od, .func (PySem.W.fnOf x qual (defArgs st) (defBody st) (defScope st) .none kV doc pm an cdv ct), osl⟩)
    (c : PySem.W.codeIn K cdv qual = true) (k : PySem.W.keepIn K (.ref f) = true) : FunAt K x qual st f := ⟨_, fun_mk l c k⟩
def TabIn (K : PySem.W.Frag) (a : Addr) (l : List Int) : Prop := ∃ (o : Obj) (its : Array Value) (n : Nat), K.lookup a = some o ∧ o.cls = .type "tuple" ∧ o.data = .seq its n ∧ its.size ≤ sizeLine ∧ Vals (l.map V.int) its.toList
theorem tabIn_mk {K : PySem.W.Frag} {a : Addr} {l : List Int} {o : Obj} {its : Array Value} {n : Nat} (h : K.lookup a = some o) (h1 : o.cls = .type "tuple") (h2 : o.data = .seq its n) (h3 : its.size ≤ sizeLine) (h4 : Vals (l.map V.int) its.toList) : TabIn K a l := ⟨o, its, n, h, h1, h2, h3, h4⟩
theorem all_mk {P : Program} {w : World} {K : PySem.W.Frag} {h : Heap} {mg : Str → Option Value} {fa : Addr} (X : K.In h) (G : h.Ns mainGlobals mg) (hfa : mg "answers" = some (.ref fa))
    {cC f_Chip_init cP f_Path_init cB f_Board_init cR f_Reader_init cU f_Rule_init f_Reader_at_end f_Reader_read_number f_Reader_read_numbers f_Reader_read_rows f_has_chip f_has_path f_fits f_is_margin f_is_period f_are_bounds f_are_delays f_set_margins f_add_chip f_add_path f_set_bounds f_set_delays f_take_away f_clear_all f_shift f_sums_at_goal f_with_one_more f_closes f_beginnings f_ways_on f_ring_from f_least_ring f_zero_of f_chip_rules f_path_rules f_rules_of f_what_is_left f_missed_rules f_told_rules f_turned f_lessen f_least_sums f_some_row_is_right f_feasible f_early f_late f_apart f_ring f_least f_reserve f_list_all f_refusal_of f_check f_slacks f_sooner f_later f_change f_look_at f_find f_compare f_answer_call f_answers tN tR : Addr} {t_NO_CHIP t_OUT_OF_RANGE t_WRONG_LENGTH t_FULL t_NO_PATH t_NO_ROW t_NO_PERIOD t_MOST_CHIPS t_MOST_PATHS t_GREATEST_TIME t_GREATEST_PERIOD t_KIND_HI t_KIND_LO t_KIND_SETUP t_KIND_HOLD t_MARGINS t_CHIP t_PATH t_BOUND t_DELAY t_AWAY t_CLEAR t_LIST t_CHECK t_SLACKS t_FEASIBLE t_EARLY t_LATE t_APART t_RING t_LEAST t_RESERVE t_SOONER t_SHIFT : Tok}
    (n_Chip : PySem.W.nsIn K mainGlobals "Chip" = some (some (.ref cC)))
    (i_Chip : PySem.W.findIn K (.ref cC) "__init__" = some (some (.ref f_Chip_init)))
    (F_Chip_init : FunAt K "__init__" "Chip.__init__" s_Chip_init f_Chip_init)
    (k1_Chip : PySem.W.plainGet K cC Str.empty = true)
    (k2_Chip : PySem.W.hasDictIn K cC = true)
    (k3_Chip : PySem.W.plainOver K cC = true)
    (k4_Chip : PySem.W.findIn K (.ref cC) "__setattr__" = some (some (.builtin "object.__setattr__")))
    (m1_Chip : PySem.W.makesIn K cC = true)
    (m2_Chip : PySem.W.isFn K (.ref f_Chip_init) = true)
    (m3_Chip : PySem.W.keepIn K (.ref cC) = true)
    (a_Chip_lo : PySem.W.findIn K (.ref cC) "lo" = some none)
    (a_Chip_hi : PySem.W.findIn K (.ref cC) "hi" = some none)
    (n_Path : PySem.W.nsIn K mainGlobals "Path" = some (some (.ref cP)))
    (i_Path : PySem.W.findIn K (.ref cP) "__init__" = some (some (.ref f_Path_init)))
    (F_Path_init : FunAt K "__init__" "Path.__init__" s_Path_init f_Path_init)
    (k1_Path : PySem.W.plainGet K cP Str.empty = true)
    (k2_Path : PySem.W.hasDictIn K cP = true)
    (k3_Path : PySem.W.plainOver K cP = true)
    (k4_Path : PySem.W.findIn K (.ref cP) "__setattr__" = some (some (.builtin "object.__setattr__")))
    (m1_Path : PySem.W.makesIn K cP = true)
    (m2_Path : PySem.W.isFn K (.ref f_Path_init) = true)
    (m3_Path : PySem.W.keepIn K (.ref cP) = true)
    (a_Path_i : PySem.W.findIn K (.ref cP) "i" = some none)
    (a_Path_j : PySem.W.findIn K (.ref cP) "j" = some none)
    (a_Path_d : PySem.W.findIn K (.ref cP) "d" = some none)
    (a_Path_e : PySem.W.findIn K (.ref cP) "e" = some none)
    (n_Board : PySem.W.nsIn K mainGlobals "Board" = some (some (.ref cB)))
    (i_Board : PySem.W.findIn K (.ref cB) "__init__" = some (some (.ref f_Board_init)))
    (F_Board_init : FunAt K "__init__" "Board.__init__" s_Board_init f_Board_init)
    (k1_Board : PySem.W.plainGet K cB Str.empty = true)
    (k2_Board : PySem.W.hasDictIn K cB = true)
    (k3_Board : PySem.W.plainOver K cB = true)
    (k4_Board : PySem.W.findIn K (.ref cB) "__setattr__" = some (some (.builtin "object.__setattr__")))
    (m1_Board : PySem.W.makesIn K cB = true)
    (m2_Board : PySem.W.isFn K (.ref f_Board_init) = true)
    (m3_Board : PySem.W.keepIn K (.ref cB) = true)
    (a_Board_setup : PySem.W.findIn K (.ref cB) "setup" = some none)
    (a_Board_hold : PySem.W.findIn K (.ref cB) "hold" = some none)
    (a_Board_chips : PySem.W.findIn K (.ref cB) "chips" = some none)
    (a_Board_paths : PySem.W.findIn K (.ref cB) "paths" = some none)
    (n_Reader : PySem.W.nsIn K mainGlobals "Reader" = some (some (.ref cR)))
    (i_Reader : PySem.W.findIn K (.ref cR) "__init__" = some (some (.ref f_Reader_init)))
    (F_Reader_init : FunAt K "__init__" "Reader.__init__" s_Reader_init f_Reader_init)
    (k1_Reader : PySem.W.plainGet K cR Str.empty = true)
    (k2_Reader : PySem.W.hasDictIn K cR = true)
    (k3_Reader : PySem.W.plainOver K cR = true)
    (k4_Reader : PySem.W.findIn K (.ref cR) "__setattr__" = some (some (.builtin "object.__setattr__")))
    (m1_Reader : PySem.W.makesIn K cR = true)
    (m2_Reader : PySem.W.isFn K (.ref f_Reader_init) = true)
    (m3_Reader : PySem.W.keepIn K (.ref cR) = true)
    (a_Reader_calls : PySem.W.findIn K (.ref cR) "calls" = some none)
    (a_Reader_place : PySem.W.findIn K (.ref cR) "place" = some none)
    (n_Rule : PySem.W.nsIn K mainGlobals "Rule" = some (some (.ref cU)))
    (i_Rule : PySem.W.findIn K (.ref cU) "__init__" = some (some (.ref f_Rule_init)))
    (F_Rule_init : FunAt K "__init__" "Rule.__init__" s_Rule_init f_Rule_init)
    (k1_Rule : PySem.W.plainGet K cU Str.empty = true)
    (k2_Rule : PySem.W.hasDictIn K cU = true)
    (k3_Rule : PySem.W.plainOver K cU = true)
    (k4_Rule : PySem.W.findIn K (.ref cU) "__setattr__" = some (some (.builtin "object.__setattr__")))
    (m1_Rule : PySem.W.makesIn K cU = true)
    (m2_Rule : PySem.W.isFn K (.ref f_Rule_init) = true)
    (m3_Rule : PySem.W.keepIn K (.ref cU) = true)
    (a_Rule_kind : PySem.W.findIn K (.ref cU) "kind" = some none)
    (a_Rule_number : PySem.W.findIn K (.ref cU) "number" = some none)
    (a_Rule_begin : PySem.W.findIn K (.ref cU) "begin" = some none)
    (a_Rule_end : PySem.W.findIn K (.ref cU) "end" = some none)
    (a_Rule_bound : PySem.W.findIn K (.ref cU) "bound" = some none)
    (r1_at_end : PySem.W.findIn K (.ref cR) "at_end" = some (some (.ref f_Reader_at_end)))
    (r2_at_end : PySem.W.isFn K (.ref f_Reader_at_end) = true)
    (F_Reader_at_end : FunAt K "at_end" "Reader.at_end" s_Reader_at_end f_Reader_at_end)
    (r1_read_number : PySem.W.findIn K (.ref cR) "read_number" = some (some (.ref f_Reader_read_number)))
    (r2_read_number : PySem.W.isFn K (.ref f_Reader_read_number) = true)
    (F_Reader_read_number : FunAt K "read_number" "Reader.read_number" s_Reader_read_number f_Reader_read_number)
    (r1_read_numbers : PySem.W.findIn K (.ref cR) "read_numbers" = some (some (.ref f_Reader_read_numbers)))
    (r2_read_numbers : PySem.W.isFn K (.ref f_Reader_read_numbers) = true)
    (F_Reader_read_numbers : FunAt K "read_numbers" "Reader.read_numbers" s_Reader_read_numbers f_Reader_read_numbers)
    (r1_read_rows : PySem.W.findIn K (.ref cR) "read_rows" = some (some (.ref f_Reader_read_rows)))
    (r2_read_rows : PySem.W.isFn K (.ref f_Reader_read_rows) = true)
    (F_Reader_read_rows : FunAt K "read_rows" "Reader.read_rows" s_Reader_read_rows f_Reader_read_rows)
    (n_has_chip : PySem.W.nsIn K mainGlobals "has_chip" = some (some (.ref f_has_chip)))
    (F_has_chip : FunAt K "has_chip" "has_chip" s_has_chip f_has_chip)
    (n_has_path : PySem.W.nsIn K mainGlobals "has_path" = some (some (.ref f_has_path)))
    (F_has_path : FunAt K "has_path" "has_path" s_has_path f_has_path)
    (n_fits : PySem.W.nsIn K mainGlobals "fits" = some (some (.ref f_fits)))
    (F_fits : FunAt K "fits" "fits" s_fits f_fits)
    (n_is_margin : PySem.W.nsIn K mainGlobals "is_margin" = some (some (.ref f_is_margin)))
    (F_is_margin : FunAt K "is_margin" "is_margin" s_is_margin f_is_margin)
    (n_is_period : PySem.W.nsIn K mainGlobals "is_period" = some (some (.ref f_is_period)))
    (F_is_period : FunAt K "is_period" "is_period" s_is_period f_is_period)
    (n_are_bounds : PySem.W.nsIn K mainGlobals "are_bounds" = some (some (.ref f_are_bounds)))
    (F_are_bounds : FunAt K "are_bounds" "are_bounds" s_are_bounds f_are_bounds)
    (n_are_delays : PySem.W.nsIn K mainGlobals "are_delays" = some (some (.ref f_are_delays)))
    (F_are_delays : FunAt K "are_delays" "are_delays" s_are_delays f_are_delays)
    (n_set_margins : PySem.W.nsIn K mainGlobals "set_margins" = some (some (.ref f_set_margins)))
    (F_set_margins : FunAt K "set_margins" "set_margins" s_set_margins f_set_margins)
    (n_add_chip : PySem.W.nsIn K mainGlobals "add_chip" = some (some (.ref f_add_chip)))
    (F_add_chip : FunAt K "add_chip" "add_chip" s_add_chip f_add_chip)
    (n_add_path : PySem.W.nsIn K mainGlobals "add_path" = some (some (.ref f_add_path)))
    (F_add_path : FunAt K "add_path" "add_path" s_add_path f_add_path)
    (n_set_bounds : PySem.W.nsIn K mainGlobals "set_bounds" = some (some (.ref f_set_bounds)))
    (F_set_bounds : FunAt K "set_bounds" "set_bounds" s_set_bounds f_set_bounds)
    (n_set_delays : PySem.W.nsIn K mainGlobals "set_delays" = some (some (.ref f_set_delays)))
    (F_set_delays : FunAt K "set_delays" "set_delays" s_set_delays f_set_delays)
    (n_take_away : PySem.W.nsIn K mainGlobals "take_away" = some (some (.ref f_take_away)))
    (F_take_away : FunAt K "take_away" "take_away" s_take_away f_take_away)
    (n_clear_all : PySem.W.nsIn K mainGlobals "clear_all" = some (some (.ref f_clear_all)))
    (F_clear_all : FunAt K "clear_all" "clear_all" s_clear_all f_clear_all)
    (n_shift : PySem.W.nsIn K mainGlobals "shift" = some (some (.ref f_shift)))
    (F_shift : FunAt K "shift" "shift" s_shift f_shift)
    (n_sums_at_goal : PySem.W.nsIn K mainGlobals "sums_at_goal" = some (some (.ref f_sums_at_goal)))
    (F_sums_at_goal : FunAt K "sums_at_goal" "sums_at_goal" s_sums_at_goal f_sums_at_goal)
    (n_with_one_more : PySem.W.nsIn K mainGlobals "with_one_more" = some (some (.ref f_with_one_more)))
    (F_with_one_more : FunAt K "with_one_more" "with_one_more" s_with_one_more f_with_one_more)
    (n_closes : PySem.W.nsIn K mainGlobals "closes" = some (some (.ref f_closes)))
    (F_closes : FunAt K "closes" "closes" s_closes f_closes)
    (n_beginnings : PySem.W.nsIn K mainGlobals "beginnings" = some (some (.ref f_beginnings)))
    (F_beginnings : FunAt K "beginnings" "beginnings" s_beginnings f_beginnings)
    (n_ways_on : PySem.W.nsIn K mainGlobals "ways_on" = some (some (.ref f_ways_on)))
    (F_ways_on : FunAt K "ways_on" "ways_on" s_ways_on f_ways_on)
    (n_ring_from : PySem.W.nsIn K mainGlobals "ring_from" = some (some (.ref f_ring_from)))
    (F_ring_from : FunAt K "ring_from" "ring_from" s_ring_from f_ring_from)
    (n_least_ring : PySem.W.nsIn K mainGlobals "least_ring" = some (some (.ref f_least_ring)))
    (F_least_ring : FunAt K "least_ring" "least_ring" s_least_ring f_least_ring)
    (n_zero_of : PySem.W.nsIn K mainGlobals "zero_of" = some (some (.ref f_zero_of)))
    (F_zero_of : FunAt K "zero_of" "zero_of" s_zero_of f_zero_of)
    (n_chip_rules : PySem.W.nsIn K mainGlobals "chip_rules" = some (some (.ref f_chip_rules)))
    (F_chip_rules : FunAt K "chip_rules" "chip_rules" s_chip_rules f_chip_rules)
    (n_path_rules : PySem.W.nsIn K mainGlobals "path_rules" = some (some (.ref f_path_rules)))
    (F_path_rules : FunAt K "path_rules" "path_rules" s_path_rules f_path_rules)
    (n_rules_of : PySem.W.nsIn K mainGlobals "rules_of" = some (some (.ref f_rules_of)))
    (F_rules_of : FunAt K "rules_of" "rules_of" s_rules_of f_rules_of)
    (n_what_is_left : PySem.W.nsIn K mainGlobals "what_is_left" = some (some (.ref f_what_is_left)))
    (F_what_is_left : FunAt K "what_is_left" "what_is_left" s_what_is_left f_what_is_left)
    (n_missed_rules : PySem.W.nsIn K mainGlobals "missed_rules" = some (some (.ref f_missed_rules)))
    (F_missed_rules : FunAt K "missed_rules" "missed_rules" s_missed_rules f_missed_rules)
    (n_told_rules : PySem.W.nsIn K mainGlobals "told_rules" = some (some (.ref f_told_rules)))
    (F_told_rules : FunAt K "told_rules" "told_rules" s_told_rules f_told_rules)
    (n_turned : PySem.W.nsIn K mainGlobals "turned" = some (some (.ref f_turned)))
    (F_turned : FunAt K "turned" "turned" s_turned f_turned)
    (n_lessen : PySem.W.nsIn K mainGlobals "lessen" = some (some (.ref f_lessen)))
    (F_lessen : FunAt K "lessen" "lessen" s_lessen f_lessen)
    (n_least_sums : PySem.W.nsIn K mainGlobals "least_sums" = some (some (.ref f_least_sums)))
    (F_least_sums : FunAt K "least_sums" "least_sums" s_least_sums f_least_sums)
    (n_some_row_is_right : PySem.W.nsIn K mainGlobals "some_row_is_right" = some (some (.ref f_some_row_is_right)))
    (F_some_row_is_right : FunAt K "some_row_is_right" "some_row_is_right" s_some_row_is_right f_some_row_is_right)
    (n_feasible : PySem.W.nsIn K mainGlobals "feasible" = some (some (.ref f_feasible)))
    (F_feasible : FunAt K "feasible" "feasible" s_feasible f_feasible)
    (n_early : PySem.W.nsIn K mainGlobals "early" = some (some (.ref f_early)))
    (F_early : FunAt K "early" "early" s_early f_early)
    (n_late : PySem.W.nsIn K mainGlobals "late" = some (some (.ref f_late)))
    (F_late : FunAt K "late" "late" s_late f_late)
    (n_apart : PySem.W.nsIn K mainGlobals "apart" = some (some (.ref f_apart)))
    (F_apart : FunAt K "apart" "apart" s_apart f_apart)
    (n_ring : PySem.W.nsIn K mainGlobals "ring" = some (some (.ref f_ring)))
    (F_ring : FunAt K "ring" "ring" s_ring f_ring)
    (n_least : PySem.W.nsIn K mainGlobals "least" = some (some (.ref f_least)))
    (F_least : FunAt K "least" "least" s_least f_least)
    (n_reserve : PySem.W.nsIn K mainGlobals "reserve" = some (some (.ref f_reserve)))
    (F_reserve : FunAt K "reserve" "reserve" s_reserve f_reserve)
    (n_list_all : PySem.W.nsIn K mainGlobals "list_all" = some (some (.ref f_list_all)))
    (F_list_all : FunAt K "list_all" "list_all" s_list_all f_list_all)
    (n_refusal_of : PySem.W.nsIn K mainGlobals "refusal_of" = some (some (.ref f_refusal_of)))
    (F_refusal_of : FunAt K "refusal_of" "refusal_of" s_refusal_of f_refusal_of)
    (n_check : PySem.W.nsIn K mainGlobals "check" = some (some (.ref f_check)))
    (F_check : FunAt K "check" "check" s_check f_check)
    (n_slacks : PySem.W.nsIn K mainGlobals "slacks" = some (some (.ref f_slacks)))
    (F_slacks : FunAt K "slacks" "slacks" s_slacks f_slacks)
    (n_sooner : PySem.W.nsIn K mainGlobals "sooner" = some (some (.ref f_sooner)))
    (F_sooner : FunAt K "sooner" "sooner" s_sooner f_sooner)
    (n_later : PySem.W.nsIn K mainGlobals "later" = some (some (.ref f_later)))
    (F_later : FunAt K "later" "later" s_later f_later)
    (n_change : PySem.W.nsIn K mainGlobals "change" = some (some (.ref f_change)))
    (F_change : FunAt K "change" "change" s_change f_change)
    (n_look_at : PySem.W.nsIn K mainGlobals "look_at" = some (some (.ref f_look_at)))
    (F_look_at : FunAt K "look_at" "look_at" s_look_at f_look_at)
    (n_find : PySem.W.nsIn K mainGlobals "find" = some (some (.ref f_find)))
    (F_find : FunAt K "find" "find" s_find f_find)
    (n_compare : PySem.W.nsIn K mainGlobals "compare" = some (some (.ref f_compare)))
    (F_compare : FunAt K "compare" "compare" s_compare f_compare)
    (n_answer_call : PySem.W.nsIn K mainGlobals "answer_call" = some (some (.ref f_answer_call)))
    (F_answer_call : FunAt K "answer_call" "answer_call" s_answer_call f_answer_call)
    (n_answers : PySem.W.nsIn K mainGlobals "answers" = some (some (.ref f_answers)))
    (F_answers : FunAt K "answers" "answers" s_answers f_answers)
    (c_NO_CHIP : PySem.W.nsIn K mainGlobals "NO_CHIP" = some (some (.int (-1) t_NO_CHIP)))
    (c_OUT_OF_RANGE : PySem.W.nsIn K mainGlobals "OUT_OF_RANGE" = some (some (.int (-2) t_OUT_OF_RANGE)))
    (c_WRONG_LENGTH : PySem.W.nsIn K mainGlobals "WRONG_LENGTH" = some (some (.int (-3) t_WRONG_LENGTH)))
    (c_FULL : PySem.W.nsIn K mainGlobals "FULL" = some (some (.int (-4) t_FULL)))
    (c_NO_PATH : PySem.W.nsIn K mainGlobals "NO_PATH" = some (some (.int (-5) t_NO_PATH)))
    (c_NO_ROW : PySem.W.nsIn K mainGlobals "NO_ROW" = some (some (.int (-8) t_NO_ROW)))
    (c_NO_PERIOD : PySem.W.nsIn K mainGlobals "NO_PERIOD" = some (some (.int (-9) t_NO_PERIOD)))
    (c_MOST_CHIPS : PySem.W.nsIn K mainGlobals "MOST_CHIPS" = some (some (.int (16) t_MOST_CHIPS)))
    (c_MOST_PATHS : PySem.W.nsIn K mainGlobals "MOST_PATHS" = some (some (.int (48) t_MOST_PATHS)))
    (c_GREATEST_TIME : PySem.W.nsIn K mainGlobals "GREATEST_TIME" = some (some (.int (100000000) t_GREATEST_TIME)))
    (c_GREATEST_PERIOD : PySem.W.nsIn K mainGlobals "GREATEST_PERIOD" = some (some (.int (2000000000) t_GREATEST_PERIOD)))
    (c_KIND_HI : PySem.W.nsIn K mainGlobals "KIND_HI" = some (some (.int (0) t_KIND_HI)))
    (c_KIND_LO : PySem.W.nsIn K mainGlobals "KIND_LO" = some (some (.int (1) t_KIND_LO)))
    (c_KIND_SETUP : PySem.W.nsIn K mainGlobals "KIND_SETUP" = some (some (.int (2) t_KIND_SETUP)))
    (c_KIND_HOLD : PySem.W.nsIn K mainGlobals "KIND_HOLD" = some (some (.int (3) t_KIND_HOLD)))
    (c_MARGINS : PySem.W.nsIn K mainGlobals "MARGINS" = some (some (.int (0) t_MARGINS)))
    (c_CHIP : PySem.W.nsIn K mainGlobals "CHIP" = some (some (.int (1) t_CHIP)))
    (c_PATH : PySem.W.nsIn K mainGlobals "PATH" = some (some (.int (2) t_PATH)))
    (c_BOUND : PySem.W.nsIn K mainGlobals "BOUND" = some (some (.int (3) t_BOUND)))
    (c_DELAY : PySem.W.nsIn K mainGlobals "DELAY" = some (some (.int (4) t_DELAY)))
    (c_AWAY : PySem.W.nsIn K mainGlobals "AWAY" = some (some (.int (5) t_AWAY)))
    (c_CLEAR : PySem.W.nsIn K mainGlobals "CLEAR" = some (some (.int (6) t_CLEAR)))
    (c_LIST : PySem.W.nsIn K mainGlobals "LIST" = some (some (.int (7) t_LIST)))
    (c_CHECK : PySem.W.nsIn K mainGlobals "CHECK" = some (some (.int (8) t_CHECK)))
    (c_SLACKS : PySem.W.nsIn K mainGlobals "SLACKS" = some (some (.int (9) t_SLACKS)))
    (c_FEASIBLE : PySem.W.nsIn K mainGlobals "FEASIBLE" = some (some (.int (10) t_FEASIBLE)))
    (c_EARLY : PySem.W.nsIn K mainGlobals "EARLY" = some (some (.int (11) t_EARLY)))
    (c_LATE : PySem.W.nsIn K mainGlobals "LATE" = some (some (.int (12) t_LATE)))
    (c_APART : PySem.W.nsIn K mainGlobals "APART" = some (some (.int (13) t_APART)))
    (c_RING : PySem.W.nsIn K mainGlobals "RING" = some (some (.int (14) t_RING)))
    (c_LEAST : PySem.W.nsIn K mainGlobals "LEAST" = some (some (.int (15) t_LEAST)))
    (c_RESERVE : PySem.W.nsIn K mainGlobals "RESERVE" = some (some (.int (16) t_RESERVE)))
    (c_SOONER : PySem.W.nsIn K mainGlobals "SOONER" = some (some (.int (17) t_SOONER)))
    (c_SHIFT : PySem.W.nsIn K mainGlobals "SHIFT" = some (some (.int (19) t_SHIFT)))
    (b_len : PySem.W.nsIn K mainGlobals "len" = some none)
    (b_range : PySem.W.nsIn K mainGlobals "range" = some none)
    (b_enumerate : PySem.W.nsIn K mainGlobals "enumerate" = some none)
    (b_zip : PySem.W.nsIn K mainGlobals "zip" = some none)
    (b_reversed : PySem.W.nsIn K mainGlobals "reversed" = some none)
    (b_min : PySem.W.nsIn K mainGlobals "min" = some none)
    (b_max : PySem.W.nsIn K mainGlobals "max" = some none)
    (b_sum : PySem.W.nsIn K mainGlobals "sum" = some none)
    (b_all : PySem.W.nsIn K mainGlobals "all" = some none)
    (n_HOW_MANY_NUMBERS : PySem.W.nsIn K mainGlobals "HOW_MANY_NUMBERS" = some (some (.ref tN)))
    (q_HOW_MANY_NUMBERS : TabIn K tN tabN)
    (n_HOW_MANY_ROWS : PySem.W.nsIn K mainGlobals "HOW_MANY_ROWS" = some (some (.ref tR)))
    (q_HOW_MANY_ROWS : TabIn K tR tabR)
    : ∃ fd : FuncData, (∀ (s : Shared) (us : List Value), us.length = (["calls"] : List Str).length → BindsTo s fd ⟨us, []⟩ ((["calls"] : List Str).zip us)) ∧ ∀ base : Heap, K.In base → base.Ns mainGlobals mg → FnOk P w K mg base CX0 9 fa fd ["calls"] (spAnswers K) := by
  have e := hfa.symm.trans (PySem.W.mg_of X G n_answers)
  cases e
  obtain ⟨fd_Chip_init, F_Chip_init⟩ := F_Chip_init
  obtain ⟨fd_Path_init, F_Path_init⟩ := F_Path_init
  obtain ⟨fd_Board_init, F_Board_init⟩ := F_Board_init
  obtain ⟨fd_Reader_init, F_Reader_init⟩ := F_Reader_init
  obtain ⟨fd_Rule_init, F_Rule_init⟩ := F_Rule_init
  obtain ⟨fd_Reader_at_end, F_Reader_at_end⟩ := F_Reader_at_end
  obtain ⟨fd_Reader_read_number, F_Reader_read_number⟩ := F_Reader_read_number
  obtain ⟨fd_Reader_read_numbers, F_Reader_read_numbers⟩ := F_Reader_read_numbers
  obtain ⟨fd_Reader_read_rows, F_Reader_read_rows⟩ := F_Reader_read_rows
  obtain ⟨fd_has_chip, F_has_chip⟩ := F_has_chip
  obtain ⟨fd_has_path, F_has_path⟩ := F_has_path
  obtain ⟨fd_fits, F_fits⟩ := F_fits
  obtain ⟨fd_is_margin, F_is_margin⟩ := F_is_margin
  obtain ⟨fd_is_period, F_is_period⟩ := F_is_period
  obtain ⟨fd_are_bounds, F_are_bounds⟩ := F_are_bounds
  obtain ⟨fd_are_delays, F_are_delays⟩ := F_are_delays
  obtain ⟨fd_set_margins, F_set_margins⟩ := F_set_margins
  obtain ⟨fd_add_chip, F_add_chip⟩ := F_add_chip
  obtain ⟨fd_add_path, F_add_path⟩ := F_add_path
  obtain ⟨fd_set_bounds, F_set_bounds⟩ := F_set_bounds
  obtain ⟨fd_set_delays, F_set_delays⟩ := F_set_delays
  obtain ⟨fd_take_away, F_take_away⟩ := F_take_away
  obtain ⟨fd_clear_all, F_clear_all⟩ := F_clear_all
  obtain ⟨fd_shift, F_shift⟩ := F_shift
  obtain ⟨fd_sums_at_goal, F_sums_at_goal⟩ := F_sums_at_goal
  obtain ⟨fd_with_one_more, F_with_one_more⟩ := F_with_one_more
  obtain ⟨fd_closes, F_closes⟩ := F_closes
  obtain ⟨fd_beginnings, F_beginnings⟩ := F_beginnings
  obtain ⟨fd_ways_on, F_ways_on⟩ := F_ways_on
  obtain ⟨fd_ring_from, F_ring_from⟩ := F_ring_from
  obtain ⟨fd_least_ring, F_least_ring⟩ := F_least_ring
  obtain ⟨fd_zero_of, F_zero_of⟩ := F_zero_of
  obtain ⟨fd_chip_rules, F_chip_rules⟩ := F_chip_rules
  obtain ⟨fd_path_rules, F_path_rules⟩ := F_path_rules
  obtain ⟨fd_rules_of, F_rules_of⟩ := F_rules_of
  obtain ⟨fd_what_is_left, F_what_is_left⟩ := F_what_is_left
  obtain ⟨fd_missed_rules, F_missed_rules⟩ := F_missed_rules
  obtain ⟨fd_told_rules, F_told_rules⟩ := F_told_rules
  obtain ⟨fd_turned, F_turned⟩ := F_turned
  obtain ⟨fd_lessen, F_lessen⟩ := F_lessen
  obtain ⟨fd_least_sums, F_least_sums⟩ := F_least_sums
  obtain ⟨fd_some_row_is_right, F_some_row_is_right⟩ := F_some_row_is_right
  obtain ⟨fd_feasible, F_feasible⟩ := F_feasible
  obtain ⟨fd_early, F_early⟩ := F_early
  obtain ⟨fd_late, F_late⟩ := F_late
  obtain ⟨fd_apart, F_apart⟩ := F_apart
  obtain ⟨fd_ring, F_ring⟩ := F_ring
  obtain ⟨fd_least, F_least⟩ := F_least
  obtain ⟨fd_reserve, F_reserve⟩ := F_reserve
  obtain ⟨fd_list_all, F_list_all⟩ := F_list_all
  obtain ⟨fd_refusal_of, F_refusal_of⟩ := F_refusal_of
  obtain ⟨fd_check, F_check⟩ := F_check
  obtain ⟨fd_slacks, F_slacks⟩ := F_slacks
  obtain ⟨fd_sooner, F_sooner⟩ := F_sooner
  obtain ⟨fd_later, F_later⟩ := F_later
  obtain ⟨fd_change, F_change⟩ := F_change
  obtain ⟨fd_look_at, F_look_at⟩ := F_look_at
  obtain ⟨fd_find, F_find⟩ := F_find
  obtain ⟨fd_compare, F_compare⟩ := F_compare
  obtain ⟨fd_answer_call, F_answer_call⟩ := F_answer_call
  obtain ⟨fd_answers, F_answers⟩ := F_answers
  have T : Txt K mg cC cP cB cR cU := {
    clC := ⟨k1_Chip, k2_Chip, k3_Chip, k4_Chip⟩
    lo := a_Chip_lo
    hi := a_Chip_hi
    clP := ⟨k1_Path, k2_Path, k3_Path, k4_Path⟩
    i := a_Path_i
    j := a_Path_j
    d := a_Path_d
    e := a_Path_e
    clB := ⟨k1_Board, k2_Board, k3_Board, k4_Board⟩
    setup := a_Board_setup
    hold := a_Board_hold
    chips := a_Board_chips
    paths := a_Board_paths
    clR := ⟨k1_Reader, k2_Reader, k3_Reader, k4_Reader⟩
    calls := a_Reader_calls
    place := a_Reader_place
    clU := ⟨k1_Rule, k2_Rule, k3_Rule, k4_Rule⟩
    kind := a_Rule_kind
    number := a_Rule_number
    begin_ := a_Rule_begin
    end_ := a_Rule_end
    bound := a_Rule_bound
    b_len := PySem.W.mg_none_of X G b_len
    b_range := PySem.W.mg_none_of X G b_range
    b_enumerate := PySem.W.mg_none_of X G b_enumerate
    b_zip := PySem.W.mg_none_of X G b_zip
    b_reversed := PySem.W.mg_none_of X G b_reversed
    b_min := PySem.W.mg_none_of X G b_min
    b_max := PySem.W.mg_none_of X G b_max
    b_sum := PySem.W.mg_none_of X G b_sum
    b_all := PySem.W.mg_none_of X G b_all
    c_NO_CHIP := ⟨_, PySem.W.mg_of X G c_NO_CHIP⟩
    c_OUT_OF_RANGE := ⟨_, PySem.W.mg_of X G c_OUT_OF_RANGE⟩
    c_WRONG_LENGTH := ⟨_, PySem.W.mg_of X G c_WRONG_LENGTH⟩
    c_FULL := ⟨_, PySem.W.mg_of X G c_FULL⟩
    c_NO_PATH := ⟨_, PySem.W.mg_of X G c_NO_PATH⟩
    c_NO_ROW := ⟨_, PySem.W.mg_of X G c_NO_ROW⟩
    c_NO_PERIOD := ⟨_, PySem.W.mg_of X G c_NO_PERIOD⟩
    c_MOST_CHIPS := ⟨_, PySem.W.mg_of X G c_MOST_CHIPS⟩
    c_MOST_PATHS := ⟨_, PySem.W.mg_of X G c_MOST_PATHS⟩
    c_GREATEST_TIME := ⟨_, PySem.W.mg_of X G c_GREATEST_TIME⟩
    c_GREATEST_PERIOD := ⟨_, PySem.W.mg_of X G c_GREATEST_PERIOD⟩
    c_KIND_HI := ⟨_, PySem.W.mg_of X G c_KIND_HI⟩
    c_KIND_LO := ⟨_, PySem.W.mg_of X G c_KIND_LO⟩
    c_KIND_SETUP := ⟨_, PySem.W.mg_of X G c_KIND_SETUP⟩
    c_KIND_HOLD := ⟨_, PySem.W.mg_of X G c_KIND_HOLD⟩
    c_MARGINS := ⟨_, PySem.W.mg_of X G c_MARGINS⟩
    c_CHIP := ⟨_, PySem.W.mg_of X G c_CHIP⟩
    c_PATH := ⟨_, PySem.W.mg_of X G c_PATH⟩
    c_BOUND := ⟨_, PySem.W.mg_of X G c_BOUND⟩
    c_DELAY := ⟨_, PySem.W.mg_of X G c_DELAY⟩
    c_AWAY := ⟨_, PySem.W.mg_of X G c_AWAY⟩
    c_CLEAR := ⟨_, PySem.W.mg_of X G c_CLEAR⟩
    c_LIST := ⟨_, PySem.W.mg_of X G c_LIST⟩
    c_CHECK := ⟨_, PySem.W.mg_of X G c_CHECK⟩
    c_SLACKS := ⟨_, PySem.W.mg_of X G c_SLACKS⟩
    c_FEASIBLE := ⟨_, PySem.W.mg_of X G c_FEASIBLE⟩
    c_EARLY := ⟨_, PySem.W.mg_of X G c_EARLY⟩
    c_LATE := ⟨_, PySem.W.mg_of X G c_LATE⟩
    c_APART := ⟨_, PySem.W.mg_of X G c_APART⟩
    c_RING := ⟨_, PySem.W.mg_of X G c_RING⟩
    c_LEAST := ⟨_, PySem.W.mg_of X G c_LEAST⟩
    c_RESERVE := ⟨_, PySem.W.mg_of X G c_RESERVE⟩
    c_SOONER := ⟨_, PySem.W.mg_of X G c_SOONER⟩
    c_SHIFT := ⟨_, PySem.W.mg_of X G c_SHIFT⟩
  }
  obtain ⟨oc, od, kV, doc, pm, an, cdv, ct, osl, rfl, lk, hcd⟩ := id F_answers.ex
  refine ⟨PySem.W.fnOf "answers" "answers" (defArgs s_answers) (defBody s_answers) (defScope s_answers) .none kV doc pm an cdv ct, fun s us hu => match us, hu with | [_], _ => .of_eq rfl, fun base _ _ => ?_⟩
  have D_Chip : New P w K mg base 1 "Chip" (spChip cC) := new_chip F_Chip_init T ⟨m1_Chip, i_Chip, m2_Chip, m3_Chip⟩ (PySem.W.mg_of X G n_Chip) (F_Chip_init.binds (ps := ps_Chip_init) (fun _ _ _ _ _ _ us hl => by obtain ⟨u0, u1, u2, rfl⟩ := arity3 hl; rfl))
  have D_Path : New P w K mg base 1 "Path" (spPath cP) := new_path F_Path_init T ⟨m1_Path, i_Path, m2_Path, m3_Path⟩ (PySem.W.mg_of X G n_Path) (F_Path_init.binds (ps := ps_Path_init) (fun _ _ _ _ _ _ us hl => by obtain ⟨u0, u1, u2, u3, u4, rfl⟩ := arity5 hl; rfl))
  have D_Board : New P w K mg base 1 "Board" (spBoard cC cP cB) := new_board F_Board_init T ⟨m1_Board, i_Board, m2_Board, m3_Board⟩ (PySem.W.mg_of X G n_Board) (F_Board_init.binds (ps := ps_Board_init) (fun _ _ _ _ _ _ us hl => by obtain ⟨u0, rfl⟩ := arity1 hl; rfl))
  have D_Reader : New P w K mg base 1 "Reader" (spReader cR) := new_reader F_Reader_init T ⟨m1_Reader, i_Reader, m2_Reader, m3_Reader⟩ (PySem.W.mg_of X G n_Reader) (F_Reader_init.binds (ps := ps_Reader_init) (fun _ _ _ _ _ _ us hl => by obtain ⟨u0, u1, rfl⟩ := arity2 hl; rfl))
  have D_Rule : New P w K mg base 1 "Rule" (spRule cU) := new_rule F_Rule_init T ⟨m1_Rule, i_Rule, m2_Rule, m3_Rule⟩ (PySem.W.mg_of X G n_Rule) (F_Rule_init.binds (ps := ps_Rule_init) (fun _ _ _ _ _ _ us hl => by obtain ⟨u0, u1, u2, u3, u4, u5, rfl⟩ := arity6 hl; rfl))
  have M_at_end : Mth P w K mg base 1 cR "at_end" (spAtEnd K cR) f_Reader_at_end fd_Reader_at_end ps_Reader_at_end := ⟨T.clR, ⟨r1_at_end, r2_at_end, F_Reader_at_end.kp⟩, ok_Reader_at_end F_Reader_at_end T, F_Reader_at_end.binds (fun _ _ _ _ _ _ us hl => by obtain ⟨u0, rfl⟩ := arity1 hl; rfl)⟩
  have M_read_number : Mth P w K mg base 1 cR "read_number" (spReadNumber K cR) f_Reader_read_number fd_Reader_read_number ps_Reader_read_number := ⟨T.clR, ⟨r1_read_number, r2_read_number, F_Reader_read_number.kp⟩, ok_Reader_read_number F_Reader_read_number T, F_Reader_read_number.binds (fun _ _ _ _ _ _ us hl => by obtain ⟨u0, rfl⟩ := arity1 hl; rfl)⟩
  have M_read_numbers : Mth P w K mg base 2 cR "read_numbers" (spReadNumbers K cR) f_Reader_read_numbers fd_Reader_read_numbers ps_Reader_read_numbers := ⟨T.clR, ⟨r1_read_numbers, r2_read_numbers, F_Reader_read_numbers.kp⟩, ok_Reader_read_numbers F_Reader_read_numbers T M_read_number, F_Reader_read_numbers.binds (fun _ _ _ _ _ _ us hl => by obtain ⟨u0, u1, rfl⟩ := arity2 hl; rfl)⟩
  have M_read_rows : Mth P w K mg base 3 cR "read_rows" (spReadRows K cR) f_Reader_read_rows fd_Reader_read_rows ps_Reader_read_rows := ⟨T.clR, ⟨r1_read_rows, r2_read_rows, F_Reader_read_rows.kp⟩, ok_Reader_read_rows F_Reader_read_rows T M_read_number M_read_numbers, F_Reader_read_rows.binds (fun _ _ _ _ _ _ us hl => by obtain ⟨u0, u1, rfl⟩ := arity2 hl; rfl)⟩
  have D_has_chip : Def P w K mg base 1 "has_chip" (spHasChip cC cP cB) := ⟨f_has_chip, fd_has_chip, ps_has_chip, ok_has_chip F_has_chip T , PySem.W.mg_of X G n_has_chip, F_has_chip.kp, F_has_chip.binds (fun _ _ _ _ _ _ us hl => by obtain ⟨u0, u1, rfl⟩ := arity2 hl; rfl)⟩
  have D_has_path : Def P w K mg base 1 "has_path" (spHasPath cC cP cB) := ⟨f_has_path, fd_has_path, ps_has_path, ok_has_path F_has_path T , PySem.W.mg_of X G n_has_path, F_has_path.kp, F_has_path.binds (fun _ _ _ _ _ _ us hl => by obtain ⟨u0, u1, rfl⟩ := arity2 hl; rfl)⟩
  have D_fits : Def P w K mg base 1 "fits" (spFits cC cP cB) := ⟨f_fits, fd_fits, ps_fits, ok_fits F_fits T , PySem.W.mg_of X G n_fits, F_fits.kp, F_fits.binds (fun _ _ _ _ _ _ us hl => by obtain ⟨u0, u1, rfl⟩ := arity2 hl; rfl)⟩
  have D_is_margin : Def P w K mg base 1 "is_margin" (spMargin) := ⟨f_is_margin, fd_is_margin, ps_is_margin, ok_is_margin F_is_margin T , PySem.W.mg_of X G n_is_margin, F_is_margin.kp, F_is_margin.binds (fun _ _ _ _ _ _ us hl => by obtain ⟨u0, rfl⟩ := arity1 hl; rfl)⟩
  have D_is_period : Def P w K mg base 1 "is_period" (spPeriod) := ⟨f_is_period, fd_is_period, ps_is_period, ok_is_period F_is_period T , PySem.W.mg_of X G n_is_period, F_is_period.kp, F_is_period.binds (fun _ _ _ _ _ _ us hl => by obtain ⟨u0, rfl⟩ := arity1 hl; rfl)⟩
  have D_are_bounds : Def P w K mg base 1 "are_bounds" (spBounds) := ⟨f_are_bounds, fd_are_bounds, ps_are_bounds, ok_are_bounds F_are_bounds T , PySem.W.mg_of X G n_are_bounds, F_are_bounds.kp, F_are_bounds.binds (fun _ _ _ _ _ _ us hl => by obtain ⟨u0, u1, rfl⟩ := arity2 hl; rfl)⟩
  have D_are_delays : Def P w K mg base 1 "are_delays" (spDelays) := ⟨f_are_delays, fd_are_delays, ps_are_delays, ok_are_delays F_are_delays T , PySem.W.mg_of X G n_are_delays, F_are_delays.kp, F_are_delays.binds (fun _ _ _ _ _ _ us hl => by obtain ⟨u0, u1, rfl⟩ := arity2 hl; rfl)⟩
  have D_set_margins : Def P w K mg base 2 "set_margins" (spDo cC cP cB isMargins) := ⟨f_set_margins, fd_set_margins, ps_set_margins, ok_set_margins F_set_margins T D_is_margin, PySem.W.mg_of X G n_set_margins, F_set_margins.kp, F_set_margins.binds (fun _ _ _ _ _ _ us hl => by obtain ⟨u0, u1, u2, rfl⟩ := arity3 hl; rfl)⟩
  have D_add_chip : Def P w K mg base 3 "add_chip" (spDo cC cP cB isChip) := ⟨f_add_chip, fd_add_chip, ps_add_chip, ok_add_chip F_add_chip T D_are_bounds D_Chip, PySem.W.mg_of X G n_add_chip, F_add_chip.kp, F_add_chip.binds (fun _ _ _ _ _ _ us hl => by obtain ⟨u0, u1, u2, rfl⟩ := arity3 hl; rfl)⟩
  have D_add_path : Def P w K mg base 3 "add_path" (spDo cC cP cB isPath) := ⟨f_add_path, fd_add_path, ps_add_path, ok_add_path F_add_path T D_has_chip D_are_delays D_Path, PySem.W.mg_of X G n_add_path, F_add_path.kp, F_add_path.binds (fun _ _ _ _ _ _ us hl => by obtain ⟨u0, u1, u2, u3, u4, rfl⟩ := arity5 hl; rfl)⟩
  have D_set_bounds : Def P w K mg base 3 "set_bounds" (spDo cC cP cB isBound) := ⟨f_set_bounds, fd_set_bounds, ps_set_bounds, ok_set_bounds F_set_bounds T D_has_chip D_are_bounds D_Chip, PySem.W.mg_of X G n_set_bounds, F_set_bounds.kp, F_set_bounds.binds (fun _ _ _ _ _ _ us hl => by obtain ⟨u0, u1, u2, u3, rfl⟩ := arity4 hl; rfl)⟩
  have D_set_delays : Def P w K mg base 3 "set_delays" (spDo cC cP cB isDelay) := ⟨f_set_delays, fd_set_delays, ps_set_delays, ok_set_delays F_set_delays T D_has_path D_are_delays D_Path, PySem.W.mg_of X G n_set_delays, F_set_delays.kp, F_set_delays.binds (fun _ _ _ _ _ _ us hl => by obtain ⟨u0, u1, u2, u3, rfl⟩ := arity4 hl; rfl)⟩
  have D_take_away : Def P w K mg base 2 "take_away" (spDo cC cP cB isAway) := ⟨f_take_away, fd_take_away, ps_take_away, ok_take_away F_take_away T D_has_path, PySem.W.mg_of X G n_take_away, F_take_away.kp, F_take_away.binds (fun _ _ _ _ _ _ us hl => by obtain ⟨u0, u1, rfl⟩ := arity2 hl; rfl)⟩
  have D_clear_all : Def P w K mg base 1 "clear_all" (spDo cC cP cB isClear) := ⟨f_clear_all, fd_clear_all, ps_clear_all, ok_clear_all F_clear_all T , PySem.W.mg_of X G n_clear_all, F_clear_all.kp, F_clear_all.binds (fun _ _ _ _ _ _ us hl => by obtain ⟨u0, rfl⟩ := arity1 hl; rfl)⟩
  have D_shift : Def P w K mg base 3 "shift" (spDo cC cP cB isShift) := ⟨f_shift, fd_shift, ps_shift, ok_shift F_shift T D_are_bounds D_Chip, PySem.W.mg_of X G n_shift, F_shift.kp, F_shift.binds (fun _ _ _ _ _ _ us hl => by obtain ⟨u0, u1, rfl⟩ := arity2 hl; rfl)⟩
  have D_sums_at_goal : Def P w K mg base 1 "sums_at_goal" (spAtGoal) := ⟨f_sums_at_goal, fd_sums_at_goal, ps_sums_at_goal, ok_sums_at_goal F_sums_at_goal T , PySem.W.mg_of X G n_sums_at_goal, F_sums_at_goal.kp, F_sums_at_goal.binds (fun _ _ _ _ _ _ us hl => by obtain ⟨u0, u1, rfl⟩ := arity2 hl; rfl)⟩
  have D_with_one_more : Def P w K mg base 1 "with_one_more" (spMore cU) := ⟨f_with_one_more, fd_with_one_more, ps_with_one_more, ok_with_one_more F_with_one_more T , PySem.W.mg_of X G n_with_one_more, F_with_one_more.kp, F_with_one_more.binds (fun _ _ _ _ _ _ us hl => by obtain ⟨u0, u1, rfl⟩ := arity2 hl; rfl)⟩
  have D_closes : Def P w K mg base 1 "closes" (spCloses cU) := ⟨f_closes, fd_closes, ps_closes, ok_closes F_closes T , PySem.W.mg_of X G n_closes, F_closes.kp, F_closes.binds (fun _ _ _ _ _ _ us hl => by obtain ⟨u0, u1, u2, rfl⟩ := arity3 hl; rfl)⟩
  have D_beginnings : Def P w K mg base 2 "beginnings" (spBeginnings cU) := ⟨f_beginnings, fd_beginnings, ps_beginnings, ok_beginnings F_beginnings T D_closes, PySem.W.mg_of X G n_beginnings, F_beginnings.kp, F_beginnings.binds (fun _ _ _ _ _ _ us hl => by obtain ⟨u0, u1, rfl⟩ := arity2 hl; rfl)⟩
  have D_ways_on : Def P w K mg base 2 "ways_on" (spWays cU) := ⟨f_ways_on, fd_ways_on, ps_ways_on, ok_ways_on F_ways_on T D_closes, PySem.W.mg_of X G n_ways_on, F_ways_on.kp, F_ways_on.binds (fun _ _ _ _ _ _ us hl => by obtain ⟨u0, u1, u2, u3, rfl⟩ := arity4 hl; rfl)⟩
  have D_ring_from : Def P w K mg base 3 "ring_from" (spRingFrom cU) := ⟨f_ring_from, fd_ring_from, ps_ring_from, ok_ring_from F_ring_from T D_ways_on, PySem.W.mg_of X G n_ring_from, F_ring_from.kp, F_ring_from.binds (fun _ _ _ _ _ _ us hl => by obtain ⟨u0, u1, u2, rfl⟩ := arity3 hl; rfl)⟩
  have D_least_ring : Def P w K mg base 4 "least_ring" (spLeastRing cU) := ⟨f_least_ring, fd_least_ring, ps_least_ring, ok_least_ring F_least_ring T D_sums_at_goal D_with_one_more D_beginnings D_ring_from, PySem.W.mg_of X G n_least_ring, F_least_ring.kp, F_least_ring.binds (fun _ _ _ _ _ _ us hl => by obtain ⟨u0, u1, rfl⟩ := arity2 hl; rfl)⟩
  have D_zero_of : Def P w K mg base 1 "zero_of" (spZero cC cP cB) := ⟨f_zero_of, fd_zero_of, ps_zero_of, ok_zero_of F_zero_of T , PySem.W.mg_of X G n_zero_of, F_zero_of.kp, F_zero_of.binds (fun _ _ _ _ _ _ us hl => by obtain ⟨u0, rfl⟩ := arity1 hl; rfl)⟩
  have D_chip_rules : Def P w K mg base 3 "chip_rules" (spChipRules cC cP cB cU) := ⟨f_chip_rules, fd_chip_rules, ps_chip_rules, ok_chip_rules F_chip_rules T D_zero_of D_Rule, PySem.W.mg_of X G n_chip_rules, F_chip_rules.kp, F_chip_rules.binds (fun _ _ _ _ _ _ us hl => by obtain ⟨u0, rfl⟩ := arity1 hl; rfl)⟩
  have D_path_rules : Def P w K mg base 3 "path_rules" (spPathRules cC cP cB cU) := ⟨f_path_rules, fd_path_rules, ps_path_rules, ok_path_rules F_path_rules T D_Rule, PySem.W.mg_of X G n_path_rules, F_path_rules.kp, F_path_rules.binds (fun _ _ _ _ _ _ us hl => by obtain ⟨u0, u1, u2, rfl⟩ := arity3 hl; rfl)⟩
  have D_rules_of : Def P w K mg base 4 "rules_of" (spRulesOf cC cP cB cU) := ⟨f_rules_of, fd_rules_of, ps_rules_of, ok_rules_of F_rules_of T D_chip_rules D_path_rules, PySem.W.mg_of X G n_rules_of, F_rules_of.kp, F_rules_of.binds (fun _ _ _ _ _ _ us hl => by obtain ⟨u0, u1, u2, rfl⟩ := arity3 hl; rfl)⟩
  have D_what_is_left : Def P w K mg base 1 "what_is_left" (spLeft cU) := ⟨f_what_is_left, fd_what_is_left, ps_what_is_left, ok_what_is_left F_what_is_left T , PySem.W.mg_of X G n_what_is_left, F_what_is_left.kp, F_what_is_left.binds (fun _ _ _ _ _ _ us hl => by obtain ⟨u0, u1, rfl⟩ := arity2 hl; rfl)⟩
  have D_missed_rules : Def P w K mg base 2 "missed_rules" (spMissed cU) := ⟨f_missed_rules, fd_missed_rules, ps_missed_rules, ok_missed_rules F_missed_rules T D_what_is_left, PySem.W.mg_of X G n_missed_rules, F_missed_rules.kp, F_missed_rules.binds (fun _ _ _ _ _ _ us hl => by obtain ⟨u0, u1, rfl⟩ := arity2 hl; rfl)⟩
  have D_told_rules : Def P w K mg base 1 "told_rules" (spTold cU) := ⟨f_told_rules, fd_told_rules, ps_told_rules, ok_told_rules F_told_rules T , PySem.W.mg_of X G n_told_rules, F_told_rules.kp, F_told_rules.binds (fun _ _ _ _ _ _ us hl => by obtain ⟨u0, rfl⟩ := arity1 hl; rfl)⟩
  have D_turned : Def P w K mg base 3 "turned" (spTurned cU) := ⟨f_turned, fd_turned, ps_turned, ok_turned F_turned T D_Rule, PySem.W.mg_of X G n_turned, F_turned.kp, F_turned.binds (fun _ _ _ _ _ _ us hl => by obtain ⟨u0, rfl⟩ := arity1 hl; rfl)⟩
  have D_lessen : Def P w K mg base 1 "lessen" (spLessen cU) := ⟨f_lessen, fd_lessen, ps_lessen, ok_lessen F_lessen T , PySem.W.mg_of X G n_lessen, F_lessen.kp, F_lessen.binds (fun _ _ _ _ _ _ us hl => by obtain ⟨u0, u1, rfl⟩ := arity2 hl; rfl)⟩
  have D_least_sums : Def P w K mg base 2 "least_sums" (spLeastSums cU) := ⟨f_least_sums, fd_least_sums, ps_least_sums, ok_least_sums F_least_sums T D_lessen, PySem.W.mg_of X G n_least_sums, F_least_sums.kp, F_least_sums.binds (fun _ _ _ _ _ _ us hl => by obtain ⟨u0, u1, u2, rfl⟩ := arity3 hl; rfl)⟩
  have D_some_row_is_right : Def P w K mg base 5 "some_row_is_right" (spSome cC cP cB) := ⟨f_some_row_is_right, fd_some_row_is_right, ps_some_row_is_right, ok_some_row_is_right F_some_row_is_right T D_zero_of D_rules_of D_least_sums, PySem.W.mg_of X G n_some_row_is_right, F_some_row_is_right.kp, F_some_row_is_right.binds (fun _ _ _ _ _ _ us hl => by obtain ⟨u0, u1, u2, rfl⟩ := arity3 hl; rfl)⟩
  have D_feasible : Def P w K mg base 6 "feasible" (spDo cC cP cB isFeasible) := ⟨f_feasible, fd_feasible, ps_feasible, ok_feasible F_feasible T D_is_period D_some_row_is_right, PySem.W.mg_of X G n_feasible, F_feasible.kp, F_feasible.binds (fun _ _ _ _ _ _ us hl => by obtain ⟨u0, u1, rfl⟩ := arity2 hl; rfl)⟩
  have D_early : Def P w K mg base 6 "early" (spDo cC cP cB isEarly) := ⟨f_early, fd_early, ps_early, ok_early F_early T D_is_period D_zero_of D_rules_of D_turned D_least_sums, PySem.W.mg_of X G n_early, F_early.kp, F_early.binds (fun _ _ _ _ _ _ us hl => by obtain ⟨u0, u1, rfl⟩ := arity2 hl; rfl)⟩
  have D_late : Def P w K mg base 6 "late" (spDo cC cP cB isLate) := ⟨f_late, fd_late, ps_late, ok_late F_late T D_is_period D_zero_of D_rules_of D_least_sums, PySem.W.mg_of X G n_late, F_late.kp, F_late.binds (fun _ _ _ _ _ _ us hl => by obtain ⟨u0, u1, rfl⟩ := arity2 hl; rfl)⟩
  have D_apart : Def P w K mg base 6 "apart" (spDo cC cP cB isApart) := ⟨f_apart, fd_apart, ps_apart, ok_apart F_apart T D_is_period D_has_chip D_zero_of D_rules_of D_least_sums, PySem.W.mg_of X G n_apart, F_apart.kp, F_apart.binds (fun _ _ _ _ _ _ us hl => by obtain ⟨u0, u1, u2, u3, rfl⟩ := arity4 hl; rfl)⟩
  have D_ring : Def P w K mg base 6 "ring" (spDo cC cP cB isRing) := ⟨f_ring, fd_ring, ps_ring, ok_ring F_ring T D_is_period D_zero_of D_rules_of D_least_ring D_told_rules, PySem.W.mg_of X G n_ring, F_ring.kp, F_ring.binds (fun _ _ _ _ _ _ us hl => by obtain ⟨u0, u1, rfl⟩ := arity2 hl; rfl)⟩
  have D_least : Def P w K mg base 6 "least" (spDo cC cP cB isLeast) := ⟨f_least, fd_least, ps_least, ok_least F_least T D_some_row_is_right, PySem.W.mg_of X G n_least, F_least.kp, F_least.binds (fun _ _ _ _ _ _ us hl => by obtain ⟨u0, rfl⟩ := arity1 hl; rfl)⟩
  have D_reserve : Def P w K mg base 6 "reserve" (spDo cC cP cB isReserve) := ⟨f_reserve, fd_reserve, ps_reserve, ok_reserve F_reserve T D_is_period D_is_margin D_some_row_is_right, PySem.W.mg_of X G n_reserve, F_reserve.kp, F_reserve.binds (fun _ _ _ _ _ _ us hl => by obtain ⟨u0, u1, u2, rfl⟩ := arity3 hl; rfl)⟩
  have D_list_all : Def P w K mg base 1 "list_all" (spDo cC cP cB isList) := ⟨f_list_all, fd_list_all, ps_list_all, ok_list_all F_list_all T , PySem.W.mg_of X G n_list_all, F_list_all.kp, F_list_all.binds (fun _ _ _ _ _ _ us hl => by obtain ⟨u0, rfl⟩ := arity1 hl; rfl)⟩
  have D_refusal_of : Def P w K mg base 2 "refusal_of" (spRefusal cC cP cB) := ⟨f_refusal_of, fd_refusal_of, ps_refusal_of, ok_refusal_of F_refusal_of T D_is_period D_fits, PySem.W.mg_of X G n_refusal_of, F_refusal_of.kp, F_refusal_of.binds (fun _ _ _ _ _ _ us hl => by obtain ⟨u0, u1, u2, rfl⟩ := arity3 hl; rfl)⟩
  have D_check : Def P w K mg base 5 "check" (spDoR cC cP cB .check) := ⟨f_check, fd_check, ps_check, ok_check F_check T D_refusal_of D_rules_of D_missed_rules D_told_rules, PySem.W.mg_of X G n_check, F_check.kp, F_check.binds (fun _ _ _ _ _ _ us hl => by obtain ⟨u0, u1, u2, rfl⟩ := arity3 hl; rfl)⟩
  have D_slacks : Def P w K mg base 5 "slacks" (spDoR cC cP cB .slacks) := ⟨f_slacks, fd_slacks, ps_slacks, ok_slacks F_slacks T D_refusal_of D_path_rules D_what_is_left, PySem.W.mg_of X G n_slacks, F_slacks.kp, F_slacks.binds (fun _ _ _ _ _ _ us hl => by obtain ⟨u0, u1, u2, rfl⟩ := arity3 hl; rfl)⟩
  have D_sooner : Def P w K mg base 2 "sooner" (spTwo cC cP cB .sooner) := ⟨f_sooner, fd_sooner, ps_sooner, ok_sooner F_sooner T D_fits, PySem.W.mg_of X G n_sooner, F_sooner.kp, F_sooner.binds (fun _ _ _ _ _ _ us hl => by obtain ⟨u0, u1, u2, rfl⟩ := arity3 hl; rfl)⟩
  have D_later : Def P w K mg base 2 "later" (spTwo cC cP cB .later) := ⟨f_later, fd_later, ps_later, ok_later F_later T D_fits, PySem.W.mg_of X G n_later, F_later.kp, F_later.binds (fun _ _ _ _ _ _ us hl => by obtain ⟨u0, u1, u2, rfl⟩ := arity3 hl; rfl)⟩
  have D_change : Def P w K mg base 4 "change" (spChange cC cP cB chForm) := ⟨f_change, fd_change, ps_change, ok_change F_change T D_set_margins D_add_chip D_add_path D_set_bounds D_set_delays D_take_away D_clear_all D_shift, PySem.W.mg_of X G n_change, F_change.kp, F_change.binds (fun _ _ _ _ _ _ us hl => by obtain ⟨u0, u1, u2, rfl⟩ := arity3 hl; rfl)⟩
  have D_look_at : Def P w K mg base 6 "look_at" (spLook cC cP cB) := ⟨f_look_at, fd_look_at, ps_look_at, ok_look_at F_look_at T D_list_all D_check D_slacks, PySem.W.mg_of X G n_look_at, F_look_at.kp, F_look_at.binds (fun _ _ _ _ _ _ us hl => by obtain ⟨u0, u1, u2, u3, rfl⟩ := arity4 hl; rfl)⟩
  have D_find : Def P w K mg base 7 "find" (spChange cC cP cB fiForm) := ⟨f_find, fd_find, ps_find, ok_find F_find T D_feasible D_early D_late D_apart D_ring D_least D_reserve, PySem.W.mg_of X G n_find, F_find.kp, F_find.binds (fun _ _ _ _ _ _ us hl => by obtain ⟨u0, u1, u2, rfl⟩ := arity3 hl; rfl)⟩
  have D_compare : Def P w K mg base 3 "compare" (spCompare cC cP cB) := ⟨f_compare, fd_compare, ps_compare, ok_compare F_compare T D_sooner D_later, PySem.W.mg_of X G n_compare, F_compare.kp, F_compare.binds (fun _ _ _ _ _ _ us hl => by obtain ⟨u0, u1, u2, rfl⟩ := arity3 hl; rfl)⟩
  have D_answer_call : Def P w K mg base 8 "answer_call" (spAnswer cC cP cB) := ⟨f_answer_call, fd_answer_call, ps_answer_call, ok_answer_call F_answer_call T D_change D_look_at D_find D_compare, PySem.W.mg_of X G n_answer_call, F_answer_call.kp, F_answer_call.binds (fun _ _ _ _ _ _ us hl => by obtain ⟨u0, u1, u2, u3, rfl⟩ := arity4 hl; rfl)⟩
  exact ok_answers F_answers T D_Board D_Reader M_at_end M_read_number M_read_numbers M_read_rows D_answer_call (PySem.W.mg_of X G n_HOW_MANY_NUMBERS) (PySem.W.mg_of X G n_HOW_MANY_ROWS) (fun _ => .inr q_HOW_MANY_NUMBERS) (fun _ => .inr q_HOW_MANY_ROWS)
end Ck

def PySem.W.Fast.tw3754118637975526549 : Unit := ()
def PySem.W.Fast.tw883863398481592060 : Unit := ()
def PySem.W.Fast.tw8142278326974808404 : Unit := ()
def PySem.W.Fast.tw10648169824185217913 : Unit := ()
def PySem.W.Fast.tw2635395273497151920 : Unit := ()
def PySem.W.Fast.tw14386254490024726630 : Unit := ()
def PySem.W.Fast.tw17569214597245916446 : Unit := ()
def PySem.W.Fast.tw53616943492777481 : Unit := ()
def PySem.W.Fast.tw2578876132353390190 : Unit := ()
def PySem.W.Fast.tw2220564233097766236 : Unit := ()
def PySem.W.Fast.tw13086594260579133887 : Unit := ()
def PySem.W.Fast.tw9168532873068345188 : Unit := ()
def PySem.W.Fast.tw8225811976140007613 : Unit := ()
def PySem.W.Fast.tw17903227262995874019 : Unit := ()
def PySem.W.Fast.tw8430246694450711262 : Unit := ()
def PySem.W.Fast.tw953784012923241315 : Unit := ()
def PySem.W.Fast.tw15874908814904161517 : Unit := ()
def PySem.W.Fast.tw15846304283065781412 : Unit := ()
def PySem.W.Fast.tw7126434917189744674 : Unit := ()
def PySem.W.Fast.tw8447304576563744733 : Unit := ()
def PySem.W.Fast.tw17379735601527727285 : Unit := ()
def PySem.W.Fast.tw1213477947855565882 : Unit := ()
def PySem.W.Fast.tw11297227851413556333 : Unit := ()
def PySem.W.Fast.tw4815822174931048130 : Unit := ()
def PySem.W.Fast.tw17116056460354341045 : Unit := ()
open PySem PySem.W PyProof.Rows
set_option Elab.async false
set_option maxRecDepth 100000
set_option maxHeartbeats 0
theorem PySem.Challenge.cw_clocktimes_s01_answers_holds : PySem.Challenge.rw_clocktimes_s01_answers.Holds := by
  w_on; k_headS; (case hw => exact ⟨[.list [.int 6]], by decide +kernel, by decide +kernel⟩)
  k_fillS
  refine L2.walk_specK (r := PySem.Challenge.rw_clocktimes_s01_answers) (k := 9) (CX := L2.CX0) (ps := ["calls"]) (sp := Ck.spAnswers) (by decide +kernel) rfl rfl ⟨rfl, by decide, by decide⟩ (fun w h Y => PySem.W.kIn_of Y) ?F ?S (fun _ _ _ _ z => z)
  case F =>
    intro w mg fa h Y KX G hmg
    refine' Ck.all_mk KX G hmg ?n_Chip ?i_Chip ?F_Chip_init ?k1_Chip ?k2_Chip ?k3_Chip ?k4_Chip ?m1_Chip ?m2_Chip ?m3_Chip ?a_Chip_lo ?a_Chip_hi ?n_Path ?i_Path ?F_Path_init ?k1_Path ?k2_Path ?k3_Path ?k4_Path ?m1_Path ?m2_Path ?m3_Path ?a_Path_i ?a_Path_j ?a_Path_d ?a_Path_e ?n_Board ?i_Board ?F_Board_init ?k1_Board ?k2_Board ?k3_Board ?k4_Board ?m1_Board ?m2_Board ?m3_Board ?a_Board_setup ?a_Board_hold ?a_Board_chips ?a_Board_paths ?n_Reader ?i_Reader ?F_Reader_init ?k1_Reader ?k2_Reader ?k3_Reader ?k4_Reader ?m1_Reader ?m2_Reader ?m3_Reader ?a_Reader_calls ?a_Reader_place ?n_Rule ?i_Rule ?F_Rule_init ?k1_Rule ?k2_Rule ?k3_Rule ?k4_Rule ?m1_Rule ?m2_Rule ?m3_Rule ?a_Rule_kind ?a_Rule_number ?a_Rule_begin ?a_Rule_end ?a_Rule_bound ?r1_at_end ?r2_at_end ?F_Reader_at_end ?r1_read_number ?r2_read_number ?F_Reader_read_number ?r1_read_numbers ?r2_read_numbers ?F_Reader_read_numbers ?r1_read_rows ?r2_read_rows ?F_Reader_read_rows ?n_has_chip ?F_has_chip ?n_has_path ?F_has_path ?n_fits ?F_fits ?n_is_margin ?F_is_margin ?n_is_period ?F_is_period ?n_are_bounds ?F_are_bounds ?n_are_delays ?F_are_delays ?n_set_margins ?F_set_margins ?n_add_chip ?F_add_chip ?n_add_path ?F_add_path ?n_set_bounds ?F_set_bounds ?n_set_delays ?F_set_delays ?n_take_away ?F_take_away ?n_clear_all ?F_clear_all ?n_shift ?F_shift ?n_sums_at_goal ?F_sums_at_goal ?n_with_one_more ?F_with_one_more ?n_closes ?F_closes ?n_beginnings ?F_beginnings ?n_ways_on ?F_ways_on ?n_ring_from ?F_ring_from ?n_least_ring ?F_least_ring ?n_zero_of ?F_zero_of ?n_chip_rules ?F_chip_rules ?n_path_rules ?F_path_rules ?n_rules_of ?F_rules_of ?n_what_is_left ?F_what_is_left ?n_missed_rules ?F_missed_rules ?n_told_rules ?F_told_rules ?n_turned ?F_turned ?n_lessen ?F_lessen ?n_least_sums ?F_least_sums ?n_some_row_is_right ?F_some_row_is_right ?n_feasible ?F_feasible ?n_early ?F_early ?n_late ?F_late ?n_apart ?F_apart ?n_ring ?F_ring ?n_least ?F_least ?n_reserve ?F_reserve ?n_list_all ?F_list_all ?n_refusal_of ?F_refusal_of ?n_check ?F_check ?n_slacks ?F_slacks ?n_sooner ?F_sooner ?n_later ?F_later ?n_change ?F_change ?n_look_at ?F_look_at ?n_find ?F_find ?n_compare ?F_compare ?n_answer_call ?F_answer_call ?n_answers ?F_answers ?c_NO_CHIP ?c_OUT_OF_RANGE ?c_WRONG_LENGTH ?c_FULL ?c_NO_PATH ?c_NO_ROW ?c_NO_PERIOD ?c_MOST_CHIPS ?c_MOST_PATHS ?c_GREATEST_TIME ?c_GREATEST_PERIOD ?c_KIND_HI ?c_KIND_LO ?c_KIND_SETUP ?c_KIND_HOLD ?c_MARGINS ?c_CHIP ?c_PATH ?c_BOUND ?c_DELAY ?c_AWAY ?c_CLEAR ?c_LIST ?c_CHECK ?c_SLACKS ?c_FEASIBLE ?c_EARLY ?c_LATE ?c_APART ?c_RING ?c_LEAST ?c_RESERVE ?c_SOONER ?c_SHIFT ?b_len ?b_range ?b_enumerate ?b_zip ?b_reversed ?b_min ?b_max ?b_sum ?b_all ?n_HOW_MANY_NUMBERS ?q_HOW_MANY_NUMBERS ?n_HOW_MANY_ROWS ?q_HOW_MANY_ROWS
    (case n_Chip => k_is)
    (case i_Chip => k_is)
    (case F_Chip_init => refine' Ck.funAt_mk ?l ?c ?k; (case l => k_is); (case c => k_is); (case k => k_is))
    (case k1_Chip => k_is)
    (case k2_Chip => k_is)
    (case k3_Chip => k_is)
    (case k4_Chip => k_is)
    (case m1_Chip => k_is)
    (case m2_Chip => k_is)
    (case m3_Chip => k_is)
    (case a_Chip_lo => k_is)
    (case a_Chip_hi => k_is)
    (case n_Path => k_is)
    (case i_Path => k_is)
    (case F_Path_init => refine' Ck.funAt_mk ?l ?c ?k; (case l => k_is); (case c => k_is); (case k => k_is))
    (case k1_Path => k_is)
    (case k2_Path => k_is)
    (case k3_Path => k_is)
    (case k4_Path => k_is)
    (case m1_Path => k_is)
    (case m2_Path => k_is)
    (case m3_Path => k_is)
    (case a_Path_i => k_is)
    (case a_Path_j => k_is)
    (case a_Path_d => k_is)
    (case a_Path_e => k_is)
    (case n_Board => k_is)
    (case i_Board => k_is)
    (case F_Board_init => refine' Ck.funAt_mk ?l ?c ?k; (case l => k_is); (case c => k_is); (case k => k_is))
    (case k1_Board => k_is)
    (case k2_Board => k_is)
    (case k3_Board => k_is)
    (case k4_Board => k_is)
    (case m1_Board => k_is)
    (case m2_Board => k_is)
    (case m3_Board => k_is)
    (case a_Board_setup => k_is)
    (case a_Board_hold => k_is)
    (case a_Board_chips => k_is)
    (case a_Board_paths => k_is)
    (case n_Reader => k_is)
    (case i_Reader => k_is)
    (case F_Reader_init => refine' Ck.funAt_mk ?l ?c ?k; (case l => k_is); (case c => k_is); (case k => k_is))
    (case k1_Reader => k_is)
    (case k2_Reader => k_is)
    (case k3_Reader => k_is)
    (case k4_Reader => k_is)
    (case m1_Reader => k_is)
    (case m2_Reader => k_is)
    (case m3_Reader => k_is)
    (case a_Reader_calls => k_is)
    (case a_Reader_place => k_is)
    (case n_Rule => k_is)
    (case i_Rule => k_is)
    (case F_Rule_init => refine' Ck.funAt_mk ?l ?c ?k; (case l => k_is); (case c => k_is); (case k => k_is))
    (case k1_Rule => k_is)
    (case k2_Rule => k_is)
    (case k3_Rule => k_is)
    (case k4_Rule => k_is)
    (case m1_Rule => k_is)
    (case m2_Rule => k_is)
    (case m3_Rule => k_is)
    (case a_Rule_kind => k_is)
    (case a_Rule_number => k_is)
    (case a_Rule_begin => k_is)
    (case a_Rule_end => k_is)
    (case a_Rule_bound => k_is)
    (case r1_at_end => k_is)
    (case r2_at_end => k_is)
    (case F_Reader_at_end => refine' Ck.funAt_mk ?l ?c ?k; (case l => k_is); (case c => k_is); (case k => k_is))
    (case r1_read_number => k_is)
    (case r2_read_number => k_is)
    (case F_Reader_read_number => refine' Ck.funAt_mk ?l ?c ?k; (case l => k_is); (case c => k_is); (case k => k_is))
    (case r1_read_numbers => k_is)
    (case r2_read_numbers => k_is)
    (case F_Reader_read_numbers => refine' Ck.funAt_mk ?l ?c ?k; (case l => k_is); (case c => k_is); (case k => k_is))
    (case r1_read_rows => k_is)
    (case r2_read_rows => k_is)
    (case F_Reader_read_rows => refine' Ck.funAt_mk ?l ?c ?k; (case l => k_is); (case c => k_is); (case k => k_is))
    (case n_has_chip => k_is)
    (case F_has_chip => refine' Ck.funAt_mk ?l ?c ?k; (case l => k_is); (case c => k_is); (case k => k_is))
    (case n_has_path => k_is)
    (case F_has_path => refine' Ck.funAt_mk ?l ?c ?k; (case l => k_is); (case c => k_is); (case k => k_is))
    (case n_fits => k_is)
    (case F_fits => refine' Ck.funAt_mk ?l ?c ?k; (case l => k_is); (case c => k_is); (case k => k_is))
    (case n_is_margin => k_is)
    (case F_is_margin => refine' Ck.funAt_mk ?l ?c ?k; (case l => k_is); (case c => k_is); (case k => k_is))
    (case n_is_period => k_is)
    (case F_is_period => refine' Ck.funAt_mk ?l ?c ?k; (case l => k_is); (case c => k_is); (case k => k_is))
    (case n_are_bounds => k_is)
    (case F_are_bounds => refine' Ck.funAt_mk ?l ?c ?k; (case l => k_is); (case c => k_is); (case k => k_is))
    (case n_are_delays => k_is)
    (case F_are_delays => refine' Ck.funAt_mk ?l ?c ?k; (case l => k_is); (case c => k_is); (case k => k_is))
    (case n_set_margins => k_is)
    (case F_set_margins => refine' Ck.funAt_mk ?l ?c ?k; (case l => k_is); (case c => k_is); (case k => k_is))
    (case n_add_chip => k_is)
    (case F_add_chip => refine' Ck.funAt_mk ?l ?c ?k; (case l => k_is); (case c => k_is); (case k => k_is))
    (case n_add_path => k_is)
    (case F_add_path => refine' Ck.funAt_mk ?l ?c ?k; (case l => k_is); (case c => k_is); (case k => k_is))
    (case n_set_bounds => k_is)
    (case F_set_bounds => refine' Ck.funAt_mk ?l ?c ?k; (case l => k_is); (case c => k_is); (case k => k_is))
    (case n_set_delays => k_is)
    (case F_set_delays => refine' Ck.funAt_mk ?l ?c ?k; (case l => k_is); (case c => k_is); (case k => k_is))
    (case n_take_away => k_is)
    (case F_take_away => refine' Ck.funAt_mk ?l ?c ?k; (case l => k_is); (case c => k_is); (case k => k_is))
    (case n_clear_all => k_is)
    (case F_clear_all => refine' Ck.funAt_mk ?l ?c ?k; (case l => k_is); (case c => k_is); (case k => k_is))
    (case n_shift => k_is)
    (case F_shift => refine' Ck.funAt_mk ?l ?c ?k; (case l => k_is); (case c => k_is); (case k => k_is))
    (case n_sums_at_goal => k_is)
    (case F_sums_at_goal => refine' Ck.funAt_mk ?l ?c ?k; (case l => k_is); (case c => k_is); (case k => k_is))
    (case n_with_one_more => k_is)
    (case F_with_one_more => refine' Ck.funAt_mk ?l ?c ?k; (case l => k_is); (case c => k_is); (case k => k_is))
    (case n_closes => k_is)
    (case F_closes => refine' Ck.funAt_mk ?l ?c ?k; (case l => k_is); (case c => k_is); (case k => k_is))
    (case n_beginnings => k_is)
    (case F_beginnings => refine' Ck.funAt_mk ?l ?c ?k; (case l => k_is); (case c => k_is); (case k => k_is))
    (case n_ways_on => k_is)
    (case F_ways_on => refine' Ck.funAt_mk ?l ?c ?k; (case l => k_is); (case c => k_is); (case k => k_is))
    (case n_ring_from => k_is)
    (case F_ring_from => refine' Ck.funAt_mk ?l ?c ?k; (case l => k_is); (case c => k_is); (case k => k_is))
    (case n_least_ring => k_is)
    (case F_least_ring => refine' Ck.funAt_mk ?l ?c ?k; (case l => k_is); (case c => k_is); (case k => k_is))
    (case n_zero_of => k_is)
    (case F_zero_of => refine' Ck.funAt_mk ?l ?c ?k; (case l => k_is); (case c => k_is); (case k => k_is))
    (case n_chip_rules => k_is)
    (case F_chip_rules => refine' Ck.funAt_mk ?l ?c ?k; (case l => k_is); (case c => k_is); (case k => k_is))
    (case n_path_rules => k_is)
    (case F_path_rules => refine' Ck.funAt_mk ?l ?c ?k; (case l => k_is); (case c => k_is); (case k => k_is))
    (case n_rules_of => k_is)
    (case F_rules_of => refine' Ck.funAt_mk ?l ?c ?k; (case l => k_is); (case c => k_is); (case k => k_is))
    (case n_what_is_left => k_is)
    (case F_what_is_left => refine' Ck.funAt_mk ?l ?c ?k; (case l => k_is); (case c => k_is); (case k => k_is))
    (case n_missed_rules => k_is)
    (case F_missed_rules => refine' Ck.funAt_mk ?l ?c ?k; (case l => k_is); (case c => k_is); (case k => k_is))
    (case n_told_rules => k_is)
    (case F_told_rules => refine' Ck.funAt_mk ?l ?c ?k; (case l => k_is); (case c => k_is); (case k => k_is))
    (case n_turned => k_is)
    (case F_turned => refine' Ck.funAt_mk ?l ?c ?k; (case l => k_is); (case c => k_is); (case k => k_is))
    (case n_lessen => k_is)
    (case F_lessen => refine' Ck.funAt_mk ?l ?c ?k; (case l => k_is); (case c => k_is); (case k => k_is))
    (case n_least_sums => k_is)
    (case F_least_sums => refine' Ck.funAt_mk ?l ?c ?k; (case l => k_is); (case c => k_is); (case k => k_is))
    (case n_some_row_is_right => k_is)
    (case F_some_row_is_right => refine' Ck.funAt_mk ?l ?c ?k; (case l => k_is); (case c => k_is); (case k => k_is))
    (case n_feasible => k_is)
    (case F_feasible => refine' Ck.funAt_mk ?l ?c ?k; (case l => k_is); (case c => k_is); (case k => k_is))
    (case n_early => k_is)
    (case F_early => refine' Ck.funAt_mk ?l ?c ?k; (case l => k_is); (case c => k_is); (case k => k_is))
    (case n_late => k_is)
    (case F_late => refine' Ck.funAt_mk ?l ?c ?k; (case l => k_is); (case c => k_is); (case k => k_is))
    (case n_apart => k_is)
    (case F_apart => refine' Ck.funAt_mk ?l ?c ?k; (case l => k_is); (case c => k_is); (case k => k_is))
    (case n_ring => k_is)
    (case F_ring => refine' Ck.funAt_mk ?l ?c ?k; (case l => k_is); (case c => k_is); (case k => k_is))
    (case n_least => k_is)
    (case F_least => refine' Ck.funAt_mk ?l ?c ?k; (case l => k_is); (case c => k_is); (case k => k_is))
    (case n_reserve => k_is)
    (case F_reserve => refine' Ck.funAt_mk ?l ?c ?k; (case l => k_is); (case c => k_is); (case k => k_is))
    (case n_list_all => k_is)
    (case F_list_all => refine' Ck.funAt_mk ?l ?c ?k; (case l => k_is); (case c => k_is); (case k => k_is))
    (case n_refusal_of => k_is)
    (case F_refusal_of => refine' Ck.funAt_mk ?l ?c ?k; (case l => k_is); (case c => k_is); (case k => k_is))
    (case n_check => k_is)
    (case F_check => refine' Ck.funAt_mk ?l ?c ?k; (case l => k_is); (case c => k_is); (case k => k_is))
    (case n_slacks => k_is)
    (case F_slacks => refine' Ck.funAt_mk ?l ?c ?k; (case l => k_is); (case c => k_is); (case k => k_is))
    (case n_sooner => k_is)
    (case F_sooner => refine' Ck.funAt_mk ?l ?c ?k; (case l => k_is); (case c => k_is); (case k => k_is))
    (case n_later => k_is)
    (case F_later => refine' Ck.funAt_mk ?l ?c ?k; (case l => k_is); (case c => k_is); (case k => k_is))
    (case n_change => k_is)
    (case F_change => refine' Ck.funAt_mk ?l ?c ?k; (case l => k_is); (case c => k_is); (case k => k_is))
    (case n_look_at => k_is)
    (case F_look_at => refine' Ck.funAt_mk ?l ?c ?k; (case l => k_is); (case c => k_is); (case k => k_is))
    (case n_find => k_is)
    (case F_find => refine' Ck.funAt_mk ?l ?c ?k; (case l => k_is); (case c => k_is); (case k => k_is))
    (case n_compare => k_is)
    (case F_compare => refine' Ck.funAt_mk ?l ?c ?k; (case l => k_is); (case c => k_is); (case k => k_is))
    (case n_answer_call => k_is)
    (case F_answer_call => refine' Ck.funAt_mk ?l ?c ?k; (case l => k_is); (case c => k_is); (case k => k_is))
    (case n_answers => k_is)
    (case F_answers => refine' Ck.funAt_mk ?l ?c ?k; (case l => k_is); (case c => k_is); (case k => k_is))
    (case c_NO_CHIP => k_is)
    (case c_OUT_OF_RANGE => k_is)
    (case c_WRONG_LENGTH => k_is)
    (case c_FULL => k_is)
    (case c_NO_PATH => k_is)
    (case c_NO_ROW => k_is)
    (case c_NO_PERIOD => k_is)
    (case c_MOST_CHIPS => k_is)
    (case c_MOST_PATHS => k_is)
    (case c_GREATEST_TIME => k_is)
    (case c_GREATEST_PERIOD => k_is)
    (case c_KIND_HI => k_is)
    (case c_KIND_LO => k_is)
    (case c_KIND_SETUP => k_is)
    (case c_KIND_HOLD => k_is)
    (case c_MARGINS => k_is)
    (case c_CHIP => k_is)
    (case c_PATH => k_is)
    (case c_BOUND => k_is)
    (case c_DELAY => k_is)
    (case c_AWAY => k_is)
    (case c_CLEAR => k_is)
    (case c_LIST => k_is)
    (case c_CHECK => k_is)
    (case c_SLACKS => k_is)
    (case c_FEASIBLE => k_is)
    (case c_EARLY => k_is)
    (case c_LATE => k_is)
    (case c_APART => k_is)
    (case c_RING => k_is)
    (case c_LEAST => k_is)
    (case c_RESERVE => k_is)
    (case c_SOONER => k_is)
    (case c_SHIFT => k_is)
    (case b_len => k_is)
    (case b_range => k_is)
    (case b_enumerate => k_is)
    (case b_zip => k_is)
    (case b_reversed => k_is)
    (case b_min => k_is)
    (case b_max => k_is)
    (case b_sum => k_is)
    (case b_all => k_is)
    (case n_HOW_MANY_NUMBERS => k_is)
    (case q_HOW_MANY_NUMBERS => refine' Ck.tabIn_mk ?h ?h1 ?h2 ?h3 ?h4; (case h => k_is); (case h1 => rfl); (case h2 => rfl); (case h3 => decide); (case h4 => repeat (first | exact Paired.nil | refine Paired.cons ⟨_, rfl⟩ ?_)))
    (case n_HOW_MANY_ROWS => k_is)
    (case q_HOW_MANY_ROWS => refine' Ck.tabIn_mk ?h ?h1 ?h2 ?h3 ?h4; (case h => k_is); (case h1 => rfl); (case h2 => rfl); (case h3 => decide); (case h4 => repeat (first | exact Paired.nil | refine Paired.cons ⟨_, rfl⟩ ?_)))
  case S =>
    intro K H xs a hO hwi hask hx
    cases hx with
    | cons h1 h2 =>
      cases h2
      cases h1 with
      | lst hs ha =>
        have e := L2.ints_dw a.1 _ ha
        subst e
        have q : ((PySem.W.Codec.inLen 0 30000 a.1 && a.1.all (PySem.W.Codec.inInt (-2147483648) 2147483647)) && true) = true := hwi
        rw [Bool.and_eq_true, Bool.and_eq_true] at q
        exact ⟨_, a.1, rfl, hs, (PySem.W.Codec.inNat_iff.mp q.1.1).2, hask, fun H' p hp => .lst (L2.SqL.of hp) (L2.dw_ints _)⟩
#print axioms PySem.Challenge.cw_clocktimes_s01_answers_holds

