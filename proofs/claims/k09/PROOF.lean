import PyProof.Rows.All
import Wide.All
import OpenK.AllK
import Wide.FinOn
import HandS.ForMost
import HandS.Wide
import HandS.Codes
import HandS.Flow
import HandS.SortRule
import HandS.IsInst
import HandS.Conv
import HandS.TupLe
import KE.GoesMore
import HandS.Lambda
import HandS.ExcInit
import HandS.ExcIs
import HandS.ExcField
import HandS.ExcValue
import HandS.RaiseMore
import KE.KExcSuper
import HandS.WordsExc
import PyProof.ReprRoads
import PySem.Challenge.RW_oneround_k09_rounds_told
import HandS.Walk
import HandS.Text
import HandS.Ends
import HandS.FStrTup
import HandS.Deep
import HandS.TupMul
import HandS.Zip
import HandS.SortInts
import HandS.More
import KE.SortData
import KE.DataCmp
import HandS.ExcSuper
import HandS.EndTab
set_option Elab.async false

section P_M1
set_option linter.all false
/-! Lines, yards: the mathematics of what a law's own growing and calling makes. -/
namespace One
/-- the ends of lines -/
def ends : List (Nat × Nat) → List Nat
  | [] => []
  | p :: r => p.1 :: p.2 :: ends r
/-- the items whose place, counted from k, is let by p -/
def keepIx {α : Type} (p : Nat → Bool) : Nat → List α → List α
  | _, [] => []
  | k, x :: r => if p k then x :: keepIx p (k + 1) r else keepIx p (k + 1) r
theorem ends_append : ∀ (a b : List (Nat × Nat)), ends (a ++ b) = ends a ++ ends b
  | [], _ => rfl
  | p :: r, b => by simp [ends, ends_append r b]
theorem ends_perm {a b : List (Nat × Nat)} (h : a.Perm b) : (ends a).Perm (ends b) := by
  induction h with
  | nil => exact .refl _
  | cons x _ ih => exact .cons _ (.cons _ ih)
  | swap x y l => 
    show (y.1 :: y.2 :: x.1 :: x.2 :: ends l).Perm (x.1 :: x.2 :: y.1 :: y.2 :: ends l)
    have : ([y.1, y.2] ++ ([x.1, x.2] ++ ends l)).Perm ([x.1, x.2] ++ ([y.1, y.2] ++ ends l)) := by
      rw [← List.append_assoc, ← List.append_assoc]
      exact List.Perm.append_right _ List.perm_append_comm
    exact this
  | trans _ _ i j => exact i.trans j
theorem ends_length : ∀ a : List (Nat × Nat), (ends a).length = 2 * a.length
  | [] => rfl
  | p :: r => by simp [ends, ends_length r]; omega
theorem mem_ends : ∀ {a : List (Nat × Nat)} {e : Nat}, e ∈ ends a ↔ ∃ p ∈ a, e = p.1 ∨ e = p.2
  | [], e => by simp [ends]
  | p :: r, e => by
    simp only [ends, List.mem_cons, mem_ends (a := r)]
    constructor
    · rintro (h | h | ⟨q, hq, h⟩)
      · exact ⟨p, .inl rfl, .inl h⟩
      · exact ⟨p, .inl rfl, .inr h⟩
      · exact ⟨q, .inr hq, h⟩
    · rintro ⟨q, rfl | hq, h⟩
      · rcases h with h | h
        · exact .inl h
        · exact .inr (.inl h)
      · exact .inr (.inr ⟨q, hq, h⟩)
theorem keepIx_length_le {α : Type} (p : Nat → Bool) : ∀ (k : Nat) (l : List α), (keepIx p k l).length ≤ l.length
  | _, [] => Nat.le_refl _
  | k, x :: r => by
    unfold keepIx
    have := keepIx_length_le p (k + 1) r
    split <;> simp <;> omega
theorem keepIx_snoc {α : Type} (p : Nat → Bool) : ∀ (k : Nat) (l : List α) (x : α), keepIx p k (l ++ [x]) = keepIx p k l ++ (if p (k + l.length) then [x] else [])
  | k, [], x => by simp [keepIx]
  | k, y :: r, x => by
    simp only [List.cons_append, keepIx, keepIx_snoc p (k + 1) r x, List.length_cons]
    have : k + 1 + r.length = k + (r.length + 1) := by omega
    rw [this]
    split <;> simp
theorem keepIx_congr {α : Type} {p q : Nat → Bool} : ∀ (k : Nat) (l : List α), (∀ m, k ≤ m → p m = q m) → keepIx p k l = keepIx q k l
  | _, [], _ => rfl
  | k, x :: r, h => by
    unfold keepIx
    rw [h k (Nat.le_refl _), keepIx_congr (k + 1) r (fun m hm => h m (by omega))]
theorem keepIx_out {α : Type} (p : Nat → Bool) : ∀ (k i : Nat) (l : List α) (x : α), l[i]? = some x → p (k + i) = true → (keepIx p k l).Perm (x :: keepIx (fun m => p m && !decide (m = k + i)) k l)
  | k, _, [], x, h, _ => by simp at h
  | k, 0, y :: r, x, h, hp => by
    have e : y = x := Option.some.inj h
    subst e
    have hp' : p k = true := hp
    simp only [keepIx, hp', Nat.add_zero, decide_true, Bool.not_true, Bool.and_false, if_true]
    refine .cons _ ?_
    have e : keepIx (fun m => p m && !decide (m = k)) (k + 1) r = keepIx p (k + 1) r := keepIx_congr (k + 1) r fun m hm => by
      have : ¬ m = k := by omega
      simp [this]
    simp [e]
  | k, i + 1, y :: r, x, h, hp => by
    have ih := keepIx_out p (k + 1) i r x (by simpa using h) (by rw [show k + 1 + i = k + (i + 1) by omega]; exact hp)
    have hk : ¬ k = k + (i + 1) := by omega
    simp only [keepIx, hk, decide_false, Bool.not_false, Bool.and_true]
    rw [show (fun m => p m && !decide (m = k + (i + 1))) = (fun m => p m && !decide (m = k + 1 + i)) by funext m; rw [show k + (i + 1) = k + 1 + i by omega]]
    split
    · exact (List.Perm.cons _ ih).trans (.swap _ _ _)
    · exact ih
theorem keepIx_all {α : Type} : ∀ (k : Nat) (l : List α), keepIx (fun _ => true) k l = l
  | _, [] => rfl
  | k, x :: r => by simp [keepIx, keepIx_all (k + 1) r]
/-- lines of n crossings: each end in just one of them -/
structure Lines (n : Nat) (ps : List (Nat × Nat)) : Prop where
  len : ps.length = 2 * n
  nd : (ends ps).Nodup
  lt : ∀ e ∈ ends ps, e < 4 * n
/-- all hangs together: what is closed under lines and has crossing 0 has all -/
def Whole (n : Nat) (ps : List (Nat × Nat)) : Prop := ∀ P : Nat → Prop, (∀ p ∈ ps, P (p.1 / 4) ↔ P (p.2 / 4)) → P 0 → ∀ c, c < n → P c
theorem Whole.from {n : Nat} {ps : List (Nat × Nat)} (w : Whole n ps) {P : Nat → Prop} (h : ∀ p ∈ ps, P (p.1 / 4) ↔ P (p.2 / 4)) {a : Nat} (ha : a < n) (hp : P a) {c : Nat} (hc : c < n) : P c := by
  by_cases h0 : P 0
  · exact w P h h0 c hc
  · exact absurd hp (w (fun x => ¬ P x) (fun p m => not_congr (h p m)) h0 a ha)
theorem Whole.perm {n : Nat} {ps qs : List (Nat × Nat)} (w : Whole n ps) (h : ps.Perm qs) : Whole n qs := fun P hP h0 c hc => w P (fun p m => hP p (h.mem_iff.mp m)) h0 c hc
theorem Lines.perm {n : Nat} {ps qs : List (Nat × Nat)} (w : Lines n ps) (h : ps.Perm qs) : Lines n qs :=
  ⟨h.length_eq ▸ w.len, (ends_perm h).nodup_iff.mp w.nd, fun e m => w.lt e ((ends_perm h).mem_iff.mpr m)⟩
/-- the fresh lines of crossing n put across two lines, or twice across one -/
def fresh (n : Nat) (i j : Nat) (a b : Nat × Nat) : List (Nat × Nat) :=
  if i = j then [(a.1, 4 * n), (4 * n + 1, 4 * n + 2), (a.2, 4 * n + 3)] else [(a.1, 4 * n), (a.2, 4 * n + 2), (b.1, 4 * n + 1), (b.2, 4 * n + 3)]
/-- the places but two -/
def notIJ (i j : Nat) : Nat → Bool := fun m => !decide (m = i) && !decide (m = j)
def putOn (n : Nat) (ps : List (Nat × Nat)) (i j : Nat) (a b : Nat × Nat) : List (Nat × Nat) := keepIx (notIJ i j) 0 ps ++ fresh n i j a b
theorem keep_one {α : Type} {ps : List α} {i : Nat} {a : α} (ha : ps[i]? = some a) : ps.Perm (a :: keepIx (notIJ i i) 0 ps) := by
  have h := keepIx_out (fun _ => true) 0 i ps a ha rfl
  rw [keepIx_all] at h
  refine h.trans ?_
  rw [keepIx_congr (q := notIJ i i) 0 ps fun m _ => by simp [notIJ]]
theorem keep_two {α : Type} {ps : List α} {i j : Nat} {a b : α} (hij : i ≠ j) (ha : ps[i]? = some a) (hb : ps[j]? = some b) : ps.Perm (a :: b :: keepIx (notIJ i j) 0 ps) := by
  have h := keepIx_out (fun _ => true) 0 i ps a ha rfl
  rw [keepIx_all] at h
  refine h.trans (.cons _ ?_)
  have h2 := keepIx_out (fun m => true && !decide (m = 0 + i)) 0 j ps b hb (by simp; omega)
  refine h2.trans ?_
  rw [keepIx_congr (q := notIJ i j) 0 ps fun m _ => by simp [notIJ]]
theorem mem_keep {α : Type} (p : Nat → Bool) : ∀ (k : Nat) (l : List α) (x : α), x ∈ keepIx p k l → x ∈ l
  | _, [], _, h => h
  | k, y :: r, x, h => by
    unfold keepIx at h
    split at h
    · rcases List.mem_cons.mp h with e | h
      · exact List.mem_cons.mpr (.inl e)
      · exact List.mem_cons.mpr (.inr (mem_keep p (k + 1) r x h))
    · exact List.mem_cons.mpr (.inr (mem_keep p (k + 1) r x h))
theorem put_ends {n : Nat} {ps : List (Nat × Nat)} {i j : Nat} {a b : Nat × Nat} (ha : ps[i]? = some a) (hb : ps[j]? = some b) :
    (ends (putOn n ps i j a b)).Perm (ends ps ++ [4 * n, 4 * n + 1, 4 * n + 2, 4 * n + 3]) := by
  unfold putOn
  rw [ends_append]
  unfold fresh
  by_cases hij : i = j
  · subst hij
    rw [if_pos rfl]
    have h := ends_perm (keep_one ha)
    refine List.Perm.trans ?_ (List.Perm.append_right _ h.symm)
    show (ends (keepIx (notIJ i i) 0 ps) ++ [a.1, 4 * n, 4 * n + 1, 4 * n + 2, a.2, 4 * n + 3]).Perm ((a.1 :: a.2 :: ends (keepIx (notIJ i i) 0 ps)) ++ [4 * n, 4 * n + 1, 4 * n + 2, 4 * n + 3])
    refine List.perm_iff_count.mpr fun x => ?_
    simp only [List.count_append, List.count_cons, List.count_nil]
    omega
  · rw [if_neg hij]
    have h := ends_perm (keep_two hij ha hb)
    refine List.Perm.trans ?_ (List.Perm.append_right _ h.symm)
    show (ends (keepIx (notIJ i j) 0 ps) ++ [a.1, 4 * n, a.2, 4 * n + 2, b.1, 4 * n + 1, b.2, 4 * n + 3]).Perm ((a.1 :: a.2 :: b.1 :: b.2 :: ends (keepIx (notIJ i j) 0 ps)) ++ [4 * n, 4 * n + 1, 4 * n + 2, 4 * n + 3])
    refine List.perm_iff_count.mpr fun x => ?_
    simp only [List.count_append, List.count_cons, List.count_nil]
    omega
theorem put_len {n : Nat} {ps : List (Nat × Nat)} {i j : Nat} {a b : Nat × Nat} (ha : ps[i]? = some a) (hb : ps[j]? = some b) : (putOn n ps i j a b).length = ps.length + 2 := by
  have h := (put_ends (n := n) ha hb).length_eq
  rw [List.length_append, ends_length, ends_length] at h
  simp at h
  omega
theorem put_lines {n : Nat} {ps : List (Nat × Nat)} {i j : Nat} {a b : Nat × Nat} (L : Lines n ps) (ha : ps[i]? = some a) (hb : ps[j]? = some b) : Lines (n + 1) (putOn n ps i j a b) := by
  have hp := put_ends (n := n) ha hb
  refine ⟨by rw [put_len ha hb, L.len]; omega, hp.nodup_iff.mpr (List.nodup_append.mpr ⟨L.nd, ?_, fun x hx y hy => ?_⟩), fun e he => ?_⟩
  · simp
  · have := L.lt x hx
    simp at hy
    omega
  · rcases List.mem_append.mp (hp.mem_iff.mp he) with h | h
    · have := L.lt e h
      omega
    · simp at h
      omega
theorem put_whole {n : Nat} {ps : List (Nat × Nat)} {i j : Nat} {a b : Nat × Nat} (hn : 0 < n) (L : Lines n ps) (w : Whole n ps) (ha : ps[i]? = some a) (hb : ps[j]? = some b) : Whole (n + 1) (putOn n ps i j a b) := by
  intro P hP h0
  have old : ∀ p ∈ keepIx (notIJ i j) 0 ps, P (p.1 / 4) ↔ P (p.2 / 4) := fun p m => hP p (List.mem_append.mpr (.inl m))
  have d0 : 4 * n / 4 = n := by omega
  have d1 : (4 * n + 1) / 4 = n := by omega
  have d2 : (4 * n + 2) / 4 = n := by omega
  have d3 : (4 * n + 3) / 4 = n := by omega
  have new : ∀ p ∈ fresh n i j a b, P (p.1 / 4) ↔ P (p.2 / 4) := fun p m => hP p (List.mem_append.mpr (.inr m))
  have hA : (P (a.1 / 4) ↔ P n) ∧ (P (a.2 / 4) ↔ P n) ∧ (i ≠ j → (P (b.1 / 4) ↔ P n) ∧ (P (b.2 / 4) ↔ P n)) := by
    unfold fresh at new
    by_cases hij : i = j
    · rw [if_pos hij] at new
      have q1 := new (a.1, 4 * n) (by simp)
      have q2 := new (a.2, 4 * n + 3) (by simp)
      simp only [d0, d3] at q1 q2
      exact ⟨q1, q2, fun z => absurd hij z⟩
    · rw [if_neg hij] at new
      have q1 := new (a.1, 4 * n) (by simp)
      have q2 := new (a.2, 4 * n + 2) (by simp)
      have q3 := new (b.1, 4 * n + 1) (by simp)
      have q4 := new (b.2, 4 * n + 3) (by simp)
      simp only [d0, d1, d2, d3] at q1 q2 q3 q4
      exact ⟨q1, q2, fun _ => ⟨q3, q4⟩⟩
  have clo : ∀ p ∈ ps, P (p.1 / 4) ↔ P (p.2 / 4) := by
    intro p m
    by_cases hij : i = j
    · subst hij
      rcases List.mem_cons.mp ((keep_one ha).mem_iff.mp m) with e | m
      · subst e
        exact hA.1.trans hA.2.1.symm
      · exact old p m
    · rcases List.mem_cons.mp ((keep_two hij ha hb).mem_iff.mp m) with e | m
      · subst e
        exact hA.1.trans hA.2.1.symm
      · rcases List.mem_cons.mp m with e | m
        · subst e
          exact (hA.2.2 hij).1.trans (hA.2.2 hij).2.symm
        · exact old p m
  have all := w P clo h0
  intro c hc
  by_cases h : c < n
  · exact all c h
  · have e : c = n := by omega
    subst e
    have am : a.1 ∈ ends ps := mem_ends.mpr ⟨a, List.mem_of_getElem? ha, .inl rfl⟩
    have := L.lt _ am
    exact hA.1.mp (all _ (by omega))
end One
end P_M1

section P_M2
set_option linter.all false
namespace One
/-- what a law's own growing makes -/
structure Grown (n : Nat) (ps : List (Nat × Nat)) : Prop where
  pos : 0 < n
  lines : Lines n ps
  whole : Whole n ps
theorem grown_one {a b c d : Nat} (h : [a, b, c, d].Perm [0, 1, 2, 3]) : Grown 1 [(a, b), (c, d)] := by
  refine ⟨by decide, ⟨rfl, h.nodup_iff.mpr (by decide), fun e he => ?_⟩, fun P _ h0 x hx => ?_⟩
  · have := h.mem_iff.mp he
    simp at this
    omega
  · have e : x = 0 := by omega
    subst e
    exact h0
theorem Grown.put {n : Nat} {ps : List (Nat × Nat)} {i j : Nat} {a b : Nat × Nat} (g : Grown n ps) (ha : ps[i]? = some a) (hb : ps[j]? = some b) : Grown (n + 1) (putOn n ps i j a b) :=
  ⟨by omega, put_lines g.lines ha hb, put_whole g.pos g.lines g.whole ha hb⟩
/-- how ends are called otherwise, crossing by crossing -/
structure Called (n : Nat) (ns : List Nat) : Prop where
  perm : ns.Perm (List.range (4 * n))
  blk : ∀ i j, i < 4 * n → j < 4 * n → i / 4 = j / 4 → ns.getD i 0 / 4 = ns.getD j 0 / 4
theorem Called.len {n : Nat} {ns : List Nat} (c : Called n ns) : ns.length = 4 * n := by rw [c.perm.length_eq, List.length_range]
theorem Called.lt {n : Nat} {ns : List Nat} (c : Called n ns) {i : Nat} (hi : i < 4 * n) : ns.getD i 0 < 4 * n := by
  have h : i < ns.length := by rw [c.len]; exact hi
  rw [List.getD_eq_getElem?_getD, List.getElem?_eq_getElem h, Option.getD_some]
  exact List.mem_range.mp (c.perm.mem_iff.mp (List.getElem_mem h))
theorem Called.inj {n : Nat} {ns : List Nat} (c : Called n ns) {i j : Nat} (hi : i < 4 * n) (hj : j < 4 * n) (e : ns.getD i 0 = ns.getD j 0) : i = j := by
  have h1 : i < ns.length := by rw [c.len]; exact hi
  have h2 : j < ns.length := by rw [c.len]; exact hj
  rw [List.getD_eq_getElem?_getD, List.getElem?_eq_getElem h1, Option.getD_some, List.getD_eq_getElem?_getD, List.getElem?_eq_getElem h2, Option.getD_some] at e
  exact (List.getElem_inj (c.perm.nodup_iff.mpr List.nodup_range)).mp e
theorem Called.onto {n : Nat} {ns : List Nat} (c : Called n ns) {x : Nat} (hx : x < 4 * n) : ∃ i, i < 4 * n ∧ ns.getD i 0 = x := by
  have h := c.perm.mem_iff.mpr (List.mem_range.mpr hx)
  obtain ⟨i, hi, e⟩ := List.mem_iff_getElem.mp h
  refine ⟨i, by rw [← c.len]; exact hi, ?_⟩
  rw [List.getD_eq_getElem?_getD, List.getElem?_eq_getElem hi, Option.getD_some, e]
/-- a line, the lesser end ahead -/
def low (x y : Nat) : Nat × Nat := if y < x then (y, x) else (x, y)
def callL (ns : List Nat) (p : Nat × Nat) : Nat × Nat := low (ns.getD p.1 0) (ns.getD p.2 0)
theorem low_mem (x y : Nat) : ∀ e, (e = (low x y).1 ∨ e = (low x y).2) ↔ (e = x ∨ e = y) := by
  intro e
  unfold low
  split
  · exact Or.comm
  · exact Iff.rfl
theorem ends_map (ns : List Nat) : ∀ ps : List (Nat × Nat), (ends (ps.map (callL ns))).Perm ((ends ps).map fun e => ns.getD e 0)
  | [] => .refl _
  | p :: r => by
    have ih := ends_map ns r
    show ((callL ns p).1 :: (callL ns p).2 :: ends (r.map (callL ns))).Perm (ns.getD p.1 0 :: ns.getD p.2 0 :: (ends r).map fun e => ns.getD e 0)
    unfold callL low
    split
    · exact (List.Perm.swap _ _ _).trans (.cons _ (.cons _ ih))
    · exact .cons _ (.cons _ ih)
theorem nodup_map_on {α β : Type} {f : α → β} : ∀ {l : List α}, (∀ x ∈ l, ∀ y ∈ l, f x = f y → x = y) → l.Nodup → (l.map f).Nodup
  | [], _, _ => List.nodup_nil
  | a :: r, h, hn => by
    obtain ⟨h1, h2⟩ := List.nodup_cons.mp hn
    refine List.nodup_cons.mpr ⟨fun m => ?_, nodup_map_on (fun x hx y hy => h x (List.mem_cons.mpr (.inr hx)) y (List.mem_cons.mpr (.inr hy))) h2⟩
    obtain ⟨y, hy, e⟩ := List.mem_map.mp m
    have := h y (List.mem_cons.mpr (.inr hy)) a (List.mem_cons.mpr (.inl rfl)) e
    exact h1 (this ▸ hy)
theorem called_lines {n : Nat} {ps : List (Nat × Nat)} {ns : List Nat} (L : Lines n ps) (c : Called n ns) : Lines n (ps.map (callL ns)) := by
  have hp := ends_map ns ps
  refine ⟨by rw [List.length_map]; exact L.len, hp.nodup_iff.mpr (nodup_map_on (fun x hx y hy e => c.inj (L.lt x hx) (L.lt y hy) e) L.nd), fun e he => ?_⟩
  obtain ⟨x, hx, rfl⟩ := List.mem_map.mp (hp.mem_iff.mp he)
  exact c.lt (L.lt x hx)
theorem called_whole {n : Nat} {ps : List (Nat × Nat)} {ns : List Nat} (hn : 0 < n) (L : Lines n ps) (w : Whole n ps) (c : Called n ns) : Whole n (ps.map (callL ns)) := by
  intro P hP h0 x hx
  have clo : ∀ p ∈ ps, P (ns.getD (4 * (p.1 / 4)) 0 / 4) ↔ P (ns.getD (4 * (p.2 / 4)) 0 / 4) := by
    intro p m
    have l1 := L.lt p.1 (mem_ends.mpr ⟨p, m, .inl rfl⟩)
    have l2 := L.lt p.2 (mem_ends.mpr ⟨p, m, .inr rfl⟩)
    rw [c.blk (4 * (p.1 / 4)) p.1 (by omega) l1 (by omega), c.blk (4 * (p.2 / 4)) p.2 (by omega) l2 (by omega)]
    have q := hP (callL ns p) (List.mem_map.mpr ⟨p, m, rfl⟩)
    unfold callL low at q
    split at q
    · exact q.symm
    · exact q
  obtain ⟨i, hi, ei⟩ := c.onto (x := 0) (by omega)
  obtain ⟨j, hj, ej⟩ := c.onto (x := 4 * x) (by omega)
  have start : P (ns.getD (4 * (i / 4)) 0 / 4) := by
    rw [c.blk (4 * (i / 4)) i (by omega) hi (by omega), ei]
    exact h0
  have all := w.from (P := fun k => P (ns.getD (4 * k) 0 / 4)) clo (a := i / 4) (by omega) start (c := j / 4) (by omega)
  have all : P (ns.getD (4 * (j / 4)) 0 / 4) := all
  rw [c.blk (4 * (j / 4)) j (by omega) hj (by omega), ej] at all
  rw [show 4 * x / 4 = x by omega] at all
  exact all
/-- pairs in order -/
def ltP (p q : Nat × Nat) : Prop := p.1 < q.1 ∨ (p.1 = q.1 ∧ p.2 < q.2)
def leP (p q : Nat × Nat) : Prop := p.1 < q.1 ∨ (p.1 = q.1 ∧ p.2 ≤ q.2)
/-- a yard of n crossings -/
structure Yard (n : Nat) (L : List (Nat × Nat)) : Prop where
  pos : 0 < n
  lines : Lines n L
  whole : Whole n L
  up : L.Pairwise ltP
  low : ∀ p ∈ L, p.1 < p.2
theorem nodup_firsts : ∀ {L : List (Nat × Nat)}, (ends L).Nodup → L.Pairwise fun p q => p.1 ≠ q.1 ∧ p.1 ≠ q.2 ∧ p.2 ≠ q.1 ∧ p.2 ≠ q.2
  | [], _ => .nil
  | p :: r, h => by
    have h : (p.1 :: p.2 :: ends r).Nodup := h
    obtain ⟨h1, h2⟩ := List.nodup_cons.mp h
    obtain ⟨h3, h4⟩ := List.nodup_cons.mp h2
    refine List.pairwise_cons.mpr ⟨fun q hq => ?_, nodup_firsts h4⟩
    have m1 : q.1 ∈ ends r := mem_ends.mpr ⟨q, hq, .inl rfl⟩
    have m2 : q.2 ∈ ends r := mem_ends.mpr ⟨q, hq, .inr rfl⟩
    exact ⟨fun e => h1 (List.mem_cons.mpr (.inr (e ▸ m1))), fun e => h1 (List.mem_cons.mpr (.inr (e ▸ m2))), fun e => h3 (e ▸ m1), fun e => h3 (e ▸ m2)⟩
theorem nodup_pair : ∀ {L : List (Nat × Nat)}, (ends L).Nodup → ∀ p ∈ L, p.1 ≠ p.2
  | p :: r, h, q, m => by
    have h : (p.1 :: p.2 :: ends r).Nodup := h
    obtain ⟨h1, h2⟩ := List.nodup_cons.mp h
    rcases List.mem_cons.mp m with e | m
    · subst e
      exact fun e => h1 (List.mem_cons.mpr (.inl e))
    · exact nodup_pair (List.nodup_cons.mp h2).2 q m
/-- lines with the lesser ends ahead, sorted, are a yard -/
theorem yard_of_sorted {n : Nat} {L M : List (Nat × Nat)} (hn : 0 < n) (hL : Lines n L) (w : Whole n L) (hl : ∀ p ∈ L, p.1 ≤ p.2) (hp : M.Perm L) (hs : M.Pairwise leP) : Yard n M := by
  have hM := hL.perm hp.symm
  refine ⟨hn, hM, w.perm hp.symm, ?_, fun p m => ?_⟩
  · refine (hs.and (nodup_firsts hM.nd)).imp ?_
    rintro p q ⟨h1, h2, _⟩
    rcases h1 with h1 | ⟨h1, _⟩
    · exact .inl h1
    · exact absurd h1 h2
  · have h1 := hl p (hp.mem_iff.mp m)
    have h2 := nodup_pair hM.nd p m
    omega
theorem low_le (x y : Nat) : (low x y).1 ≤ (low x y).2 := by
  unfold low
  split <;> simp <;> omega
theorem called_yard {n : Nat} {ps M : List (Nat × Nat)} {ns : List Nat} (g : Grown n ps) (c : Called n ns) (hp : M.Perm (ps.map (callL ns))) (hs : M.Pairwise leP) : Yard n M :=
  yard_of_sorted g.pos (called_lines g.lines c) (called_whole g.pos g.lines g.whole c) (fun p m => by
    obtain ⟨q, _, rfl⟩ := List.mem_map.mp m
    exact low_le _ _) hp hs
/-! ### the calling, block by block -/
def blocks : List (Nat × List Nat) → List Nat
  | [] => []
  | b :: r => b.2.map (fun p => 4 * b.1 + p) ++ blocks r
theorem blocks_snoc : ∀ (l : List (Nat × List Nat)) (b : Nat × List Nat), blocks (l ++ [b]) = blocks l ++ b.2.map (fun p => 4 * b.1 + p)
  | [], b => by simp [blocks]
  | a :: r, b => by simp [blocks, blocks_snoc r b]
theorem blocks_len : ∀ {l : List (Nat × List Nat)}, (∀ b ∈ l, b.2.length = 4) → (blocks l).length = 4 * l.length
  | [], _ => rfl
  | a :: r, h => by
    have h1 := h a (List.mem_cons.mpr (.inl rfl))
    have h2 := blocks_len (l := r) fun b hb => h b (List.mem_cons.mpr (.inr hb))
    simp [blocks, h1, h2]
    omega
theorem blocks_get : ∀ {l : List (Nat × List Nat)}, (∀ b ∈ l, b.2.Perm [0, 1, 2, 3]) → ∀ i, i < 4 * l.length → ∃ b ∈ l, l[i / 4]? = some b ∧ (blocks l).getD i 0 / 4 = b.1
  | [], _, i, hi => by simp at hi
  | a :: r, h, i, hi => by
    have ha := h a (List.mem_cons.mpr (.inl rfl))
    have hlen : (a.2.map (fun p => 4 * a.1 + p)).length = 4 := by rw [List.length_map, ha.length_eq]; rfl
    by_cases hi4 : i < 4
    · refine ⟨a, List.mem_cons.mpr (.inl rfl), by rw [show i / 4 = 0 by omega]; rfl, ?_⟩
      have hx : i < a.2.length := by rw [ha.length_eq]; exact hi4
      have hm := ha.mem_iff.mp (List.getElem_mem hx)
      have e : (blocks (a :: r)).getD i 0 = 4 * a.1 + a.2[i] := by
        show (a.2.map (fun p => 4 * a.1 + p) ++ blocks r).getD i 0 = _
        rw [List.getD_eq_getElem?_getD, List.getElem?_append_left (by rw [hlen]; exact hi4), List.getElem?_map, List.getElem?_eq_getElem hx]
        rfl
      rw [e]
      simp at hm
      omega
    · have hi' : i - 4 < 4 * r.length := by simp at hi; omega
      obtain ⟨b, hb, h1, h2⟩ := blocks_get (l := r) (fun b hb => h b (List.mem_cons.mpr (.inr hb))) (i - 4) hi'
      refine ⟨b, List.mem_cons.mpr (.inr hb), ?_, ?_⟩
      · rw [show i / 4 = (i - 4) / 4 + 1 by omega]
        exact h1
      · have e : (blocks (a :: r)).getD i 0 = (blocks r).getD (i - 4) 0 := by
          show (a.2.map (fun p => 4 * a.1 + p) ++ blocks r).getD i 0 = _
          rw [List.getD_eq_getElem?_getD, List.getElem?_append_right (by rw [hlen]; omega), hlen, List.getD_eq_getElem?_getD]
        rw [e]
        exact h2
theorem blocks_perm : ∀ {l m : List (Nat × List Nat)}, l.Perm m → (blocks l).Perm (blocks m) := fun h => by
  induction h with
  | nil => exact .refl _
  | cons x _ ih => exact List.Perm.append_left _ ih
  | swap x y l =>
    show (y.2.map (fun p => 4 * y.1 + p) ++ (x.2.map (fun p => 4 * x.1 + p) ++ blocks l)).Perm (x.2.map (fun p => 4 * x.1 + p) ++ (y.2.map (fun p => 4 * y.1 + p) ++ blocks l))
    rw [← List.append_assoc, ← List.append_assoc]
    exact List.Perm.append_right _ List.perm_append_comm
  | trans _ _ i j => exact i.trans j
theorem blocks_std : ∀ (l : List (Nat × List Nat)), (∀ b ∈ l, b.2.Perm [0, 1, 2, 3]) → (blocks l).Perm (blocks (l.map fun b => (b.1, [0, 1, 2, 3])))
  | [], _ => .refl _
  | a :: r, h => List.Perm.append (List.Perm.map _ (h a (List.mem_cons.mpr (.inl rfl)))) (blocks_std r fun b hb => h b (List.mem_cons.mpr (.inr hb)))
theorem blocks_range : ∀ n : Nat, blocks ((List.range n).map fun c => (c, [0, 1, 2, 3])) = List.range (4 * n)
  | 0 => rfl
  | n + 1 => by
    rw [List.range_succ, List.map_append, List.map_cons, List.map_nil, blocks_snoc, blocks_range n, show 4 * (n + 1) = 4 * n + 4 by omega]
    rw [show 4 * n + 4 = (4 * n + 3) + 1 by omega, List.range_succ, show 4 * n + 3 = (4 * n + 2) + 1 by omega, List.range_succ, show 4 * n + 2 = (4 * n + 1) + 1 by omega, List.range_succ, List.range_succ]
    simp
theorem called_of_blocks {n : Nat} {l : List (Nat × List Nat)} (hp : (l.map Prod.fst).Perm (List.range n)) (hb : ∀ b ∈ l, b.2.Perm [0, 1, 2, 3]) : Called n (blocks l) := by
  have hlen : l.length = n := by rw [← List.length_map (f := Prod.fst) (as := l), hp.length_eq, List.length_range]
  refine ⟨?_, fun i j hi hj e => ?_⟩
  · refine (blocks_std l hb).trans ?_
    rw [← blocks_range n]
    refine blocks_perm ?_
    rw [show (fun b : Nat × List Nat => (b.1, [0, 1, 2, 3])) = (fun c => (c, [0, 1, 2, 3])) ∘ Prod.fst from rfl, ← List.map_map]
    exact List.Perm.map _ hp
  · obtain ⟨b, _, h1, h2⟩ := blocks_get hb i (by rw [hlen]; exact hi)
    obtain ⟨d, _, h3, h4⟩ := blocks_get hb j (by rw [hlen]; exact hj)
    rw [e, h3] at h1
    cases h1
    rw [h2, h4]
end One
end P_M2

section P_N0
set_option linter.all false
set_option maxRecDepth 100000
set_option maxHeartbeats 4000000
namespace One
open PySem PySem.Spec PyProof.Rows L2
def top (i : Nat) : Stmt := PySem.Challenge.pw_oneround_k09_rounds_told.main.body.getD i (.Pass ⟨0, 0, 0, 0⟩)

/-! ### a list that is only read, with a list behind it -/
theorem add_read (l : Addr) (items : Array Value) (n : Nat) (sl : Array (Option Value)) (b : Addr) (items2 : Array Value) (n2 : Nat) (hc0 : items.size + items2.size ≤ sizeLine) :
    Meets (Builtin.«list.__add__» ⟨[.ref l, .ref b], []⟩) (fun _ R s => s.heap.get? l = some ⟨.type "list", none, .seq items n, sl⟩ ∧ s.heap.get? b = some ⟨.type "list", none, .seq items2 n2, #[]⟩ ∧
      R (.ok (.ret (Value.ref s.heap.objs.size))) { s with heap := s.heap.push { cls := Value.type "list", data := Data.seq (items ++ items2) }, toks := s.toks }) :=
  .of_wp fun prog w A R s h => by
    obtain ⟨hp, g, d, tk, os⟩ := s
    obtain ⟨hl, hb, h⟩ := h
    have f1 := PySem.AutoSeq1.idx_int
    have f3 := PySem.AutoSeq1.sub_list_list
    wp_walk using PySem.AutoSeq1.wpAny_loadPart' hl, PySem.AutoSeq1.wpAny_loadPart' hb
    exact ⟨_, rfl, h⟩
section
variable {X : Cx}
def rCatS (K : PySem.W.Frag) : R2 := fun x y H Q => ∃ l b xs zs, x = .ref l ∧ y = .ref b ∧ SqL K H l xs ∧ H b = some (.lst zs) ∧ xs.length + zs.length ≤ sizeLine ∧ ∀ p, H p = none → Q (.ref p) (upd H p (.lst (xs ++ zs)))
theorem op_catS : OpR X (binaryOp .Add) (rCatS X.K) := by
  intro pins s σ H x y v u Q I rx ry h
  obtain ⟨l, b, xs, zs, rfl, rfl, hS, hB, hz, q⟩ := h
  cases rx
  cases ry
  obtain ⟨its, r, ⟨⟨oc, od, oda, osl⟩, n, e, ec, ed, edd⟩, hl⟩ := I.list hS
  dsimp only at ec ed edd
  subst ec ed edd
  obtain ⟨z2, its2, n2, r2, hl2, e2⟩ := I.lstM hB
  have ha : s.TypeIs (.ref l) "list" := ⟨_, e, rfl⟩
  have hb : s.TypeIs (.ref b) "list" := ⟨_, e2, rfl⟩
  have hsz : its.toArray.size + its2.toArray.size ≤ sizeLine := by
    rw [List.size_toArray, List.size_toArray, ← r.length, ← r2.length]
    exact hz
  refine PySem.concat_meets ha hb PySem.noFill_list_add PySem.seq_list_add F.slot_list_add F.entry_list_add (F.args_list_add_2 _ _) (add_read l its.toArray n osl b its2.toArray n2 hsz) ⟨e, e2, ?_⟩
  have ea : its.toArray ++ its2.toArray = (its ++ its2).toArray := by simp
  rw [ea]
  exact ⟨.ref _, _, I.lnew (t' := s.toks) (r.append r2) (by rw [List.length_append]; exact hz), rfl, q _ I.fresh⟩
end
/-- all but p stands as it stood -/
def But (p : Addr) (H H' : Hp) : Prop := ∀ b, b ≠ p → H' b = H b
/-- all that stood but p stands as it stood -/
def Ext (p : Addr) (H H' : Hp) : Prop := ∀ b o, b ≠ p → H b = some o → H' b = some o
theorem But.ext {p : Addr} {H H' : Hp} (h : But p H H') : Ext p H H' := fun b o hb e => (h b hb).trans e
theorem But.trans {p : Addr} {H H1 H2 : Hp} (h : But p H H1) (k : But p H1 H2) : But p H H2 := fun b hb => (k b hb).trans (h b hb)
theorem Ext.refl (p : Addr) (H : Hp) : Ext p H H := fun _ _ _ e => e
theorem Ext.trans {p : Addr} {H H1 H2 : Hp} (h : Ext p H H1) (k : Ext p H1 H2) : Ext p H H2 := fun b o hb e => k b o hb (h b o hb e)
theorem Ext.same {p : Addr} {H H1 : Hp} (h : Same H H1) : Ext p H H1 := fun b o _ e => h b o e
theorem Ext.new {p q : Addr} {H : Hp} {o : HO} (h : H q = none) : Ext p H (upd H q o) := fun b u _ e => by
  rw [upd_ne (ne_of_none e h)]
  exact e
/-- the names that the program's top leaves to the built-ins -/
structure TB (mg : Str → Option Value) : Prop where
  len : mg "len" = none
  range : mg "range" = none
  tuple : mg "tuple" = none
  list : mg "list" = none
  sorted : mg "sorted" = none
  enumerate : mg "enumerate" = none
  isinstance : mg "isinstance" = none
  int : mg "int" = none
  bool : mg "bool" = none
  repr : mg "repr" = none
  all : mg "all" = none
theorem get_cell {cells : List Int} {i : Int} (h0 : 0 ≤ i) (h1 : i < (cells.length : Int)) : ∃ z, atI (cells.map V.int) i = some (V.int z) := by
  have hlt : i.toNat < cells.length := by omega
  refine ⟨cells[i.toNat], at_of (j := i.toNat) (by omega) ?_⟩
  rw [List.getElem?_map, List.getElem?_eq_getElem hlt]
  rfl
theorem But.upd {p : Addr} {H H' : Hp} {o : HO} (h : But p H H') : But p H (upd H' p o) := fun b hb => (upd_ne hb).trans (h b hb)
/-- a test, then what comes of it, with a word between them -/
def tMid (t : TT) : TT := fun σ H Q => ∃ M : Bool → Hp → Prop, t σ H M ∧ ∀ b H', M b H' → Q b H'
theorem pt_mid {X : Cx} {e : Expr} {t : TT} (h : PT X e t) : PT X e (tMid t) := ⟨fun pins s σ H Q I ⟨M, h1, h2⟩ =>
  thn (h.run pins s σ H M I h1) fun b s' ⟨H', I', q⟩ => ⟨H', I', h2 b H' q⟩⟩
/-- an expression, then what comes of it, with a word between them -/
def tMidE (t : TE) : TE := fun σ H Q => ∃ M : V → Hp → Prop, t σ H M ∧ ∀ v H', M v H' → Q v H'
theorem pe_mid {X : Cx} {e : Expr} {t : TE} (h : PE X e t) : PE X e (tMidE t) := ⟨fun pins s σ H Q I ⟨M, h1, h2⟩ =>
  thn (h.run pins s σ H M I h1) fun u s' ⟨v, H', I', r, q⟩ => ⟨v, H', I', r, h2 v H' q⟩⟩

/-- a def that is called by its name -/
structure Cal (K : PySem.W.Frag) (mg : Str → Option Value) (x : Str) (f : Addr) (fd : FuncData) (ps : List Str) : Prop where
  g : mg x = some (.ref f)
  kp : PySem.W.keepIn K (.ref f) = true
  b : Binds K fd ps []
/-- at a stands the pair p -/
def PAt (H : Hp) (a : Addr) (p : Nat × Nat) : Prop := H a = some (.tup [.int (p.1 : Nat), .int (p.2 : Nat)])
/-- at these addresses stand these pairs -/
inductive PL (H : Hp) : List Addr → List (Nat × Nat) → Prop
  | nil : PL H [] []
  | cons {a p as ps} : PAt H a p → PL H as ps → PL H (a :: as) (p :: ps)
theorem PL.len {H : Hp} {as : List Addr} {ps : List (Nat × Nat)} (h : PL H as ps) : as.length = ps.length := by
  induction h with
  | nil => rfl
  | cons _ _ ih => simp [ih]
theorem PL.get {H : Hp} {as : List Addr} {ps : List (Nat × Nat)} (h : PL H as ps) : ∀ {i : Nat} {p : Nat × Nat}, ps[i]? = some p → ∃ a, as[i]? = some a ∧ PAt H a p := by
  induction h with
  | nil => intro i p e; simp at e
  | cons h1 _ ih =>
    intro i p e
    cases i with
    | zero =>
      have e := Option.some.inj e
      subst e
      exact ⟨_, rfl, h1⟩
    | succ i => exact ih (i := i) (by simpa using e)
theorem PL.got {H : Hp} {as : List Addr} {ps : List (Nat × Nat)} (h : PL H as ps) : ∀ {i : Nat} {a : Addr}, as[i]? = some a → ∃ p, ps[i]? = some p ∧ PAt H a p := by
  induction h with
  | nil => intro i p e; simp at e
  | cons h1 _ ih =>
    intro i p e
    cases i with
    | zero =>
      have e := Option.some.inj e
      subst e
      exact ⟨_, rfl, h1⟩
    | succ i => exact ih (i := i) (by simpa using e)
theorem PL.app {H : Hp} {as bs : List Addr} {ps qs : List (Nat × Nat)} (h : PL H as ps) (k : PL H bs qs) : PL H (as ++ bs) (ps ++ qs) := by
  induction h with
  | nil => exact k
  | cons h1 _ ih => exact .cons h1 ih
theorem PL.mono {H H' : Hp} {as : List Addr} {ps : List (Nat × Nat)} (h : PL H as ps) (k : ∀ b xs, H b = some (.tup xs) → H' b = some (.tup xs)) : PL H' as ps := by
  induction h with
  | nil => exact .nil
  | cons h1 _ ih => exact .cons (k _ _ h1) ih
theorem PL.keep {H : Hp} {as : List Addr} {ps : List (Nat × Nat)} (h : PL H as ps) (f : Nat → Bool) : ∀ k, PL H (keepIx f k as) (keepIx f k ps) := by
  induction h with
  | nil => intro k; exact .nil
  | cons h1 _ ih =>
    intro k
    unfold keepIx
    split
    · exact .cons h1 (ih _)
    · exact ih _
theorem sameT {H H' : Hp} (e : Same H H') : ∀ b xs, H b = some (.tup xs) → H' b = some (.tup xs) := fun b xs h => e b _ h
theorem Same.new {H : Hp} {q : Addr} {o : HO} (h : H q = none) : Same H (upd H q o) := fun b u e => by
  rw [upd_ne (ne_of_none e h)]
  exact e
abbrev refs (as : List Addr) : List V := as.map V.ref
/-- a display of two pairs of written numbers -/
theorem rd_two {a b c d : Int} {σ : L2.St} {H : Hp} {Q : VK} (h : ∀ (H' : Hp) (l t1 t2 : Addr), Same H H' → H' l = some (.lst [.ref t1, .ref t2]) → H' t1 = some (.tup [.int a, .int b]) → H' t2 = some (.tup [.int c, .int d]) → Q (.ref l) H') :
    tLst (tCons (tTup (tCons (tC (.int a)) (tCons (tC (.int b)) tNil))) (tCons (tTup (tCons (tC (.int c)) (tCons (tC (.int d)) tNil))) tNil)) σ H Q := by
  refine ⟨by show 2 ≤ sizeLine; decide, fun t1 h1 => ⟨by show 2 ≤ sizeLine; decide, fun t2 h2 => ⟨by show 2 ≤ sizeLine; decide, fun l hl => ?_⟩⟩⟩
  have s1 := Same.new (o := .tup [.int a, .int b]) h1
  have s2 := Same.new (o := .tup [.int c, .int d]) h2
  have s3 := Same.new (o := .lst [.ref t1, .ref t2]) hl
  exact h _ l t1 t2 (s1.trans (s2.trans s3)) upd_same (s3 _ _ (s2 _ _ upd_same)) (s3 _ _ upd_same)
/-- where the dict of the draws stands -/
def DictAt (H : Hp) (p : Addr) : Prop := ∃ kvs, H p = some (.dK kvs)
theorem tupD {p : Addr} {H H' : Hp} (hd : DictAt H p) (e : Ext p H H') : ∀ b xs, H b = some (.tup xs) → H' b = some (.tup xs) := fun b xs h => by
  obtain ⟨kvs, h1⟩ := hd
  exact e b _ (ne_of h h1 (by intro z; cases z)) h
theorem DictAt.neL {p L : Addr} {H : Hp} {xs : List V} (hd : DictAt H p) (h : H L = some (.lst xs)) : L ≠ p := fun z => by
  obtain ⟨kvs, h1⟩ := hd
  rw [z, h1] at h
  cases h
theorem two_le : 2 ≤ sizeLine := by decide
/-- two tuples and a list of both, made one behind another -/
theorem made_two {H : Hp} {t1 t2 l : Addr} {x y : List V} {zs : List V} (h1 : H t1 = none) (h2 : upd H t1 (.tup x) t2 = none) (h3 : upd (upd H t1 (.tup x)) t2 (.tup y) l = none) :
    ∃ H', H' = upd (upd (upd H t1 (.tup x)) t2 (.tup y)) l (.lst zs) ∧ Same H H' ∧ H' l = some (.lst zs) ∧ H' t1 = some (.tup x) ∧ H' t2 = some (.tup y) := by
  have s1 := Same.new (o := .tup x) h1
  have s2 := Same.new (o := .tup y) h2
  have s3 := Same.new (o := .lst zs) h3
  exact ⟨_, rfl, s1.trans (s2.trans s3), upd_same, s3 _ _ (s2 _ _ upd_same), s3 _ _ upd_same⟩
theorem PAt.of {H : Hp} {t : Addr} {x y : Int} {a b : Nat} (h : H t = some (.tup [.int x, .int y])) (hx : x = (a : Nat)) (hy : y = (b : Nat)) : PAt H t (a, b) := by
  subst hx hy
  exact h
theorem refs_app (a b : List Addr) : refs (a ++ b) = refs a ++ refs b := List.map_append
theorem in_two (j j1 j2 : Nat) : (!inV (V.int (j : Nat)) [V.int (j1 : Nat), V.int (j2 : Nat)]) = notIJ j1 j2 j := by
  unfold inV notIJ
  simp only [List.any_cons, List.any_nil, Bool.or_false]
  have e : ∀ k : Nat, eqV (V.int (k : Nat)) (V.int (j : Nat)) = decide (j = k) := by
    intro k
    show ((k : Int) == (j : Int)) = decide (j = k)
    by_cases q : j = k
    · subst q
      simp
    · have q' : ¬ (k : Int) = (j : Int) := by omega
      simp [q, q']
  rw [e, e, Bool.not_or]
theorem ref_at {as : List Addr} {i : Nat} {a : Addr} (h : as[i]? = some a) : atI (refs as) (i : Nat) = some (.ref a) := at_of (j := i) rfl (by rw [List.getElem?_map, h]; rfl)
abbrev nats (ns : List Nat) : List V := ns.map fun x => V.int (x : Nat)
theorem nats_app (a b : List Nat) : nats (a ++ b) = nats a ++ nats b := List.map_append
theorem nats_at {ns : List Nat} {i x : Nat} (h : ns[i]? = some x) : (nats ns)[i]? = some (V.int (x : Nat)) := by rw [List.getElem?_map, h]; rfl
theorem nats_erase : ∀ (ns : List Nat) (k : Nat), (nats ns).eraseIdx k = nats (ns.eraseIdx k)
  | [], _ => rfl
  | x :: r, 0 => rfl
  | x :: r, k + 1 => by
    show V.int (x : Nat) :: (nats r).eraseIdx k = V.int (x : Nat) :: nats (r.eraseIdx k)
    rw [nats_erase r k]
theorem nats_range (n : Nat) : rgV 0 (n : Nat) = nats (List.range n) := by
  unfold rgV
  have e : (((n : Nat) : Int) - 0).toNat = n := by omega
  rw [e]
  refine List.map_congr_left fun x _ => ?_
  rw [Int.zero_add]
theorem seq_ix {j n : Nat} (h : j < n) : seqIndex? ((j : Nat) : Int) n = some j := by
  unfold seqIndex?
  simp
  omega
theorem erase_perm : ∀ {l : List Nat} {k x : Nat}, l[k]? = some x → l.Perm (x :: l.eraseIdx k)
  | [], k, x, h => by simp at h
  | y :: r, 0, x, h => by
    have e : y = x := Option.some.inj h
    subst e
    exact .refl _
  | y :: r, k + 1, x, h => (List.Perm.cons y (erase_perm (l := r) (k := k) (by simpa using h))).trans (.swap _ _ _)
theorem Ext.wr {p q : Addr} {H H' : Hp} {o : HO} (e : Ext p H H') (h : H q = none) : Ext p H (upd H' q o) := fun b u hb hu => by
  rw [upd_ne (ne_of_none hu h)]
  exact e b u hb hu
theorem Ext.free {p q : Addr} {H H' : Hp} (e : Ext p H H') (hq : q ≠ p) (h : H' q = none) : H q = none := by
  cases z : H q with
  | none => rfl
  | some o =>
    rw [e q o hq z] at h
    cases h
theorem yes {σ : L2.St} {H : Hp} {A B : Hp → Prop} (h : A H) : tYes σ H (fun b H3 => if b = true then A H3 else B H3) := by
  show if true = true then A H else B H
  rw [if_pos rfl]
  exact h
def rLen (K : PySem.W.Frag) : List V → Hp → VK → Prop := fun xs H Q => ∃ p ys, xs = [.ref p] ∧ (SqL K H p ys ∨ SqT K H p ys) ∧ Q (.int ys.length) H

/-! ### sorting pairs -/
/-- the pair that stands at an address -/
def keyN (H : Hp) (a : Addr) : Nat × Nat := match H a with
  | some (.tup [.int i, .int j]) => (i.toNat, j.toNat)
  | _ => (0, 0)
theorem keyN_of {H : Hp} {a : Addr} {p : Nat × Nat} (h : PAt H a p) : keyN H a = p := by
  unfold keyN
  rw [show H a = some (.tup [.int (p.1 : Nat), .int (p.2 : Nat)]) from h]
  rfl
theorem PL.keys {H : Hp} {as : List Addr} {ps : List (Nat × Nat)} (h : PL H as ps) : ps = as.map (keyN H) ∧ ∀ a ∈ as, PAt H a (keyN H a) := by
  induction h with
  | nil => exact ⟨rfl, fun a m => absurd m (by simp)⟩
  | cons h1 _ ih =>
    rw [List.map_cons, keyN_of h1]
    refine ⟨by rw [← ih.1], fun a m => ?_⟩
    rcases List.mem_cons.mp m with e | m
    · subst e
      rw [keyN_of h1]
      exact h1
    · exact ih.2 a m
theorem PL.of_keys {H : Hp} : ∀ {as : List Addr}, (∀ a ∈ as, PAt H a (keyN H a)) → PL H as (as.map (keyN H))
  | [], _ => .nil
  | a :: r, h => .cons (h a (List.mem_cons.mpr (.inl rfl))) (PL.of_keys fun b hb => h b (List.mem_cons.mpr (.inr hb)))
def backA : V → Addr
  | .ref a => a
  | _ => 0
theorem refs_of : ∀ {ys : List V}, (∀ y ∈ ys, ∃ a, y = V.ref a) → ys = refs (ys.map backA)
  | [], _ => rfl
  | y :: r, h => by
    obtain ⟨a, rfl⟩ := h y (List.mem_cons.mpr (.inl rfl))
    show V.ref a :: r = V.ref a :: refs (r.map backA)
    rw [← refs_of fun z hz => h z (List.mem_cons.mpr (.inr hz))]
theorem back_refs (as : List Addr) : (refs as).map backA = as := by
  rw [refs, List.map_map]
  exact List.map_id' as
/-- sorted(xs), xs a list of pairs -/
theorem rd_sorted {K : PySem.W.Frag} {H : Hp} {Q : VK} {a : Addr} {as : List Addr} {ps : List (Nat × Nat)} (hs : SqL K H a (refs as)) (hP : PL H as ps)
    (h : ∀ (bs : List Addr) (qs : List (Nat × Nat)) (p : Addr), PL H bs qs → qs.Perm ps → qs.Pairwise leP → H p = none → Q (.ref p) (upd H p (.lst (refs bs)))) : rSortedPO K [.ref a] H Q := by
  obtain ⟨e1, e2⟩ := hP.keys
  refine ⟨a, refs as, fun v => (((keyN H (backA v)).1 : Nat), ((keyN H (backA v)).2 : Nat)), rfl, hs, fun x hx => ?_, fun ys p h1 h2 hp => ?_⟩
  · obtain ⟨b, hb, rfl⟩ := List.mem_map.mp hx
    exact ⟨b, rfl, e2 b hb⟩
  · have hy : ys = refs (ys.map backA) := refs_of fun y m => by
      obtain ⟨b, _, e⟩ := List.mem_map.mp (h2.perm.mem_iff.mp m)
      exact ⟨b, e.symm⟩
    have hb : (ys.map backA).Perm as := by
      have := h2.perm.map backA
      rwa [back_refs] at this
    rw [hy]
    refine h (ys.map backA) ((ys.map backA).map (keyN H)) p (PL.of_keys fun b m => e2 b (hb.mem_iff.mp m)) (by rw [e1]; exact hb.map _) ?_ hp
    rw [List.map_map, List.pairwise_map]
    refine List.Pairwise.imp ?_ h1
    intro x y hxy
    have q := SrtO.lexB_no.mp hxy
    show leP (keyN H (backA x)) (keyN H (backA y))
    unfold leP
    simp only at q
    omega
/-- sorted([x, y]) -/
theorem low_of {x y : Nat} {ns : List Int} (hp : ns.Perm [((x : Nat) : Int), ((y : Nat) : Int)]) (hs : ns.Pairwise (· ≤ ·)) : ns = [(((low x y).1 : Nat) : Int), (((low x y).2 : Nat) : Int)] := by
  have hl := hp.length_eq
  match ns, hl with
  | [a, b], _ =>
    have hab : a ≤ b := by
      have := (List.pairwise_cons.mp hs).1 b (by simp)
      exact this
    have ha := hp.mem_iff (a := a)
    have hb := hp.mem_iff (a := b)
    have c1 := hp.count_eq a
    have c2 := hp.count_eq b
    simp only [List.mem_cons, List.not_mem_nil, or_false, true_or, or_true, true_iff] at ha hb
    unfold low
    rcases ha with rfl | rfl <;> rcases hb with rfl | rfl
    · simp only [List.count_cons, List.count_nil, beq_self_eq_true, if_true] at c1
      by_cases q : ((y : Int) == (x : Int)) = true
      · have : y = x := by
          have z : (y : Int) = (x : Int) := by simpa using q
          omega
        subst this
        split <;> rfl
      · rw [if_neg q] at c1
        omega
    · rw [if_neg (by omega)]
    · by_cases q : y < x
      · rw [if_pos q]
      · have : x = y := by omega
        subst this
        rw [if_neg q]
    · simp only [List.count_cons, List.count_nil, beq_self_eq_true, if_true] at c1
      by_cases q : ((x : Int) == (y : Int)) = true
      · have : x = y := by
          have z : (x : Int) = (y : Int) := by simpa using q
          omega
        subst this
        split <;> rfl
      · rw [if_neg q] at c1
        omega
/-- at t stands a yard of n crossings, a tuple of these pairs -/
def YAt (H : Hp) (t : Addr) (n : Nat) (ps : List (Nat × Nat)) : Prop := Yard n ps ∧ ∃ as : List Addr, H t = some (.tup (refs as)) ∧ PL H as ps
theorem YAt.mono {H H' : Hp} {t : Addr} {n : Nat} {ps : List (Nat × Nat)} (h : YAt H t n ps) (k : ∀ b xs, H b = some (.tup xs) → H' b = some (.tup xs)) : YAt H' t n ps := by
  obtain ⟨y, as, h1, h2⟩ := h
  exact ⟨y, as, k _ _ h1, h2.mono k⟩

end One
end P_N0

section P_E1
set_option linter.all false
set_option maxRecDepth 100000
set_option maxHeartbeats 4000000
/-! Ranges with a step as values; what kind a value is. -/
namespace One
open PySem PySem.Spec PyProof.Rows L2
def RngO (a : Addr) (lo hi c : Int) : HO := .ext fun h => ∃ t u v, h.get? a = some { cls := .type "range", data := .fields #[.int lo t, .int hi u, .int c v] }
theorem rng_has (r : Addr) (a b c i : Int) (t u v k : Tok) :
    Meets (Builtin.«range.__contains__» ⟨[.ref r, .int i k], []⟩) (fun _ R s => s.heap.get? r = some ⟨.type "range", none, .fields #[.int a t, .int b u, .int c v], #[]⟩ ∧ R (.ok (.ret (.bool (Builtin.Range.rangePlace? a b c i).isSome))) s) :=
  .of_wp fun prog w A R s h => by
    obtain ⟨hp, g, d, tk, os⟩ := s
    obtain ⟨hl, h⟩ := h
    wp_walk
    exact ⟨_, rfl, h⟩
section
variable {X : Cx}
theorem op_in_rngC : OpR X (compareOp .In) (fun x y H Q => ∃ i a lo hi c, x = V.int i ∧ y = V.ref a ∧ H a = some (RngO a lo hi c) ∧ Q (.bl (Builtin.Range.rangePlace? lo hi c i).isSome) H) := by
  intro pins s σ H x y v u Q I rx ry h
  obtain ⟨i, a, lo, hi, c, rfl, rfl, ha, q⟩ := h
  obtain ⟨k, rfl⟩ := rx
  obtain rfl : u = Value.ref a := ry
  obtain ⟨⟨t1, t2, t3, ho⟩, _, _⟩ := I.hok a _ ha
  refine (show wpAny _ _ (do return Value.bool (← contains (Value.ref a) (Value.int i k))) _ _ s from ?_)
  exact wpAny_bind (wpAny_contains_slot (T := "range") ⟨_, ho, rfl⟩ F.slot_range_contains (call_meets F.slot_range_contains ⟨_, ho, rfl⟩ F.entry_range_contains (F.args_range_contains_2 _ _) (rng_has a lo hi c i t1 t2 t3 k)
    ⟨ho, wpAny_truthy_bool (wpAny_pure ⟨.bl _, H, I, rfl, q⟩)⟩))
theorem cr_range3 : CallR X (.type "range") (fun vs H Q => ∃ i j c, vs = [V.int i, V.int j, V.int c] ∧ (c ≠ 0 ∧ c.natAbs < 1073741824) ∧ ∀ p, H p = none → Q (.ref p) (upd H p (RngO p i j c))) := by
  intro pins s σ H vs us Q I r h
  obtain ⟨i, j, c, rfl, hc, q⟩ := h
  obtain ⟨u1, u2, u3, rfl, ri, rj, rc⟩ : ∃ u1 u2 u3, us = [u1, u2, u3] ∧ RelV (V.int i) u1 ∧ RelV (V.int j) u2 ∧ RelV (V.int c) u3 := by
    cases r with
    | cons p q =>
      cases q with
      | cons p' q' =>
        cases q' with
        | cons p'' q'' =>
          cases q''
          exact ⟨_, _, _, rfl, p, p', p''⟩
  obtain ⟨t, rfl⟩ := ri
  obtain ⟨t2, rfl⟩ := rj
  obtain ⟨t3, rfl⟩ := rc
  have hget : (s.heap.push { cls := .type "range", data := .fields #[.int i t, .int j t2, .int c t3] }).get? s.heap.objs.size = some { cls := .type "range", data := .fields #[.int i t, .int j t2, .int c t3] } := Heap.get?_push_size _ rfl
  refine call_range_3 hc.1 ?_ (.inl (PyProof.noPylong_small hc.2))
  exact ⟨.ref s.heap.objs.size, upd H s.heap.objs.size (RngO s.heap.objs.size i j c), I.laid (t' := s.toks) (fun b o e => Heap.get?_push_of_some _ e) (Nat.le_refl _) ⟨⟨t, t2, t3, hget⟩, ⟨_, hget⟩, fun h1 h2 ⟨a, b, d, e⟩ st => ⟨a, b, d, st _ e⟩⟩, rfl, q _ (I.hok.fresh (Nat.le_refl _))⟩
end
end One
end P_E1

section P_E2
set_option linter.all false
set_option maxRecDepth 100000
set_option maxHeartbeats 4000000
namespace One
open PySem PySem.Spec PyProof.Rows L2
/-! ### what kind a value is -/
inductive TV (H : Hp) : V → String → Prop
  | non : TV H .non "NoneType"
  | bl (b : Bool) : TV H (.bl b) "bool"
  | int (i : Int) : TV H (.int i) "int"
  | str (x : Str) : TV H (.str x) "str"
  | tup {a : Addr} {xs : List V} (e : H a = some (.tup xs)) : TV H (.ref a) "tuple"
  | lst {a : Addr} {xs : List V} (e : H a = some (.lst xs)) : TV H (.ref a) "list"
  | dct {a : Addr} {kvs : List (Key × V)} (e : H a = some (.dK kvs)) : TV H (.ref a) "dict"
theorem TV.tyx {K : PySem.W.Frag} {H : Hp} {v : V} {T : String} (h : TV H v T) : TyX K H v (.type T) := by
  cases h with
  | non => exact .base .non
  | bl b => exact .base (.bl b)
  | int i => exact .base (.int i)
  | str x => exact .base (.str x)
  | tup e => exact .base (.tup e)
  | lst e => exact .base (.lst e)
  | dct e => exact .base (.dK e)
def isI : V → Bool
  | .int _ => true
  | _ => false
def belowV (v : V) (n : Int) : Bool := match v with
  | .int i => decide (0 ≤ i) && decide (i < n)
  | _ => false
theorem nof {p : Prop} (z : false = true) : p := by cases z
theorem noT {p : Prop} (z : true = false) : p := by cases z
theorem TV.kInt {K : PySem.W.Frag} {H : Hp} {v : V} {T : String} (h : TV H v T) : ∃ b, PySem.W.kitOne K (.type T) (.type "int") = some b ∧ (b = true → ∃ b2, PySem.W.kitOne K (.type T) (.type "bool") = some b2 ∧ isI v = !b2) ∧ (b = false → isI v = false) := by
  cases h with
  | non => exact ⟨false, kit_ty (by decide +kernel), nof, fun _ => rfl⟩
  | bl b => exact ⟨true, kit_ty (by decide +kernel), fun _ => ⟨true, kit_ty (by decide +kernel), rfl⟩, noT⟩
  | int i => exact ⟨true, kit_ty (by decide +kernel), fun _ => ⟨false, kit_ty (by decide +kernel), rfl⟩, noT⟩
  | str x => exact ⟨false, kit_ty (by decide +kernel), nof, fun _ => rfl⟩
  | tup e => exact ⟨false, kit_ty (by decide +kernel), nof, fun _ => rfl⟩
  | lst e => exact ⟨false, kit_ty (by decide +kernel), nof, fun _ => rfl⟩
  | dct e => exact ⟨false, kit_ty (by decide +kernel), nof, fun _ => rfl⟩
def isTup (T : String) : Bool := T == "tuple"
theorem TV.kTup {K : PySem.W.Frag} {H : Hp} {v : V} {T : String} (h : TV H v T) : PySem.W.kitOne K (.type T) (.type "tuple") = some (isTup T) := by
  cases h <;> exact kit_ty (by decide +kernel)
/-- the constants of the program's top -/
structure TC (mg : Str → Option Value) : Prop where
  most : ∃ t, mg "MOST_CROSSINGS" = some (.int 40 t)
  places : ∃ t, mg "PLACES" = some (.int 4 t)
abbrev sIsNum : Stmt := top 6
abbrev sIsBelow : Stmt := top 7
abbrev sCanBe : Stmt := top 16
abbrev sIsLine : Stmt := top 17
theorem scIsNum : FnScope ["thing"] ["thing"] (defScope sIsNum) := ⟨rfl, rfl, rfl, by decide +kernel, rfl, by decide +kernel, by decide +kernel⟩
theorem scIsBelow : FnScope ["thing", "many"] ["thing", "many"] (defScope sIsBelow) := ⟨rfl, rfl, rfl, by decide +kernel, rfl, by decide +kernel, by decide +kernel⟩
theorem scCanBe : FnScope ["many"] ["many"] (defScope sCanBe) := ⟨rfl, rfl, rfl, by decide +kernel, rfl, by decide +kernel, by decide +kernel⟩
theorem scIsLine : FnScope ["thing", "many_ends", "low", "high"] ["thing", "many_ends"] (defScope sIsLine) := ⟨rfl, rfl, rfl, by decide +kernel, rfl, by decide +kernel, by decide +kernel⟩
def spIsNum : Sp := fun vs H Q _ => ∃ (v : V) (T : String), vs = [v] ∧ TV H v T ∧ Q (.bl (isI v)) H
def spIsBelow : Sp := fun vs H Q _ => ∃ (v : V) (n : Int) (T : String), vs = [v, .int n] ∧ TV H v T ∧ Q (.bl (belowV v n)) H
/-- as many lines as a yard may have -/
def canBe (n : Int) : Bool := decide (2 ≤ n) && decide (n ≤ 80) && decide (n % 2 = 0)
def spCanBe : Sp := fun vs H Q _ => ∃ n : Int, vs = [.int n] ∧ ∀ H', Same H H' → Q (.bl (canBe n)) H'
section
variable {P : Program} {w : World} {K : PySem.W.Frag} {mg : Str → Option Value} {base : Heap}
theorem ok_isnum {f : Addr} {fd : FuncData} (F : Fun K "is_number" "is_number" sIsNum f fd) (T : TB mg) : FnOk P w K mg base CX0 1 f fd ["thing"] spIsNum := by
  refine F.ok scIsNum (fun vs H Q E h => ?_) (fun cdv A outer s H vs Q E hr h => ?_)
  · obtain ⟨v, _, rfl, _⟩ := h
    rfl
  · obtain ⟨v, ty, rfl, hv, k⟩ := h
    refine ⟨_, pss_one (ps_ret (pe_and (pe_callB call_isi (by rfl) T.isinstance boot_isinstance (pa_cons (pv 0) (pa_cons (pe_bltn (v := .ty "int") (by rfl) T.int PyProof.Rows.boot_int rfl) pa_nil)))
      (pe_one (pe_not (pe_callB call_isi (by rfl) T.isinstance boot_isinstance (pa_cons (pv 0) (pa_cons (pe_bltn (v := .ty "bool") (by rfl) T.bool (by decide +kernel) rfl) pa_nil))))))), ?_⟩
    obtain ⟨b, kb, h1, h2⟩ := hv.kInt (K := K)
    refine ⟨_, rfl, v, _, _, _, b, rfl, .ty _, hv.tyx, kb, b, rfl, ?_⟩
    cases b with
    | true =>
      obtain ⟨b2, kb2, e⟩ := h1 rfl
      refine iteT ⟨_, rfl, v, _, _, _, b2, rfl, .ty _, hv.tyx, kb2, b2, rfl, ?_⟩
      rw [← e]
      exact k
    | false =>
      refine iteF ?_
      rw [h2 rfl] at k
      exact k
theorem ok_isbelow {f fN : Addr} {fd fdN : FuncData} (F : Fun K "is_below" "is_below" sIsBelow f fd) (N : Cal K mg "is_number" fN fdN ["thing"]) (GN : FnOk P w K mg base CX0 1 fN fdN ["thing"] spIsNum) : FnOk P w K mg base CX0 2 f fd ["thing", "many"] spIsBelow := by
  refine F.ok scIsBelow (fun vs H Q E h => ?_) (fun cdv A outer s H vs Q E hr h => ?_)
  · obtain ⟨v, n, _, rfl, _⟩ := h
    rfl
  · obtain ⟨v, n, ty, rfl, hv, k⟩ := h
    refine ⟨_, pss_one (ps_ret (pe_and (pe_call GN hr rfl N.g N.kp N.b .nil pass0 (pa_cons (pv 0) pa_nil)) (pe_one (pe_chain op_le op_lt pe_int (pv 0) (pv 1))))), ?_⟩
    refine ⟨_, rfl, v, ty, rfl, hv, _, rfl, ?_⟩
    cases v with
    | int i =>
      refine iteT ⟨_, rfl, _, _, rfl, rfl, _, rfl, ?_⟩
      by_cases h0 : 0 ≤ i
      · rw [if_pos (decide_eq_true h0)]
        refine ⟨_, rfl, _, _, rfl, rfl, ?_⟩
        have e : belowV (.int i) n = decide (i < n) := by
          show (decide (0 ≤ i) && decide (i < n)) = _
          rw [decide_eq_true h0, Bool.true_and]
        rw [e] at k
        exact k
      · rw [if_neg (by rw [decide_eq_false h0]; decide)]
        have e : belowV (.int i) n = false := by
          show (decide (0 ≤ i) && decide (i < n)) = _
          rw [decide_eq_false h0, Bool.false_and]
        rw [e] at k
        exact k
    | _ => exact iteF k
theorem ok_canbe {f : Addr} {fd : FuncData} (F : Fun K "can_be_many_lines" "can_be_many_lines" sCanBe f fd) (T : TB mg) (C : TC mg) : FnOk P w K mg base CX0 1 f fd ["many"] spCanBe := by
  refine F.ok scCanBe (fun vs H Q E h => ?_) (fun cdv A outer s H vs Q E hr h => ?_)
  · obtain ⟨n, rfl, _⟩ := h
    rfl
  · obtain ⟨n, rfl, k⟩ := h
    obtain ⟨t, ht⟩ := C.most
    refine ⟨_, pss_one (ps_ret (pe_cmpR op_in_rngC (pv 0) (pe_callTy cr_range3 (by rfl) T.range boot_range (pa_cons pe_int (pa_cons (pe_op op_add (pe_op op_mul pe_int (pe_glob (v := .int 40) rfl ht ⟨_, rfl⟩)) pe_int) (pa_cons pe_int pa_nil)))) (by rfl))), ?_⟩
    refine ⟨_, rfl, _, _, rfl, rfl, .inl ⟨by decide, by decide⟩, _, _, rfl, rfl, _, _, _, rfl, ⟨by decide, by decide⟩, fun p hp => ?_⟩
    refine ⟨n, p, _, _, _, rfl, rfl, upd_same, ?_⟩
    have e : (Builtin.Range.rangePlace? 2 (2 * 40 + 1) 2 n).isSome = canBe n := by
      unfold Builtin.Range.rangePlace? canBe
      rw [Bool.eq_iff_iff]
      simp only [show (2 : Int) > 0 from by decide, if_true, Bool.and_eq_true, decide_eq_true_eq, beq_iff_eq]
      constructor
      · intro q
        split at q
        · omega
        · cases q
      · intro q
        rw [if_pos (by omega)]
        rfl
    show Q (.bl (Builtin.Range.rangePlace? 2 (2 * 40 + 1) 2 n).isSome) _
    rw [e]
    exact k _ (Same.new hp)
end
end One
end P_E2

section P_M3
set_option linter.all false
namespace One
/-! ### going to all that is beside -/
def R (r : List Bool) (i : Nat) : Prop := r[i]? = some true
structure Dfs (s n : Nat) (f : Nat → List Nat) (r : List Bool) (w : List Nat) (cur : Nat → Prop) : Prop where
  len : r.length = n
  z : R r s
  wt : ∀ i ∈ w, R r i
  cl : ∀ i, R r i → i ∈ w ∨ cur i ∨ ∀ j ∈ f i, R r j
  so : ∀ P : Nat → Prop, (∀ i j, j ∈ f i → P i → P j) → P s → ∀ i, R r i → P i
theorem R_set {r : List Bool} {i j : Nat} (h : R r i) : R (r.set j true) i := by
  unfold R at *
  by_cases e : j = i
  · subst e
    have : j < r.length := (List.getElem?_eq_some_iff.mp h).1
    rw [List.getElem?_set_self this]
  · rw [List.getElem?_set_ne e]
    exact h
theorem R_new {r : List Bool} {j : Nat} (h : j < r.length) : R (r.set j true) j := by
  unfold R
  rw [List.getElem?_set_self h]
theorem R_back {r : List Bool} {i j : Nat} (h : R (r.set j true) i) : i = j ∨ R r i := by
  unfold R at *
  by_cases e : j = i
  · exact .inl e.symm
  · rw [List.getElem?_set_ne e] at h
    exact .inr h
theorem dfs_start {s n : Nat} (f : Nat → List Nat) (hn : s < n) : Dfs s n f ((List.replicate n false).set s true) [s] (fun _ => False) := by
  have h0 : s < (List.replicate n false).length := by rw [List.length_replicate]; exact hn
  have back : ∀ i, R ((List.replicate n false).set s true) i → i = s := fun i h => by
    rcases R_back h with e | e
    · exact e
    · unfold R at e
      have hi := (List.getElem?_eq_some_iff.mp e).2
      simp at hi
  refine ⟨by simp, R_new h0, fun i hi => ?_, fun i hi => .inl ?_, fun P _ h i hi => ?_⟩
  · rw [List.mem_singleton.mp hi]
    exact R_new h0
  · rw [back i hi]
    exact List.mem_singleton.mpr rfl
  · rw [back i hi]
    exact h
theorem dfs_pop {s n c : Nat} {f : Nat → List Nat} {r : List Bool} {w : List Nat} (d : Dfs s n f r (w ++ [c]) fun _ => False) : Dfs s n f r w (· = c) := by
  refine ⟨d.len, d.z, fun i hi => d.wt i (List.mem_append.mpr (.inl hi)), fun i hi => ?_, d.so⟩
  rcases d.cl i hi with h | h | h
  · rcases List.mem_append.mp h with h | h
    · exact .inl h
    · exact .inr (.inl (List.mem_singleton.mp h))
  · exact h.elim
  · exact .inr (.inr h)
theorem dfs_mark {s n c j : Nat} {f : Nat → List Nat} {r : List Bool} {w : List Nat} (d : Dfs s n f r w (· = c)) (hc : R r c) (hj : j ∈ f c) (hlt : j < n) : Dfs s n f (r.set j true) (w ++ [j]) (· = c) := by
  have hjl : j < r.length := by rw [d.len]; exact hlt
  refine ⟨by rw [List.length_set]; exact d.len, R_set d.z, fun i hi => ?_, fun i hi => ?_, fun P hP h0 i hi => ?_⟩
  · rcases List.mem_append.mp hi with h | h
    · exact R_set (d.wt i h)
    · rw [List.mem_singleton.mp h]
      exact R_new hjl
  · rcases R_back hi with e | h
    · exact .inl (List.mem_append.mpr (.inr (List.mem_singleton.mpr e)))
    · rcases d.cl i h with q | q | q
      · exact .inl (List.mem_append.mpr (.inl q))
      · exact .inr (.inl q)
      · exact .inr (.inr fun k hk => R_set (q k hk))
  · rcases R_back hi with e | h
    · rw [e]
      exact hP c j hj (d.so P hP h0 c hc)
    · exact d.so P hP h0 i h
theorem dfs_finish {s n c : Nat} {f : Nat → List Nat} {r : List Bool} {w : List Nat} (d : Dfs s n f r w (· = c)) (h : ∀ j ∈ f c, R r j) : Dfs s n f r w fun _ => False := by
  refine ⟨d.len, d.z, d.wt, fun i hi => ?_, d.so⟩
  rcases d.cl i hi with q | q | q
  · exact .inl q
  · subst q
    exact .inr (.inr h)
  · exact .inr (.inr q)
theorem count_set {r : List Bool} {j : Nat} (h : r[j]? = some false) : (r.set j true).count false + 1 = r.count false := by
  induction r generalizing j with
  | nil => simp at h
  | cons a r ih =>
    cases j with
    | zero =>
      have e : a = false := Option.some.inj h
      subst e
      simp
    | succ j =>
      have := ih (j := j) (by simpa using h)
      show ((a :: r.set j true).count false) + 1 = (a :: r).count false
      rw [List.count_cons, List.count_cons]
      omega
/-- what is beside each crossing by these lines -/
def Beside (ps : List (Nat × Nat)) (f : Nat → List Nat) : Prop := ∀ i j, j ∈ f i ↔ ∃ p ∈ ps, (p.1 / 4 = i ∧ p.2 / 4 = j) ∨ (p.2 / 4 = i ∧ p.1 / 4 = j)
theorem dfs_whole {n : Nat} {ps : List (Nat × Nat)} {f : Nat → List Nat} {r : List Bool} (hb : Beside ps f) (d : Dfs 0 n f r [] fun _ => False) : r.all id = true ↔ Whole n ps := by
  constructor
  · intro h P hP h0 c hc
    refine d.so P (fun i j hj hi => ?_) h0 c ?_
    · obtain ⟨p, hp, q⟩ := (hb i j).mp hj
      rcases q with ⟨q1, q2⟩ | ⟨q1, q2⟩
      · rw [← q2]
        rw [← q1] at hi
        exact (hP p hp).mp hi
      · rw [← q2]
        rw [← q1] at hi
        exact (hP p hp).mpr hi
    · have hl : c < r.length := by rw [d.len]; exact hc
      unfold R
      rw [List.getElem?_eq_getElem hl]
      have := List.all_eq_true.mp h r[c] (List.getElem_mem hl)
      exact congrArg some this
  · intro w
    have all := w (fun i => R r i) (fun p hp => ?_) d.z
    · refine List.all_eq_true.mpr fun b hb' => ?_
      obtain ⟨i, hi, e⟩ := List.mem_iff_getElem.mp hb'
      have q := all i (by rw [← d.len]; exact hi)
      unfold R at q
      rw [List.getElem?_eq_getElem hi, e] at q
      exact Option.some.inj q
    · have clo : ∀ i j, j ∈ f i → R r i → R r j := fun i j hj hi => by
        rcases d.cl i hi with q | q | q
        · exact absurd q (by simp)
        · exact q.elim
        · exact q j hj
      exact ⟨clo _ _ ((hb _ _).mpr ⟨p, hp, .inl ⟨rfl, rfl⟩⟩), clo _ _ ((hb _ _).mpr ⟨p, hp, .inr ⟨rfl, rfl⟩⟩)⟩
/-- the lists with one more at one of them -/
def addTo (f : Nat → List Nat) (i x : Nat) : Nat → List Nat := fun k => if k = i then f k ++ [x] else f k
theorem beside_nil : Beside [] fun _ => [] := fun i j => ⟨fun h => absurd h (by simp), fun ⟨p, hp, _⟩ => absurd hp (by simp)⟩
theorem mem_addTo {f : Nat → List Nat} {i x k j : Nat} : j ∈ addTo f i x k ↔ j ∈ f k ∨ (k = i ∧ j = x) := by
  unfold addTo
  by_cases e : k = i
  · rw [if_pos e, List.mem_append, List.mem_singleton]
    exact or_congr Iff.rfl ⟨fun h => ⟨e, h⟩, fun h => h.2⟩
  · rw [if_neg e]
    exact ⟨.inl, fun h => h.elim id fun q => absurd q.1 e⟩
theorem beside_add {ps : List (Nat × Nat)} {f : Nat → List Nat} (p : Nat × Nat) (h : Beside ps f) : Beside (ps ++ [p]) (addTo (addTo f (p.1 / 4) (p.2 / 4)) (p.2 / 4) (p.1 / 4)) := by
  intro i j
  rw [mem_addTo, mem_addTo, h i j]
  constructor
  · rintro ((⟨q, hq, z⟩ | ⟨rfl, rfl⟩) | ⟨rfl, rfl⟩)
    · exact ⟨q, List.mem_append.mpr (.inl hq), z⟩
    · exact ⟨p, List.mem_append.mpr (.inr (List.mem_singleton.mpr rfl)), .inl ⟨rfl, rfl⟩⟩
    · exact ⟨p, List.mem_append.mpr (.inr (List.mem_singleton.mpr rfl)), .inr ⟨rfl, rfl⟩⟩
  · rintro ⟨q, hq, z⟩
    rcases List.mem_append.mp hq with hq | hq
    · exact .inl (.inl ⟨q, hq, z⟩)
    · rw [List.mem_singleton.mp hq] at z
      rcases z with ⟨a, b⟩ | ⟨a, b⟩
      · exact .inl (.inr ⟨a.symm, b.symm⟩)
      · exact .inr ⟨a.symm, b.symm⟩
end One
end P_M3

section P_E3
set_option linter.all false
set_option maxRecDepth 100000
set_option maxHeartbeats 4000000
namespace One
open PySem PySem.Spec PyProof.Rows L2
abbrev sIsWhole : Stmt := top 18
abbrev nWhole : List Str := ["lines"]
theorem scIsWhole : FnScope nWhole ["lines"] (defScope sIsWhole) := ⟨rfl, rfl, rfl, by decide +kernel, rfl, by decide +kernel, by decide +kernel⟩
def ltB : V → V → Bool
  | .int a, .int b => decide (a < b)
  | _, _ => false
def lineB (xs : List V) (n : Int) : Bool := match xs with
  | [x, y] => belowV x n && belowV y n && ltB x y
  | _ => false
def spIsLine : Sp := fun vs H Q _ => ∃ (v : V) (n : Int), vs = [v, .int n] ∧ ((∃ T, TV H v T ∧ isTup T = false ∧ Q (.bl false) H) ∨ ∃ (a : Addr) (xs : List V), v = .ref a ∧ H a = some (.tup xs) ∧ (∀ x ∈ xs, ∃ T, TV H x T) ∧ Q (.bl (lineB xs n)) H)
/-- lines that are asked whether they hang together -/
structure Asked (n : Nat) (ps : List (Nat × Nat)) : Prop where
  pos : 0 < n
  len : ps.length = 2 * n
  lt : ∀ p ∈ ps, p.1 < 4 * n ∧ p.2 < 4 * n
def spIsWhole : Sp := fun vs H Q _ => ∃ (t : Addr) (n : Nat) (as : List Addr) (ps : List (Nat × Nat)), vs = [.ref t] ∧ H t = some (.tup (refs as)) ∧ PL H as ps ∧ Asked n ps ∧ n ≤ 100 ∧
  ∀ (H' : Hp) (b : Bool), Same H H' → (b = true ↔ Whole n ps) → Q (.bl b) H'
section
variable {P : Program} {w : World} {K : PySem.W.Frag} {mg : Str → Option Value} {base : Heap}
theorem ok_isline {f fB : Addr} {fd fdB : FuncData} (F : Fun K "is_line" "is_line" sIsLine f fd) (T : TB mg) (B : Cal K mg "is_below" fB fdB ["thing", "many"]) (GB : FnOk P w K mg base CX0 2 fB fdB ["thing", "many"] spIsBelow) :
    FnOk P w K mg base CX0 3 f fd ["thing", "many_ends"] spIsLine := by
  refine F.ok scIsLine (fun vs H Q E h => ?_) (fun cdv A outer s H vs Q E hr h => ?_)
  · obtain ⟨v, n, rfl, _⟩ := h
    rfl
  · obtain ⟨v, n, rfl, h⟩ := h
    have nd := scIsLine.nd
    refine ⟨_, pss_cons (ps_if (PW.pt (pw_or (pt_not (pt_val (pe_callB call_isi (by rfl) T.isinstance boot_isinstance (pa_cons (pv 0) (pa_cons (pe_bltn (v := .ty "tuple") (by rfl) T.tuple boot_tuple rfl) pa_nil)))))
        (pw_or1 (pt_cmpR op_ne (pe_callB call_len_seq (by rfl) T.len PySem.boot_len (pa_cons (pv 0) pa_nil)) pe_int (nomark _))))) (pss_one (ps_ret pe_bl)) pss_nil)
      (pss_cons (ps_asg (pv 0) (pg_tup rfl (pgs_cons (pg_name (i := 2) nd rfl (Or.inl rfl)) (pgs_cons (pg_name (i := 3) nd rfl (Or.inl rfl)) pgs_nil))))
      (pss_one (ps_ret (pe_and (pe_call GB hr rfl B.g B.kp B.b .nil pass0 (pa_cons (pv 2) (pa_cons (pv 1) pa_nil))) (pe_and (pe_call GB hr rfl B.g B.kp B.b .nil pass0 (pa_cons (pv 3) (pa_cons (pv 1) pa_nil)))
        (pe_one (pe_cmpR op_lt (pv 2) (pv 3) (nomark _)))))))), ?_⟩
    rcases h with ⟨ty, hv, hT, k⟩ | ⟨a, xs, rfl, ha, hx, k⟩
    · refine ⟨_, rfl, v, _, _, _, _, rfl, .ty _, hv.tyx, hv.kTup, _, rfl, ?_⟩
      rw [hT]
      exact iteT k
    · refine ⟨_, rfl, _, _, _, _, _, rfl, .ty _, (TV.tup ha).tyx, (TV.tup ha).kTup, _, rfl, ?_⟩
      refine iteF ⟨_, rfl, a, _, rfl, .inr (SqT.of ha), rfl, _, rfl, ?_⟩
      refine ite2 (fun hne => ?_) (fun heq => ?_)
      · have e : lineB xs n = false := by
          match xs, hne with
          | [], _ => rfl
          | [_], _ => rfl
          | [_, _], hne => simp at hne
          | _ :: _ :: _ :: _, _ => rfl
        rw [e] at k
        exact k
      · have hl : xs.length = 2 := by
          have q : ((xs.length : Nat) : Int) = 2 := by simpa using heq
          omega
        match xs, hl, hx, ha, k with
        | [x, y], _, hx, ha, k =>
          obtain ⟨t1, h1⟩ := hx x (by simp)
          obtain ⟨t2, h2⟩ := hx y (by simp)
          refine ⟨_, rfl, a, _, rfl, SqT.of ha, rfl, _, _, rfl, _, _, rfl, rfl, ?_⟩
          refine ⟨_, rfl, _, rfl, x, n, t1, rfl, h1, _, rfl, ?_⟩
          have k : Q (.bl (belowV x n && belowV y n && ltB x y)) H := k
          refine ite2 (fun b1 => ?_) (fun b1 => ?_)
          · refine ⟨_, rfl, _, rfl, y, n, t2, rfl, h2, _, rfl, ?_⟩
            refine ite2 (fun b2 => ?_) (fun b2 => ?_)
            · rw [b1, b2] at k
              cases x with
              | int i =>
                cases y with
                | int j => exact ⟨_, rfl, _, rfl, _, _, rfl, rfl, k⟩
                | _ => cases b2
              | _ => cases b1
            · rw [b1, Bool.eq_false_iff.mpr b2] at k
              exact k
          · rw [Bool.eq_false_iff.mpr b1] at k
            exact k
end
end One
end P_E3

section P_R1
set_option linter.all false
set_option maxRecDepth 100000
set_option maxHeartbeats 8000000
namespace One
open PySem PySem.Spec PyProof.Rows L2
/-- a list of lists of numbers at B, at bl, f says what stands in each; all made behind H0 -/
structure BSt (H0 H : Hp) (B : Addr) (bl : List Addr) (f : Nat → List Nat) : Prop where
  same : Same H0 H
  b : H B = some (.lst (refs bl))
  at_ : ∀ i a, bl[i]? = some a → H a = some (.lst (nats (f i)))
  new : ∀ a ∈ bl, H0 a = none
  nd : bl.Nodup
  nb : B ∉ bl
theorem BSt.keep {H0 H H' : Hp} {B : Addr} {bl : List Addr} {f : Nat → List Nat} (s : BSt H0 H B bl f) (k : Same H H') : BSt H0 H' B bl f :=
  ⟨s.same.trans k, k _ _ s.b, fun i a h => k _ _ (s.at_ i a h), s.new, s.nd, s.nb⟩
theorem BSt.wr {H0 H : Hp} {B q : Addr} {bl : List Addr} {f : Nat → List Nat} {o : HO} (s : BSt H0 H B bl f) (h0 : H0 q = none) (h1 : q ≠ B) (h2 : q ∉ bl) : BSt H0 (upd H q o) B bl f := by
  refine ⟨fun b u e => ?_, by rw [upd_ne (Ne.symm h1)]; exact s.b, fun i a h => ?_, s.new, s.nd, s.nb⟩
  · rw [upd_ne (ne_of_none e h0)]
    exact s.same _ _ e
  · rw [upd_ne (fun z => h2 (by rw [← z]; exact List.mem_of_getElem? h))]
    exact s.at_ i a h
theorem BSt.add {H0 H : Hp} {B a : Addr} {bl : List Addr} {f : Nat → List Nat} {i x : Nat} (s : BSt H0 H B bl f) (ha : bl[i]? = some a) : BSt H0 (upd H a (.lst (nats (f i) ++ [V.int (x : Nat)]))) B bl (addTo f i x) := by
  have hm := List.mem_of_getElem? ha
  refine ⟨fun b u e => ?_, by rw [upd_ne (fun z => s.nb (by rw [z]; exact hm))]; exact s.b, fun j c h => ?_, s.new, s.nd, s.nb⟩
  · rw [upd_ne (ne_of_none e (s.new a hm))]
    exact s.same _ _ e
  · unfold addTo
    by_cases e : j = i
    · subst e
      rw [ha] at h
      cases h
      rw [if_pos rfl, upd_same, nats_app]
      rfl
    · rw [if_neg e, upd_ne (fun z => e (nd_ix s.nd h (by rw [z]; exact ha)))]
      exact s.at_ j c h
def lenAt (H : Hp) (a : Addr) : Nat := match H a with
  | some (.lst xs) => xs.length
  | _ => 0
def noAt (H : Hp) (a : Addr) : Nat := match H a with
  | some (.lst xs) => xs.countP fun v => match v with | .bl b => !b | _ => false
  | _ => 0
theorem lenAt_of {H : Hp} {a : Addr} {ns : List Nat} (h : H a = some (.lst (nats ns))) : lenAt H a = ns.length := by
  unfold lenAt
  rw [h]
  exact List.length_map _
theorem noAt_of {H : Hp} {a : Addr} {r : List Bool} (h : H a = some (.lst (r.map V.bl))) : noAt H a = r.count false := by
  unfold noAt
  rw [h]
  show (r.map V.bl).countP _ = _
  rw [List.countP_map]
  refine List.countP_congr fun b _ => ?_
  cases b <;> simp
theorem take_ends {H : Hp} {ps : List (Nat × Nat)} {i : Nat} {p : Nat × Nat} (h : ps[i]? = some p) : ps.take (i + 1) = ps.take i ++ [p] := by
  rw [List.take_succ, h]
  rfl
theorem fdiv4 (x : Nat) : ((x : Nat) : Int) / 4 = ((x / 4 : Nat) : Int) := by omega
theorem nodup_app {α : Type} {l : List α} {x : α} (h : l.Nodup) (hx : x ∉ l) : (l ++ [x]).Nodup := by
  refine List.nodup_append.mpr ⟨h, by simp, fun a ha b hb => ?_⟩
  rw [List.mem_singleton.mp hb]
  exact fun e => hx (e ▸ ha)
theorem ix_nat {n j : Nat} (h : j < n) : ixN n ((j : Nat) : Int) = some j := by
  unfold ixN
  rw [if_pos (by omega), if_pos (by omega)]
  rfl
theorem flat_rep {α : Type} (x : α) : ∀ n : Nat, (List.replicate n [x]).flatten = List.replicate n x
  | 0 => rfl
  | n + 1 => by
    rw [List.replicate_succ, List.flatten_cons, flat_rep x n, List.replicate_succ]
    rfl
abbrev sBesideX : Stmt := top 19
abbrev nBesideX : List Str := ["lines", "many", "beside", "low", "high", "_"]
theorem scBesideX : FnScope nBesideX ["lines", "many"] (defScope sBesideX) := ⟨rfl, rfl, rfl, by decide +kernel, rfl, by decide +kernel, by decide +kernel⟩
/-- what is beside each of n crossings by these lines, told as lists in a list, all new -/
def spBesideX : Sp := fun vs H Q _ => ∃ (t : Addr) (n : Nat) (as : List Addr) (ps : List (Nat × Nat)), vs = [.ref t, .int (n : Nat)] ∧ H t = some (.tup (refs as)) ∧ PL H as ps ∧ (∀ p ∈ ps, p.1 < 4 * n ∧ p.2 < 4 * n) ∧ n ≤ 200 ∧ ps.length ≤ 400 ∧
  ∀ (H' : Hp) (D : Addr) (bl : List Addr) (f : Nat → List Nat), BSt H H' D bl f → H D = none → bl.length = n → Beside ps f → Q (.ref D) H'
section
variable {P : Program} {w : World} {K : PySem.W.Frag} {mg : Str → Option Value} {base : Heap}
theorem ok_besideX {f : Addr} {fd : FuncData} (F : Fun K "crossings_beside" "crossings_beside" sBesideX f fd) (T : TB mg) (C : TC mg) : FnOk P w K mg base CX0 1 f fd ["lines", "many"] spBesideX := by
  refine F.ok scBesideX (fun vs H Q E h => ?_) (fun cdv A outer s H vs Q E hr h => ?_)
  · obtain ⟨t, n, as, ps, rfl, _⟩ := h
    rfl
  · obtain ⟨t, n, as, ps, rfl, ht, hP, hA, hn, hpl, k⟩ := h
    have nd := scBesideX.nd
    obtain ⟨t4, ht4⟩ := C.places
    refine ⟨_, pss_cons (ps_setLc (i := 2) (own := [("_", 5)]) (g := gName 5) (tt := tYes) (te := tLst tNil) rfl nd rfl rfl (sw_true rfl rfl rfl (by decide +kernel)) (pi_range1 (by rfl) T.range (pa_cons (pv 1) pa_nil)) (blkOk_by (N := nBesideX) (sc := defScope sBesideX) (by decide +kernel))
        (fun _ _ _ _ _ => pg_name (i := 5) nd rfl (Or.inl rfl)) (fun _ _ _ _ _ => pts_nil) (fun _ _ _ _ _ => pe_lst pa_nil))
      (pss_cons (ps_for PassesOwn.never rfl (pi_tup (pv 0)) (pg_tup rfl (pgs_cons (pg_name (i := 3) nd rfl (Or.inl rfl)) (pgs_cons (pg_name (i := 4) nd rfl (Or.inl rfl)) pgs_nil)))
        (pss_cons (ps_expr (pe_bm PySem.F.plainAttrs_list PySem.F.slot_list_append PySem.F.type_list_append mt_append (pe_ix ix_list (pv 2) (pe_op op_fdiv (pv 3) (pe_glob (v := .int 4) rfl ht4 ⟨_, rfl⟩)) (fun _ _ => rfl)) (pa_cons (pe_op op_fdiv (pv 4) (pe_glob (v := .int 4) rfl ht4 ⟨_, rfl⟩)) pa_nil)))
        (pss_one (ps_expr (pe_bm PySem.F.plainAttrs_list PySem.F.slot_list_append PySem.F.type_list_append mt_append (pe_ix ix_list (pv 2) (pe_op op_fdiv (pv 4) (pe_glob (v := .int 4) rfl ht4 ⟨_, rfl⟩)) (fun _ _ => rfl)) (pa_cons (pe_op op_fdiv (pv 3) (pe_glob (v := .int 4) rfl ht4 ⟨_, rfl⟩)) pa_nil))))))
      (pss_one (ps_ret (pv 2)))), ?_⟩
    have hal : as.length = ps.length := hP.len
    have nl : (refs as).length = as.length := List.length_map _
    refine ⟨_, rfl, n, rfl, by omega, by omega, fun D hD => ?_⟩
    refine lc_it (walk_range (lo := 0) (n := ((n : Nat) : Int).toNat)) (fun i H6 => ∃ bl : List Addr, BSt H H6 D bl (fun _ => []) ∧ bl.length = i) ⟨[], ⟨Same.new hD, upd_same, fun i a h => absurd h (by simp), fun a h => absurd h (by simp), .nil, by simp⟩, rfl⟩ (fun _ _ _ _ => trivial) ?_ ?_
    · rintro i x H6 H7 hi ⟨bl, hB, hl⟩ ⟨rfl, rfl⟩
      refine ⟨rfl, yes ⟨Nat.zero_le _, fun l hl' => ⟨_, (Same.new hl') _ _ hB.b, small1000 ?_, bl ++ [l], ?_, ?_⟩⟩⟩
      · rw [List.length_map]
        omega
      · have s1 := Same.new (o := .lst []) hl'
        have h0 : H l = none := hB.same.free hl'
        have nlD : l ≠ D := (ne_of_none hB.b hl').symm
        have nlb : l ∉ bl := fun m => by
          obtain ⟨j, hj, e⟩ := List.mem_iff_getElem.mp m
          have q := hB.at_ j l (by rw [List.getElem?_eq_getElem hj, e])
          rw [hl'] at q
          cases q
        refine ⟨fun b u e => ?_, by rw [upd_same, refs_app]; rfl, fun j a h => ?_, fun a m => ?_, nodup_app hB.nd nlb, fun m => ?_⟩
        · rw [upd_ne (ne_of_none e hD)]
          exact s1 _ _ (hB.same _ _ e)
        · by_cases hj : j < bl.length
          · rw [List.getElem?_append_left hj] at h
            have q := hB.at_ j a h
            rw [upd_ne (fun z => hB.nb (by rw [← z]; exact List.mem_of_getElem? h))]
            exact s1 _ _ q
          · rw [List.getElem?_append_right (by omega)] at h
            have ea : a = l := by
              have := List.mem_of_getElem? h
              exact List.mem_singleton.mp this
            rw [ea, upd_ne nlD, upd_same]
            rfl
        · rcases List.mem_append.mp m with m | m
          · exact hB.new a m
          · rw [List.mem_singleton.mp m]
            exact h0
        · rcases List.mem_append.mp m with m | m
          · exact hB.nb m
          · exact nlD (List.mem_singleton.mp m).symm
      · rw [List.length_append, hl]
        rfl
    · rintro H6 ⟨bl, hB, hl⟩
      have hl : bl.length = n := by rw [hl]; omega
      refine ⟨_, rfl, t, rfl, ⟨_, SqT.of (hB.same _ _ ht)⟩, for_tup (K := K) (a := t) (xs := refs as) (fun i σ H7 => ∃ (f : Nat → List Nat) (v2 v3 : Option V), σ = [some (.ref t), some (.int (n : Nat)), some (.ref D), v2, v3, none] ∧ BSt H H7 D bl f ∧ Beside (ps.take i) f ∧ ∀ j, (f j).length ≤ 2 * i)
        ⟨fun _ => [], none, none, rfl, hB, beside_nil, fun _ => Nat.zero_le _⟩ (fun i σ H7 _ ⟨f, _, _, _, h, _⟩ => SqT.of (h.same _ _ ht)) ?_ ?_⟩
      · rintro i x σ H7 hx ⟨f, v2, v3, rfl, hB7, hbs, hfl⟩
        obtain ⟨a, ha⟩ : ∃ a, as[i]? = some a := by
          rw [List.getElem?_map] at hx
          cases e : as[i]? with
          | none =>
            rw [e] at hx
            cases hx
          | some a => exact ⟨a, rfl⟩
        rw [List.getElem?_map, ha] at hx
        cases hx
        obtain ⟨p, hp, pa⟩ := hP.got ha
        have hi : i < ps.length := by
          have := (List.getElem?_eq_some_iff.mp ha).1
          omega
        obtain ⟨q1, q2⟩ := hA p (List.mem_of_getElem? hp)
        have g1 : p.1 / 4 < bl.length := by omega
        have g2 : p.2 / 4 < bl.length := by omega
        obtain ⟨b1, hb1⟩ : ∃ b, bl[p.1 / 4]? = some b := ⟨_, List.getElem?_eq_getElem g1⟩
        obtain ⟨b2, hb2⟩ : ∃ b, bl[p.2 / 4]? = some b := ⟨_, List.getElem?_eq_getElem g2⟩
        have pa7 := hB7.same _ _ pa
        refine ⟨a, _, rfl, SqT.of pa7, rfl, _, _, rfl, _, _, rfl, rfl, ?_⟩
        have c1 := hB7.at_ _ _ hb1
        refine ⟨_, rfl, _, rfl, _, _, rfl, rfl, ⟨by decide, by decide⟩, D, _, _, .ref b1, rfl, rfl, SqL.of hB7.b, (by show atI _ (((p.1 : Nat) : Int) / 4) = _; rw [fdiv4]; exact ref_at hb1), .inl ⟨rfl, _, SqL.of c1⟩, _, rfl, _, _, rfl, rfl, ⟨by decide, by decide⟩, b1, _, _, rfl, rfl, c1, small1000 ?_, ?_⟩
        · rw [List.length_map]
          have := hfl (p.1 / 4)
          omega
        have hB8 : BSt H (upd H7 b1 (.lst (nats (f (p.1 / 4)) ++ [V.int (((p.2 : Nat) : Int) / 4)]))) D bl (addTo f (p.1 / 4) (p.2 / 4)) := by
          rw [fdiv4]
          exact hB7.add hb1
        have c2 := hB8.at_ _ _ hb2
        refine ⟨_, rfl, _, rfl, _, _, rfl, rfl, ⟨by decide, by decide⟩, D, _, _, .ref b2, rfl, rfl, SqL.of hB8.b, (by show atI _ (((p.2 : Nat) : Int) / 4) = _; rw [fdiv4]; exact ref_at hb2), .inl ⟨rfl, _, SqL.of c2⟩, _, rfl, _, _, rfl, rfl, ⟨by decide, by decide⟩, b2, _, _, rfl, rfl, c2, small1000 ?_, ?_⟩
        · rw [List.length_map]
          have := hfl (p.2 / 4)
          unfold addTo
          split
          · rw [List.length_append, List.length_singleton]
            omega
          · omega
        have hB9 : BSt H (upd (upd H7 b1 (.lst (nats (f (p.1 / 4)) ++ [V.int (((p.2 : Nat) : Int) / 4)]))) b2 (.lst (nats (addTo f (p.1 / 4) (p.2 / 4) (p.2 / 4)) ++ [V.int (((p.1 : Nat) : Int) / 4)]))) D bl (addTo (addTo f (p.1 / 4) (p.2 / 4)) (p.2 / 4) (p.1 / 4)) := by
          rw [fdiv4 p.1]
          exact hB8.add hb2
        refine ⟨_, _, _, rfl, hB9, ?_, fun j => ?_⟩
        · rw [take_ends (H := H) hp]
          exact beside_add p hbs
        · have := hfl j
          unfold addTo
          split <;> split <;> (try simp only [List.length_append, List.length_singleton]) <;> omega
      · rintro σ H7 ⟨f, v2, v3, rfl, hB7, hbs, hfl⟩
        rw [nl, hP.len, List.take_length] at hbs
        exact ⟨_, rfl, k _ D bl f hB7 hD hl hbs⟩
end
end One
end P_R1

section P_R2
set_option linter.all false
set_option maxRecDepth 100000
set_option maxHeartbeats 8000000
namespace One
open PySem PySem.Spec PyProof.Rows L2
abbrev sReached : Stmt := top 9
abbrev nReached : List Str := ["beside", "start", "told", "waiting", "other"]
theorem scReached : FnScope nReached ["beside", "start"] (defScope sReached) := ⟨rfl, rfl, rfl, by decide +kernel, rfl, by decide +kernel, by decide +kernel⟩
/-- lists of numbers in a list -/
structure LL (H : Hp) (B : Addr) (bl : List Addr) (f : Nat → List Nat) : Prop where
  b : H B = some (.lst (refs bl))
  at_ : ∀ i a, bl[i]? = some a → H a = some (.lst (nats (f i)))
theorem LL.keep {H H' : Hp} {B : Addr} {bl : List Addr} {f : Nat → List Nat} (s : LL H B bl f) (k : Same H H') : LL H' B bl f := ⟨k _ _ s.b, fun i a h => k _ _ (s.at_ i a h)⟩
theorem BSt.ll {H0 H : Hp} {B : Addr} {bl : List Addr} {f : Nat → List Nat} (s : BSt H0 H B bl f) : LL H B bl f := ⟨s.b, s.at_⟩
/-- to which numbers one comes from s, told as a new list of truths -/
def spReached : Sp := fun vs H Q _ => ∃ (B : Addr) (bl : List Addr) (f : Nat → List Nat) (n s : Nat), vs = [.ref B, .int (s : Nat)] ∧ LL H B bl f ∧ bl.length = n ∧ s < n ∧ n ≤ 200 ∧ (∀ i j, i < n → j ∈ f i → j < n) ∧
  ∀ (H' : Hp) (R4 : Addr) (r : List Bool), Same H H' → H R4 = none → H' R4 = some (.lst (r.map V.bl)) → Dfs s n f r [] (fun _ => False) → Q (.ref R4) H'
section
variable {P : Program} {w : World} {K : PySem.W.Frag} {mg : Str → Option Value} {base : Heap}
theorem ok_reached {f : Addr} {fd : FuncData} (F : Fun K "reached" "reached" sReached f fd) (T : TB mg) : FnOk P w K mg base CX0 1 f fd ["beside", "start"] spReached := by
  refine F.ok scReached (fun vs H Q E h => ?_) (fun cdv A outer s H vs Q E hr h => ?_)
  · obtain ⟨B, bl, g, n, st, rfl, _⟩ := h
    rfl
  · obtain ⟨B, bl, g, n, st, rfl, hL, hl, hs, hn, flt, k⟩ := h
    have nd := scReached.nd
    refine ⟨_, pss_cons (ps_set (i := 2) nd rfl (Or.inl rfl) (pe_op op_rep (pe_lst (pa_cons pe_bl pa_nil)) (pe_callB call_len_seq (by rfl) T.len PySem.boot_len (pa_cons (pv 0) pa_nil))))
      (pss_cons (ps_asg pe_bl (pg_sub (pv 2) (pv 1) set_list))
      (C8.pss_cut (ps_set (i := 3) nd rfl (Or.inl rfl) (pe_lst (pa_cons (pv 1) pa_nil)))
      (pss_cons (ps_while PassesOwn.never (pt_truth (pv 3) (by intro _; rfl))
        (pss_one (ps_for PassesOwn.never rfl (pi_list (pe_ix ix_list (pv 0) (pe_bm0 PySem.F.plainAttrs_list PySem.F.slot_list_pop PySem.F.type_list_pop mt_pop (pv 3)) (fun _ _ => rfl))) (pg_name (i := 4) nd rfl (Or.inl rfl))
          (pss_one (ps_if (pt_not (pt_val (pe_ix ix_list (pv 2) (pv 4) (fun _ _ => rfl)))) (pss_cons (ps_asg pe_bl (pg_sub (pv 2) (pv 4) set_list))
            (pss_one (ps_expr (pe_bm PySem.F.plainAttrs_list PySem.F.slot_list_append PySem.F.type_list_append mt_append (pv 3) (pa_cons (pv 4) pa_nil))))) pss_nil)))))
      (pss_one (ps_ret (pv 2)))))), ?_⟩
    have nlb : (((refs bl).length : Nat)) = n := by rw [List.length_map]; exact hl
    refine ⟨by show 1 ≤ sizeLine; decide, fun l1 hl1 => ⟨_, rfl, B, _, rfl, .inl (SqL.of ((Same.new hl1) _ _ hL.b)), ?_⟩⟩
    have s1 := Same.new (o := .lst [V.bl false]) hl1
    refine ⟨l1, _, _, rfl, rfl, upd_same, by omega, by omega, (by rw [nlb]; show 1 * _ ≤ _; exact Nat.le_of_lt (small1000 (by omega))), fun R4 hR4 => ?_⟩
    have s2 := Same.new (o := .lst (List.replicate (((refs bl).length : Nat) : Int).toNat [V.bl false]).flatten) hR4
    have eR : (List.replicate (((refs bl).length : Nat) : Int).toNat [V.bl false]).flatten = (List.replicate n false).map V.bl := by
      rw [nlb, show ((n : Nat) : Int).toNat = n by omega, List.map_replicate]
      exact flat_rep _ n
    have hR0 : H R4 = none := s1.free hR4
    have s12 := s1.trans s2
    refine ⟨_, rfl, _, rfl, R4, _, _, st, rfl, rfl, upd_same, ix_nat (by rw [eR, List.length_map, List.length_replicate]; exact hs), ?_⟩
    rw [eR]
    rw [eR] at s12
    have sa : Same H (upd (upd (upd H l1 (.lst [V.bl false])) R4 (.lst ((List.replicate n false).map V.bl))) R4 (.lst (((List.replicate n false).map V.bl).set st (V.bl true)))) := fun b u e => by
      rw [upd_ne (ne_of_none e hR0)]
      exact s12 _ _ e
    have setR : ∀ (r : List Bool) (j : Nat), (r.map V.bl).set j (V.bl true) = (r.set j true).map V.bl := fun r j => (List.map_set).symm
    refine ⟨fun σ H9 => ∃ (W : Addr) (r : List Bool) (w : List Nat) (v4 : Option V), (H W = none ∧ W ≠ R4) ∧ σ = [some (.ref B), some (.int (st : Nat)), some (.ref R4), some (.ref W), v4] ∧ Same H H9 ∧ H9 R4 = some (.lst (r.map V.bl)) ∧ H9 W = some (.lst (nats w)) ∧ Dfs st n g r w (fun _ => False) ∧ w.length + r.count false ≤ n, ⟨_, rfl, ⟨by show 1 ≤ sizeLine; decide, fun W hW => ?_⟩⟩, ?_⟩
    · have s3 := Same.new (o := .lst [V.int (st : Nat)]) hW
      have hW0 : H W = none := sa.free hW
      have nWR : W ≠ R4 := (ne_of_none upd_same hW).symm
      refine ⟨W, (List.replicate n false).set st true, [st], none, ⟨hW0, nWR⟩, rfl, sa.trans s3, ?_, upd_same, dfs_start g hs, ?_⟩
      · rw [upd_ne (Ne.symm nWR), upd_same, setR]
      · have := count_set (r := List.replicate n false) (j := st) (by rw [List.getElem?_replicate, if_pos hs])
        rw [List.count_replicate_self] at this
        show 1 + _ ≤ n
        omega
    · rintro σ0 H0 ⟨W, r0, w0, v4', ⟨hW0, nWR⟩, rfl, sH0, hR0', hw0, hd0, hm0⟩
      unfold tSeq
      refine while_by (fun σ H9 => ∃ (r : List Bool) (w : List Nat) (v4 : Option V), σ = [some (.ref B), some (.int (st : Nat)), some (.ref R4), some (.ref W), v4] ∧ Same H H9 ∧ H9 R4 = some (.lst (r.map V.bl)) ∧ H9 W = some (.lst (nats w)) ∧ Dfs st n g r w (fun _ => False) ∧ w.length + r.count false ≤ n)
        (fun σ H9 => 2 * noAt H9 R4 + lenAt H9 W) ⟨r0, w0, v4', rfl, sH0, hR0', hw0, hd0, hm0⟩ ?_ ?_
      · rintro σ H9 ⟨r, w, v4, rfl, sH, hR, hw, hd, hm⟩
        refine ⟨_, rfl, _, .inl ⟨_, SqL.of hw, rfl⟩, ?_⟩
        rcases List.eq_nil_or_concat w with rfl | ⟨w', c, rfl⟩
        · refine iteF ?_
          exact ⟨_, rfl, k _ R4 r sH hR0 hR hd⟩
        · rw [List.concat_eq_append] at hw hd hm ⊢
          have hne : (!(nats (w' ++ [c])).isEmpty) = true := by
            rw [nats_app]
            cases nats w' <;> rfl
          rw [hne]
          refine iteT ?_
          have hlast : (nats (w' ++ [c]))[(nats (w' ++ [c])).length - 1]? = some (V.int (c : Nat)) := by
            rw [nats_app, List.length_append]
            show (nats w' ++ [V.int (c : Nat)])[(nats w').length + 1 - 1]? = _
            rw [Nat.add_sub_cancel, List.getElem?_append_right (Nat.le_refl _), Nat.sub_self]
            rfl
          have hdrop : (nats (w' ++ [c])).dropLast = nats w' := by
            rw [nats_app]
            exact List.dropLast_concat
          have sH1 : Same H (upd H9 W (.lst (nats w'))) := fun b u e => by
            rw [upd_ne (ne_of_none e hW0)]
            exact sH _ _ e
          have hL1 := hL.keep sH1
          refine ⟨_, rfl, _, rfl, .inl ⟨rfl, _, SqL.of hw⟩, W, _, _, rfl, rfl, hw, hlast, ?_⟩
          rw [hdrop]
          have hRc : R r c := hd.wt c (List.mem_append.mpr (.inr (List.mem_singleton.mpr rfl)))
          have hcn : c < n := by
            have := (List.getElem?_eq_some_iff.mp hRc).1
            rw [hd.len] at this
            exact this
          have hR1 : (upd H9 W (.lst (nats w'))) R4 = some (.lst (r.map V.bl)) := by
            rw [upd_ne (Ne.symm nWR)]
            exact hR
          obtain ⟨b, hb⟩ : ∃ b, bl[c]? = some b := ⟨_, List.getElem?_eq_getElem (by omega)⟩
          have hbf := hL.at_ _ _ hb
          rw [List.length_append, List.length_singleton] at hm
          have hmu : 2 * noAt H9 R4 + lenAt H9 W = 2 * r.count false + (w'.length + 1) := by
            rw [noAt_of hR, lenAt_of hw, List.length_append, List.length_singleton]
          refine ⟨B, _, _, .ref b, rfl, rfl, SqL.of hL1.b, ref_at hb, b, rfl, ⟨_, SqL.of (sH1 _ _ hbf)⟩, for_list (K := K) (a := b) (xs := nats (g c)) (fun m σ Hm => ∃ (r2 : List Bool) (w2 : List Nat) (v4 : Option V), σ = [some (.ref B), some (.int (st : Nat)), some (.ref R4), some (.ref W), v4] ∧
              Same H Hm ∧ Hm R4 = some (.lst (r2.map V.bl)) ∧ Hm W = some (.lst (nats w2)) ∧ Dfs st n g r2 w2 (· = c) ∧ R r2 c ∧ w2.length + r2.count false + 1 ≤ n ∧ 2 * r2.count false + w2.length + 1 ≤ 2 * r.count false + (w'.length + 1) ∧ ∀ j ∈ (g c).take m, R r2 j)
            ⟨r, w', v4, rfl, sH1, hR1, upd_same, dfs_pop hd, hRc, by omega, by omega, fun j hj => absurd hj (by simp)⟩ (fun m σ Hm _ ⟨_, _, _, _, h, _⟩ => SqL.of (h _ _ hbf)) ?_ ?_⟩
          · rintro m x σ Hm hx ⟨r2, w2, v4, rfl, sH2, hR2, hw2, hd2, hRc2, hm1, hm2, hdone⟩
            obtain ⟨j, hj⟩ : ∃ j, (g c)[m]? = some j := by
              rw [List.getElem?_map] at hx
              cases e : (g c)[m]? with
              | none =>
                rw [e] at hx
                cases hx
              | some a => exact ⟨a, rfl⟩
            rw [List.getElem?_map, hj] at hx
            cases hx
            have hjf : j ∈ g c := List.mem_of_getElem? hj
            have hjn : j < n := flt c j hcn hjf
            have hjr : j < r2.length := by rw [hd2.len]; exact hjn
            obtain ⟨b2, hb2⟩ : ∃ b, r2[j]? = some b := ⟨_, List.getElem?_eq_getElem hjr⟩
            have etake : (g c).take (m + 1) = (g c).take m ++ [j] := by
              rw [List.take_succ, hj]
              rfl
            refine ⟨_, rfl, _, rfl, R4, _, _, .bl b2, rfl, rfl, SqL.of hR2, at_of (j := j) rfl (by rw [List.getElem?_map, hb2]; rfl), b2, rfl, ?_⟩
            cases b2 with
            | true =>
              refine iteF ⟨r2, w2, _, rfl, sH2, hR2, hw2, hd2, hRc2, hm1, hm2, fun i hi => ?_⟩
              rw [etake] at hi
              rcases List.mem_append.mp hi with hi | hi
              · exact hdone i hi
              · rw [List.mem_singleton.mp hi]
                exact hb2
            | false =>
              have hcnt := count_set hb2
              refine iteT ⟨_, rfl, _, rfl, R4, _, _, j, rfl, rfl, hR2, ix_nat (by rw [List.length_map]; exact hjr), ?_⟩
              have hw3 : (upd Hm R4 (.lst ((r2.map V.bl).set j (V.bl true)))) W = some (.lst (nats w2)) := by
                rw [upd_ne nWR]
                exact hw2
              refine ⟨_, rfl, .inl ⟨rfl, _, SqL.of hw3⟩, _, rfl, W, _, _, rfl, rfl, hw3, small1000 (by rw [List.length_map]; omega), ?_⟩
              refine ⟨r2.set j true, w2 ++ [j], _, rfl, (fun b u e => ?_), ?_, ?_, dfs_mark hd2 hRc2 hjf hjn, R_set hRc2, ?_, ?_, fun i hi => ?_⟩
              · rw [upd_ne (ne_of_none e hW0), upd_ne (ne_of_none e hR0)]
                exact sH2 _ _ e
              · rw [upd_ne (Ne.symm nWR), upd_same, setR]
              · rw [upd_same, nats_app]
                rfl
              · rw [List.length_append, List.length_singleton]
                omega
              · rw [List.length_append, List.length_singleton]
                omega
              · rw [etake] at hi
                rcases List.mem_append.mp hi with hi | hi
                · exact R_set (hdone i hi)
                · rw [List.mem_singleton.mp hi]
                  exact R_new hjr
          · rintro σ Hm ⟨r2, w2, v4, rfl, sH2, hR2, hw2, hd2, hRc2, hm1, hm2, hdone⟩
            rw [List.length_map, List.take_length] at hdone
            refine ⟨⟨r2, w2, _, rfl, sH2, hR2, hw2, dfs_finish hd2 hdone, by omega⟩, ?_⟩
            show 2 * noAt Hm R4 + lenAt Hm W < 2 * noAt H9 R4 + lenAt H9 W
            rw [hmu, noAt_of hR2, lenAt_of hw2]
            omega
      · intro σ H1 Q1 Q2 hq h
        obtain ⟨v, e, kk, ht, q⟩ := h
        exact ⟨v, e, kk, ht, hq _ _ q⟩
end
end One
end P_R2

section P_E4
set_option linter.all false
set_option maxRecDepth 100000
set_option maxHeartbeats 4000000
namespace One
open PySem PySem.Spec PyProof.Rows L2
section
variable {P : Program} {w : World} {K : PySem.W.Frag} {mg : Str → Option Value} {base : Heap}
theorem ok_iswhole {f fR fB : Addr} {fd fdR fdB : FuncData} (F : Fun K "is_whole" "is_whole" sIsWhole f fd) (T : TB mg) (DR : Cal K mg "reached" fR fdR ["beside", "start"]) (GR : FnOk P w K mg base CX0 1 fR fdR ["beside", "start"] spReached)
    (DB : Cal K mg "crossings_beside" fB fdB ["lines", "many"]) (GB : FnOk P w K mg base CX0 1 fB fdB ["lines", "many"] spBesideX) : FnOk P w K mg base CX0 2 f fd ["lines"] spIsWhole := by
  refine F.ok scIsWhole (fun vs H Q E h => ?_) (fun cdv A outer s H vs Q E hr h => ?_)
  · obtain ⟨t, n, as, ps, rfl, _⟩ := h
    rfl
  · obtain ⟨t, n, as, ps, rfl, ht, hP, hA, hn, k⟩ := h
    refine ⟨_, pss_one (ps_ret (pe_callB (cr_all rfl) (by rfl) T.all boot_all (pa_cons (pe_call GR hr rfl DR.g DR.kp DR.b .nil pass0 (pa_cons (pe_call GB hr rfl DB.g DB.kp DB.b .nil pass0 (pa_cons (pv 0) (pa_cons (pe_op op_fdiv (pe_callB call_len_seq (by rfl) T.len PySem.boot_len (pa_cons (pv 0) pa_nil)) pe_int) pa_nil))) (pa_cons pe_int pa_nil))) pa_nil))), ?_⟩
    have hal : as.length = 2 * n := by rw [hP.len, hA.len]
    have nl : (refs as).length = as.length := List.length_map _
    have e2 : (((refs as).length : Nat) : Int) / 2 = (n : Nat) := by rw [nl, hal]; omega
    refine ⟨_, rfl, _, rfl, t, _, rfl, .inr (SqT.of ht), _, _, rfl, rfl, ⟨by decide, by decide⟩, t, n, as, ps, (by show [V.ref t, V.int ((((refs as).length : Nat) : Int) / 2)] = _; rw [e2]), ht, hP, hA.lt, by omega, (by rw [hA.len]; omega), fun H1 D bl g hB hD hl hbs => ?_⟩
    refine ⟨D, bl, g, n, 0, rfl, hB.ll, hl, hA.pos, by omega, fun i j hi hj => ?_, fun H2 R4 r s2 hR0 hR hd => ?_⟩
    · obtain ⟨p, hp, q⟩ := (hbs i j).mp hj
      obtain ⟨q1, q2⟩ := hA.lt p hp
      rcases q with ⟨_, q⟩ | ⟨_, q⟩ <;> omega
    · exact ⟨R4, r, rfl, SqL.of hR, k _ _ (hB.same.trans s2) (dfs_whole hbs hd)⟩
end
end One
end P_E4

section P_E5
set_option linter.all false
set_option maxRecDepth 100000
set_option maxHeartbeats 4000000
namespace One
open PySem PySem.Spec PyProof.Rows L2
/-! ### enumerate of a tuple -/
theorem enum_newT (tt : Addr) (xs : Array Value) (sz : Nat) (dc : Option Addr) (sl : Array (Option Value)) :
    Meets (Builtin.«enumerate.__new__» ⟨[.type "enumerate", .ref tt], []⟩) (fun _ R s => s.heap.get? tt = some ⟨.type "tuple", dc, .seq xs sz, sl⟩ ∧
      R (.ok (.ret (.ref (s.heap.push { cls := .type "tuple_iterator", data := .fields #[.ref tt, .int 0 0] }).objs.size)))
        { s with heap := (s.heap.push { cls := .type "tuple_iterator", data := .fields #[.ref tt, .int 0 0] }).push { cls := .type "enumerate", data := .fields #[.none, .bool false, .ref s.heap.objs.size, rawInt 0, .none, .none] } }) :=
  .of_wp fun prog w A R s q => by
    obtain ⟨hp, g, d, tk, os⟩ := s
    obtain ⟨hl, q⟩ := q
    have su := sub_enumerate
    have hT : Heap.IsTuple (Shared.heap ⟨hp, g, d, tk, os⟩) tt xs := ⟨_, hl, rfl, sz, rfl⟩
    wp_walk using AutoSeq1.wpAny_loadPart' hl
    refine wpAny_stack_any fun stk => wpAny_pure ?_
    split
    · rename_i cl _ _ _ _ _
      cases (cl == Value.type "enumerate") <;> (wp_walk using AutoSeq1.wpAny_loadPart' hl, wpAny_pyIter_tuple hT; exact ⟨_, rfl, q⟩)
    · wp_walk using AutoSeq1.wpAny_loadPart' hl, wpAny_pyIter_tuple hT
      exact ⟨_, rfl, q⟩
section
variable {prog : Program} {w : World} {A : Around} {E : Value → Shared → Prop} {s : Shared}
theorem call_enumT {tt : Addr} {xs : Array Value} {Q : Value → Shared → Prop} (hL : s.heap.IsTuple tt xs)
    (k : ∀ g, IsEnum g (s.heap.objs.size + 1) s.heap.objs.size 0 .none → g.IsTupleIter s.heap.objs.size tt 0 → (∀ b o, s.heap.get? b = some o → g.get? b = some o) → Q (.ref (s.heap.objs.size + 1)) { s with heap := g }) :
    wpAny (model prog w) A (call (.type "enumerate") [.ref tt]) Q E s := by
  obtain ⟨⟨cl, dc, da, sl⟩, hl, hcl, sz, hda⟩ := hL
  dsimp only at hcl hda
  subst hcl hda
  refine callType_new F.called_enumerate (by decide) (F.typeCall_enumerate_1 _) (F.newCall_enumerate_1 _) (fun ob => F.args_object_init_2 ob _) F.entry_enumerate_new (enum_newT tt xs sz dc sl) ⟨hl, ?_⟩
  have e1 : (s.heap.push { cls := .type "tuple_iterator", data := .fields #[.ref tt, .int 0 0] }).objs.size = s.heap.objs.size + 1 := Heap.size_push ..
  show _ ∧ _
  rw [e1]
  have e2 : IsEnum ((s.heap.push { cls := .type "tuple_iterator", data := .fields #[.ref tt, .int 0 0] }).push { cls := .type "enumerate", data := .fields #[.none, .bool false, .ref s.heap.objs.size, rawInt 0, .none, .none] }) (s.heap.objs.size + 1) s.heap.objs.size 0 .none := by
    have z := Heap.get?_push_size (s.heap.push { cls := .type "tuple_iterator", data := .fields #[.ref tt, .int 0 0] }) (o := { cls := .type "enumerate", data := .fields #[.none, .bool false, .ref s.heap.objs.size, rawInt 0, .none, .none] }) rfl
    rw [e1] at z
    exact z
  exact ⟨⟨_, e2, rfl⟩, k _ e2 ⟨_, Heap.get?_push_of_some _ (Heap.get?_push_size _ rfl), rfl, rfl⟩ fun b o x => Heap.get?_push_of_some _ (Heap.get?_push_of_some _ x)⟩
end
/-- the tuple at a, each item in a new pair with its number -/
def IteT (K : PySem.W.Frag) (a : Addr) : It :=
  ⟨fun i H => ∃ (xs : List V) (x : V), SqT K H a xs ∧ xs[i]? = some x, fun i H v H' => ∃ T x, v = .ref T ∧ H T = none ∧ H' = upd H T (.tup [.int (i : Nat), x]) ∧ ∀ xs, SqT K H a xs → xs[i]? = some x, fun i H => ∃ xs : List V, SqT K H a xs ∧ xs.length ≤ i⟩
theorem turn_enumT {P : Program} {w : World} {K : PySem.W.Frag} {elts : List Expr} {kk : Nat} {tpos : Pos} (a e it : Addr) (hat : a ≠ it) (hae : a ≠ e) :
    Turn P w K (.Tuple elts kk tpos) (IteT K a) [e, it] e (fun i h => (∃ old, IsEnum h e it ((i : Nat) : Int) old) ∧ h.IsTupleIter it a i ∧ e ≠ it) where
  mem := List.mem_cons_self
  obj := fun i h st b hb => by
    obtain ⟨⟨old, he⟩, ⟨o, ho, _, hd⟩, _⟩ := st
    rcases List.mem_cons.mp hb with z | z
    · rw [z]
      exact ⟨_, he, fun v q => nomatch q⟩
    · exact ⟨o, by rw [List.mem_singleton.mp z]; exact ho, fun v q => by rw [hd] at q; cases q⟩
  keep := fun i h h' ⟨⟨old, he⟩, hi, hne⟩ k => ⟨⟨old, k e (by simp) _ he⟩, hi.at fun o e => k it (by simp) o e, hne⟩
  item := by
    intro X e1 e2 e3 hc i pins s σ H E I hf ⟨⟨old, he⟩, hit, hne⟩ ⟨xs, x, hq, hx⟩
    subst e1 e2 e3
    obtain ⟨its, rv, p, hz⟩ := I.tuple hq
    obtain ⟨u, hu, ru⟩ := rv.get hx
    have hel : e < s.heap.objs.size := Heap.lt_size he
    have hil : it < s.heap.objs.size := by
      obtain ⟨_, q, _⟩ := hit
      exact Heap.lt_size q
    have p' : s.heap.IsTuple a its.toArray := p
    have hlt : i < its.toArray.size := by
      rw [List.size_toArray]
      exact (List.getElem?_eq_some_iff.mp hu).1
    refine wpAny_pyNext_enum_itemD (fp := [it, a]) (Draws.tuple (A := X.A.in1) (show X.A.in1.handled = none from I.ok.hd hc) it a hat its.toArray) he ⟨hit, p'⟩ hlt hne (by simp [hne, Ne.symm hae]) fun x2 g tk hx2 ho hst hT hsz hk => ?_
    have ex : x2 = u := by
      have z : its.toArray[i]? = some x2 := hx2
      rw [List.getElem?_toArray, hu] at z
      exact (Option.some.inj z).symm
    subst ex
    refine ⟨_, rfl, wpAny_letOwnedTupleGo_enum (s := { s with heap := g, toks := tk + 1 }) ho fun g2 he2 sb => ?_⟩
    have hT2 : g2.get? s.heap.objs.size = some { cls := .type "tuple", data := .seq #[.int i tk, x2] } := (sb.2 _ (Nat.ne_of_gt hel)).trans hT
    have made : ObjOk X.prog X.w (upd H s.heap.objs.size (.tup [.int (i : Nat), x])) g2 s.heap.objs.size (.tup [.int (i : Nat), x]) :=
      ⟨two_le, [.int i tk, x2], .cons ⟨_, rfl⟩ (.cons ru .nil), ⟨_, hT2, rfl, _, rfl⟩⟩
    have I1 : Inv X pins σ (upd H s.heap.objs.size (.tup [.int (i : Nat), x])) { s with heap := g2, toks := tk + 1 } :=
      I.turnedNew (ch := [e, it]) (fun b ob hb q => (sb.2 b fun z => hb (by rw [z]; exact List.mem_cons_self)).trans (hk b ob (fun z => hb (by rw [z]; exact List.mem_cons_self)) (fun z => hb (by rw [z]; simp)) q)) hf (Nat.le_refl _) made
    have e0 : ((i + 1 : Nat) : Int) = (i : Int) + 1 := by omega
    refine ⟨.ref s.heap.objs.size, _, I1, rfl, ⟨_, x, rfl, I.hok.fresh (Nat.le_refl _), rfl, fun ys hy => by rw [I.tuple_inj hy hq]; exact hx⟩, ⟨⟨x2, by rw [e0]; exact he2⟩, hst.1.at fun o q => (sb.2 it (Ne.symm hne)).trans q, hne⟩, fun b hb => ?_⟩
    have lt : b < s.heap.objs.size := by
      rcases List.mem_cons.mp hb with z | z
      · rw [z]
        exact hel
      · rw [List.mem_singleton.mp z]
        exact hil
    exact (upd_ne (Nat.ne_of_lt lt)).trans (hf b hb).1
  done := by
    intro X e1 e2 e3 hc i pins s σ H E I hf ⟨⟨old, he⟩, hit, hne⟩ ⟨xs, hq, hx⟩
    subst e1 e2 e3
    obtain ⟨its, rv, p, hz⟩ := I.tuple hq
    obtain ⟨f0, f1, f2, f3, f4, f5⟩ := hf it (by simp)
    have hn : its.toArray.size ≤ i := by
      rw [List.size_toArray, ← rv.length]
      exact hx
    unfold pyNext
    have hT : s.TypeIs (.ref e) "enumerate" := ⟨_, he, rfl⟩
    refine wpAny_bind (wpAny_attempt (wpAny_callSpecial?_slot (name := Str.ofString "__next__") hT F.slot_enumerate_next (wpAny_call_entry F.slot_enumerate_next hT F.entry_enumerate_next ?_ (F.args_enumerate_next_1 _))))
    show wpAny _ _ (field (.ref e) 2 >>= _) _ _ _
    refine wpAny_bind (wpAny_field he rfl (x := .ref it) rfl (wpAny_bind (wpAny_nextOf_tuple_end (I.ok.hd hc) hit (show s.heap.IsTuple a its.toArray from p) (Array.getElem?_eq_none hn) fun g x hg ⟨o, ho, hco⟩ => ?_)))
    exact wpAny_bind (wpAny_isInstance (T := "StopIteration") (b := true) ⟨o, ho, hco⟩ isSubtype_stop (wpAny_pure ⟨rfl, I.turned (t' := s.toks) (fun b o hb e => hg b o hb e) f0 f1 f3 f4 f5⟩))
  self := fun A i s Q E ⟨⟨_, he⟩, _⟩ q => wpAny_pyIter_enum he q
def iEnumT (K : PySem.W.Frag) (ta : TA) : TI := fun σ H R => ta σ H fun vs H1 => ∃ a xs, vs = [.ref a] ∧ SqT K H1 a xs ∧ R (IteT K a) H1
theorem pi_enumT {X : Cx} {e : Expr} {ta : TA} {p pos tpos : Pos} {elts : List Expr} {kk : Nat} (hg : Gl X "enumerate") (hm : X.mg "enumerate" = none) (ha : PA X [e] ta) (hs : starEach [e] X.env = [(false, eval e X.env)] := by rfl) :
    PI X (.Tuple elts kk tpos) (.Call (.Name "enumerate" p) [e] [] pos) (iEnumT X.K ta) := by
  refine ⟨fun pins s σ H R I q0 => Call_ (ld_blt I hg hm boot_enumerate (PyProof.Rows.callWith_type1 (thn (ha.run pos pins s σ H _ I q0) fun us s1 ⟨vs, H1, I1, r1, a, xs, ex, hq, q⟩ => ?_) hs rfl))⟩
  subst ex
  cases r1 with
  | cons r rr =>
    cases rr
    cases r
    obtain ⟨its, rv, p', hz⟩ := I1.tuple hq
    have hal : a < s1.heap.objs.size := by
      obtain ⟨o, ho, _⟩ := p'
      exact Heap.lt_size ho
    refine call_enumT (show s1.heap.IsTuple a its.toArray from p') fun g he hit hk => wpAny_pyIter_enum he ?_
    have I2 : Inv X pins σ H1 { s1 with heap := g } := I1.kept (t' := s1.toks) hk
    refine ⟨s1.heap.objs.size + 1, [s1.heap.objs.size + 1, s1.heap.objs.size], _, _, H1, rfl, I2, turn_enumT a (s1.heap.objs.size + 1) s1.heap.objs.size (Nat.ne_of_lt hal) (Nat.ne_of_lt (Nat.lt_succ_of_lt hal)), ⟨⟨.none, he⟩, hit, Nat.succ_ne_self _⟩, fun b hb => ?_, q⟩
    have le : s1.heap.objs.size ≤ b := by
      rcases List.mem_cons.mp hb with z | z
      · rw [z]
        exact Nat.le_add_right _ _
      · rw [List.mem_singleton.mp z]
        exact Nat.le_refl _
    exact I1.fpOk le (I1.hok.fresh le)
theorem walk_enumT {K : PySem.W.Frag} {a : Addr} {xs : List V} : Walk (IteT K a) xs.length (fun H => SqT K H a xs) (YPair (fun i => some (.int (i : Nat))) (fun i => xs[i]?)) := by
  refine ⟨fun i _ hi q => ⟨xs, xs[i], q, List.getElem?_eq_getElem hi⟩, fun _ q => ⟨xs, q, Nat.le_refl _⟩, fun i H v H' _ q ⟨T, x, h1, h2, h3, h4⟩ => ⟨T, .int (i : Nat), x, h1, h2, h3, rfl, h4 xs q⟩⟩
end One
end P_E5

section P_M4
set_option linter.all false
namespace One
/-! ### the look at a yard, line by line -/
def leB (p q : Nat × Nat) : Bool := decide (p.1 < q.1) || (decide (p.1 = q.1) && decide (p.2 ≤ q.2))
def notUp (p : Nat × Nat) : Option (Nat × Nat) → Bool
  | none => false
  | some q => leB p q
/-- the number of the first thing that can't be: none is what is no line -/
def goF : Nat → List Nat → Option (Nat × Nat) → List (Option (Nat × Nat)) → Option Nat
  | _, _, _, [] => none
  | k, _, _, none :: _ => some k
  | k, met, ah, some p :: r => if notUp p ah || met.contains p.1 || met.contains p.2 then some k else goF (k + 1) (met ++ [p.1, p.2]) (some p) r
theorem goF_pairs : ∀ (os : List (Option (Nat × Nat))) (k : Nat) (met : List Nat) (ah : Option (Nat × Nat)), goF k met ah os = none → os = (os.filterMap id).map some
  | [], _, _, _, _ => rfl
  | none :: r, k, met, ah, h => by cases h
  | some p :: r, k, met, ah, h => by
    unfold goF at h
    split at h
    · cases h
    · have := goF_pairs r _ _ _ h
      simp only [List.filterMap_cons, id, List.map_cons]
      rw [← this]
theorem goF_good : ∀ (ps : List (Nat × Nat)) (k : Nat) (met : List Nat) (ah : Option (Nat × Nat)), (∀ q, ah = some q → ∀ p ∈ ps, ltP q p) → ps.Pairwise ltP → (met ++ ends ps).Nodup → goF k met ah (ps.map some) = none
  | [], _, _, _, _, _, _ => rfl
  | p :: r, k, met, ah, h1, h2, h3 => by
    obtain ⟨hp, hr⟩ := List.pairwise_cons.mp h2
    have h3 : (met ++ (p.1 :: p.2 :: ends r)).Nodup := h3
    have n1 : ¬ p.1 ∈ met := fun m => (List.nodup_append.mp h3).2.2 _ m p.1 (by simp) rfl
    have n2 : ¬ p.2 ∈ met := fun m => (List.nodup_append.mp h3).2.2 _ m p.2 (by simp) rfl
    have up : notUp p ah = false := by
      cases e : ah with
      | none => rfl
      | some q =>
        have := h1 q e p (List.mem_cons.mpr (.inl rfl))
        unfold ltP at this
        unfold notUp leB
        simp only [Bool.or_eq_false_iff, Bool.and_eq_false_iff, decide_eq_false_iff_not]
        omega
    show (if notUp p ah || met.contains p.1 || met.contains p.2 then some k else goF (k + 1) (met ++ [p.1, p.2]) (some p) (r.map some)) = none
    rw [if_neg (by simp [up, n1, n2])]
    refine goF_good r _ _ _ (fun q e x hx => ?_) hr ?_
    · cases e
      exact hp x hx
    · rw [List.append_assoc]
      exact h3
theorem yard_good {n : Nat} {L : List (Nat × Nat)} (y : Yard n L) : goF 0 [] none (L.map some) = none := goF_good L 0 [] none (fun _ e => by cases e) y.up (by simpa using y.lines.nd)
end One
end P_M4

section P_E6
set_option linter.all false
set_option maxRecDepth 100000
set_option maxHeartbeats 8000000
namespace One
open PySem PySem.Spec PyProof.Rows L2
abbrev sFault : Stmt := top 15
abbrev nFault : List Str := ["thing", "many_ends", "taken", "ahead", "number", "line"]
theorem scFault : FnScope nFault ["thing"] (defScope sFault) := ⟨rfl, rfl, rfl, by decide +kernel, rfl, by decide +kernel, by decide +kernel⟩
/-- things that stand in a tuple, and what lines they are -/
inductive IL (H : Hp) (n : Nat) : List V → List (Option (Nat × Nat)) → Prop
  | nil : IL H n [] []
  | line {a p xs os} : PAt H a p → p.1 < p.2 → p.2 < n → IL H n xs os → IL H n (.ref a :: xs) (some p :: os)
  | flat {x T xs os} : TV H x T → isTup T = false → IL H n xs os → IL H n (x :: xs) (none :: os)
  | tup {a ys xs os} : H a = some (.tup ys) → (∀ y ∈ ys, ∃ T, TV H y T) → lineB ys n = false → IL H n xs os → IL H n (.ref a :: xs) (none :: os)
theorem IL.len {H : Hp} {n : Nat} {xs : List V} {os : List (Option (Nat × Nat))} (h : IL H n xs os) : xs.length = os.length := by
  induction h with
  | nil => rfl
  | line _ _ _ _ ih => simp [ih]
  | flat _ _ _ ih => simp [ih]
  | tup _ _ _ _ ih => simp [ih]
theorem IL.pairs {H : Hp} {n : Nat} : ∀ {ps : List (Nat × Nat)} {xs : List V}, IL H n xs (ps.map some) → ∃ as, xs = refs as ∧ PL H as ps ∧ ∀ p ∈ ps, p.1 < p.2 ∧ p.2 < n
  | [], _, .nil => ⟨[], rfl, .nil, fun p h => absurd h (by simp)⟩
  | p :: r, _, .line h1 h2 h3 t => by
    obtain ⟨as, e, h4, h5⟩ := IL.pairs t
    exact ⟨_ :: as, by rw [e]; rfl, .cons h1 h4, fun q hq => (List.mem_cons.mp hq).elim (fun e => e ▸ ⟨h2, h3⟩) (h5 q)⟩
theorem TV.mono {H H' : Hp} {v : V} {T : String} (h : TV H v T) (k : Same H H') : TV H' v T := by
  cases h with
  | non => exact .non
  | bl b => exact .bl b
  | int i => exact .int i
  | str x => exact .str x
  | tup e => exact .tup (k _ _ e)
  | lst e => exact .lst (k _ _ e)
  | dct e => exact .dct (k _ _ e)
theorem IL.mono {H H' : Hp} {n : Nat} {xs : List V} {os : List (Option (Nat × Nat))} (h : IL H n xs os) (k : Same H H') : IL H' n xs os := by
  induction h with
  | nil => exact .nil
  | line h1 h2 h3 _ ih => exact .line (k _ _ h1) h2 h3 ih
  | flat h1 h2 _ ih => exact .flat (h1.mono k) h2 ih
  | tup h1 h2 h3 _ ih => exact .tup (k _ _ h1) (fun y m => let ⟨T, t⟩ := h2 y m; ⟨T, t.mono k⟩) h3 ih
theorem IL.split {H : Hp} {n : Nat} {xs : List V} {os : List (Option (Nat × Nat))} (h : IL H n xs os) : ∀ {i : Nat} {x : V}, xs[i]? = some x → ∃ o, os[i]? = some o ∧ IL H n [x] [o] := by
  induction h with
  | nil => intro i x e; simp at e
  | line h1 h2 h3 _ ih =>
    intro i x e
    cases i with
    | zero =>
      have e := Option.some.inj e
      subst e
      exact ⟨_, rfl, .line h1 h2 h3 .nil⟩
    | succ i => exact ih (i := i) (by simpa using e)
  | flat h1 h2 _ ih =>
    intro i x e
    cases i with
    | zero =>
      have e := Option.some.inj e
      subst e
      exact ⟨_, rfl, .flat h1 h2 .nil⟩
    | succ i => exact ih (i := i) (by simpa using e)
  | tup h1 h2 h3 _ ih =>
    intro i x e
    cases i with
    | zero =>
      have e := Option.some.inj e
      subst e
      exact ⟨_, rfl, .tup h1 h2 h3 .nil⟩
    | succ i => exact ih (i := i) (by simpa using e)
/-- the line that stood ahead -/
def AheadAt (H : Hp) (a : Addr) : Option (Nat × Nat) → Prop
  | none => H a = some (.tup [])
  | some q => PAt H a q
theorem le_none (p : Nat × Nat) : Ob.lexAt (fun j => decide (([(p.1 : Int), (p.2 : Int)] : List Int).getD j 0 = ([] : List Int).getD j 0)) (fun j => decide (([(p.1 : Int), (p.2 : Int)] : List Int).getD j 0 ≤ ([] : List Int).getD j 0)) (decide (([(p.1 : Int), (p.2 : Int)] : List Int).length ≤ ([] : List Int).length)) 0 (min ([(p.1 : Int), (p.2 : Int)] : List Int).length ([] : List Int).length) = false := rfl
theorem le_some (p q : Nat × Nat) : Ob.lexAt (fun j => decide (([(p.1 : Int), (p.2 : Int)] : List Int).getD j 0 = ([(q.1 : Int), (q.2 : Int)] : List Int).getD j 0)) (fun j => decide (([(p.1 : Int), (p.2 : Int)] : List Int).getD j 0 ≤ ([(q.1 : Int), (q.2 : Int)] : List Int).getD j 0)) (decide (([(p.1 : Int), (p.2 : Int)] : List Int).length ≤ ([(q.1 : Int), (q.2 : Int)] : List Int).length)) 0 (min ([(p.1 : Int), (p.2 : Int)] : List Int).length ([(q.1 : Int), (q.2 : Int)] : List Int).length) = leB p q := by
  show (if decide ((p.1 : Int) = (q.1 : Int)) = true then (if decide ((p.2 : Int) = (q.2 : Int)) = true then true else decide ((p.2 : Int) ≤ (q.2 : Int))) else decide ((p.1 : Int) ≤ (q.1 : Int))) = leB p q
  unfold leB
  rw [Bool.eq_iff_iff]
  simp only [decide_eq_true_eq, Bool.or_eq_true, Bool.and_eq_true]
  constructor
  · intro h
    split at h
    · split at h
      · omega
      · simp only [decide_eq_true_eq] at h
        omega
    · simp only [decide_eq_true_eq] at h
      omega
  · intro h
    split
    · split
      · rfl
      · simp only [decide_eq_true_eq]
        omega
    · simp only [decide_eq_true_eq]
      omega
def spFault : Sp := fun vs H Q _ => ∃ v : V, vs = [v] ∧
  (((∃ T, TV H v T ∧ isTup T = false) ∨ ∃ (t : Addr) (xs : List V), v = .ref t ∧ H t = some (.tup xs) ∧ canBe (xs.length : Nat) = false) ∧ (∀ (H' : Hp) (p : Addr), Same H H' → H' p = some (.tup []) → Q (.ref p) H') ∨
  ∃ (t : Addr) (xs : List V) (os : List (Option (Nat × Nat))), v = .ref t ∧ H t = some (.tup xs) ∧ canBe (xs.length : Nat) = true ∧ IL H (2 * xs.length) xs os ∧
    (∀ k, goF 0 [] none os = some k → ∀ (H' : Hp) (p : Addr), Same H H' → H' p = some (.tup [.int (k : Nat)]) → Q (.ref p) H') ∧
    (goF 0 [] none os = none → ∀ ps, os = ps.map some → (Whole (xs.length / 2) ps → ∀ H', Same H H' → Q .non H') ∧ (¬ Whole (xs.length / 2) ps → ∀ (H' : Hp) (p : Addr), Same H H' → H' p = some (.tup [.int (xs.length : Nat)]) → Q (.ref p) H')))
section
variable {P : Program} {w : World} {K : PySem.W.Frag} {mg : Str → Option Value} {base : Heap}
theorem ok_fault {f fB fL fW : Addr} {fd fdB fdL fdW : FuncData} (F : Fun K "yard_fault" "yard_fault" sFault f fd) (T : TB mg) (B : Cal K mg "can_be_many_lines" fB fdB ["many"]) (GB : FnOk P w K mg base CX0 1 fB fdB ["many"] spCanBe)
    (L : Cal K mg "is_line" fL fdL ["thing", "many_ends"]) (GL : FnOk P w K mg base CX0 3 fL fdL ["thing", "many_ends"] spIsLine) (W : Cal K mg "is_whole" fW fdW ["lines"]) (GW : FnOk P w K mg base CX0 2 fW fdW ["lines"] spIsWhole) :
    FnOk P w K mg base CX0 4 f fd ["thing"] spFault := by
  refine F.ok scFault (fun vs H Q E h => ?_) (fun cdv A outer s H vs Q E hr h => ?_)
  · obtain ⟨v, rfl, _⟩ := h
    rfl
  · obtain ⟨v, rfl, h⟩ := h
    have nd := scFault.nd
    have hu := hu_of hr
    have hu0 : (A.deeper (envOfC "yard_fault" (defScope sFault) s.heap.objs.size f cdv)).units < cLine := Nat.lt_of_succ_lt hu
    have hr1 : Room 1 _ := hr.mono (by decide)
    have hrW : Room 2 _ := hr.mono (by decide)
    refine ⟨_, pss_cons (ps_if (pt_mid (PW.pt (pw_or (pt_not (pt_val (pe_callB call_isi (by rfl) T.isinstance boot_isinstance (pa_cons (pv 0) (pa_cons (pe_bltn (v := .ty "tuple") (by rfl) T.tuple boot_tuple rfl) pa_nil)))))
        (pw_or1 (pt_not (pt_val (pe_call GB hr1 rfl B.g B.kp B.b .nil pass0 (pa_cons (pe_callB call_len_seq (by rfl) T.len PySem.boot_len (pa_cons (pv 0) pa_nil)) pa_nil)))))))) (pss_one (ps_ret (pe_tup pa_nil))) pss_nil)
      (pss_cons (ps_set (i := 1) nd rfl (Or.inl rfl) (pe_op op_mul pe_int (pe_callB call_len_seq (by rfl) T.len PySem.boot_len (pa_cons (pv 0) pa_nil))))
      (pss_cons (ps_set (i := 2) nd rfl (Or.inl rfl) (pe_op op_rep (pe_lst (pa_cons pe_bl pa_nil)) (pv 1)))
      (pss_cons (ps_set (i := 3) nd rfl (Or.inl rfl) (pe_tup pa_nil))
      (pss_cons (ps_for PassesOwn.never rfl (pi_enumT (by rfl) T.enumerate (pa_cons (pv 0) pa_nil)) (pg_tup rfl (pgs_cons (pg_name (i := 4) nd rfl (Or.inl rfl)) (pgs_cons (pg_name (i := 5) nd rfl (Or.inl rfl)) pgs_nil)))
        (pss_cons (ps_if (pt_mid (PW.pt (pw_or (pt_not (pt_val (pe_call GL hr rfl L.g L.kp L.b .nil pass0 (pa_cons (pv 5) (pa_cons (pv 1) pa_nil)))))
            (pw_or (pt_cmpR (op_leT hu0) (pv 5) (pv 3) (nomark _)) (pw_or (pt_val (pe_ix ix_list (pv 2) (pe_ix ix_tup (pv 5) pe_int (fun _ _ => rfl)) (fun _ _ => rfl))) (pw_or1 (pt_val (pe_ix ix_list (pv 2) (pe_ix ix_tup (pv 5) pe_int (fun _ _ => rfl)) (fun _ _ => rfl)))))))))
            (pss_one (ps_ret (pe_tup (pa_cons (pv 4) pa_nil)))) pss_nil)
        (pss_cons (ps_asg2 pe_bl (pg_sub (pv 2) (pe_ix ix_tup (pv 5) pe_int (fun _ _ => rfl)) set_list) (pg_sub (pv 2) (pe_ix ix_tup (pv 5) pe_int (fun _ _ => rfl)) set_list))
        (pss_one (ps_set (i := 3) nd rfl (Or.inl rfl) (pv 5))))))
      (pss_one (ps_ret (pe_ifExp (pt_val (pe_call GW hrW rfl W.g W.kp W.b .nil pass0 (pa_cons (pv 0) pa_nil))) pe_non (pe_tup (pa_cons (pe_callB call_len_seq (by rfl) T.len PySem.boot_len (pa_cons (pv 0) pa_nil)) pa_nil))))))))), ?_⟩
    rcases h with ⟨h, k⟩ | ⟨t, xs, os, rfl, ht, hc, hI, k1, k2⟩
    · refine ⟨fun b H' => b = true ∧ Same H H', ?_, ?_⟩
      · rcases h with ⟨ty, hv, hT⟩ | ⟨t, xs, rfl, ht, hc⟩
        · refine ⟨_, rfl, v, _, _, _, _, rfl, .ty _, hv.tyx, hv.kTup, _, rfl, ?_⟩
          rw [hT]
          exact iteT ⟨rfl, Same.refl H⟩
        · refine ⟨_, rfl, _, _, _, _, _, rfl, .ty _, (TV.tup ht).tyx, (TV.tup ht).kTup, _, rfl, ?_⟩
          refine iteF ⟨_, rfl, t, _, rfl, .inr (SqT.of ht), _, rfl, fun H' s' => ⟨_, rfl, ?_⟩⟩
          rw [hc]
          exact ⟨rfl, s'⟩
      · rintro b H' ⟨rfl, s'⟩
        exact iteT ⟨Nat.zero_le _, fun p hp => k _ p (s'.trans (Same.new hp)) upd_same⟩
    · have hcb : 2 ≤ xs.length ∧ xs.length ≤ 80 ∧ xs.length % 2 = 0 := by
        unfold canBe at hc
        simp only [Bool.and_eq_true, decide_eq_true_eq] at hc
        omega
      refine ⟨fun b H' => b = false ∧ Same H H', ?_, ?_⟩
      · refine ⟨_, rfl, _, _, _, _, _, rfl, .ty _, (TV.tup ht).tyx, (TV.tup ht).kTup, _, rfl, ?_⟩
        refine iteF ⟨_, rfl, t, _, rfl, .inr (SqT.of ht), _, rfl, fun H' s' => ⟨_, rfl, ?_⟩⟩
        rw [hc]
        exact ⟨rfl, s'⟩
      · rintro b H1 ⟨rfl, s1⟩
        have ht1 := s1 _ _ ht
        have e2 : (2 : Int) * (xs.length : Nat) = ((2 * xs.length : Nat) : Int) := by omega
        refine iteF ⟨_, rfl, t, _, rfl, .inr (SqT.of ht1), _, _, rfl, rfl, .inl ⟨by decide, by decide⟩, ?_⟩
        refine ⟨by show 1 ≤ sizeLine; decide, fun l1 hl1 => ⟨_, rfl, l1, ((2 * xs.length : Nat) : Int), _, rfl, (by show V.int ((2 : Int) * (xs.length : Nat)) = _; rw [e2]), upd_same, by omega, by omega, (by show 1 * _ ≤ _; exact Nat.le_of_lt (small1000 (by omega))), fun tk htk => ?_⟩⟩
        have eR : (List.replicate ((2 * xs.length : Nat) : Int).toNat [V.bl false]).flatten = (List.replicate (2 * xs.length) false).map V.bl := by
          rw [show ((2 * xs.length : Nat) : Int).toNat = 2 * xs.length by omega, List.map_replicate]
          exact flat_rep _ _
        have s2 := Same.new (o := .lst [V.bl false]) hl1
        have s3 := Same.new (o := .lst (List.replicate ((2 * xs.length : Nat) : Int).toNat [V.bl false]).flatten) htk
        refine ⟨Nat.zero_le _, fun a0 ha0 => ?_⟩
        have s4 := Same.new (o := .tup []) ha0
        have sA := s1.trans (s2.trans (s3.trans s4))
        have htk0 : H tk = none := (s1.trans s2).free htk
        have ntk : ∀ b o, H b = some o → b ≠ tk := fun b o e => ne_of_none e htk0
        refine ⟨_, rfl, t, _, rfl, SqT.of (sA _ _ ht), for_it (walk_enumT (K := K) (a := t) (xs := xs)) (fun i σ H2 => ∃ (ah : Addr) (bs : List Bool) (met : List Nat) (o : Option (Nat × Nat)) (v4 v5 : Option V),
            σ = [some (.ref t), some (.int ((2 : Int) * (xs.length : Nat))), some (.ref tk), some (.ref ah), v4, v5] ∧ Same H H2 ∧ H2 tk = some (.lst (bs.map V.bl)) ∧ bs.length = 2 * xs.length ∧ (∀ e, e < 2 * xs.length → bs[e]? = some (met.contains e)) ∧ AheadAt H2 ah o ∧ goF i met o (os.drop i) = goF 0 [] none os)
          ⟨a0, List.replicate (2 * xs.length) false, [], none, none, none, rfl, sA, ?_, List.length_replicate, fun e he => by rw [List.getElem?_replicate, if_pos he]; rfl, upd_same, rfl⟩ (fun i σ H2 _ ⟨_, _, _, _, _, _, _, s', _⟩ => SqT.of (s' _ _ ht)) ?_ ?_⟩
        · rw [← eR]
          exact s4 _ _ upd_same
        · rintro i x σ H2 H3 hi ⟨ah, bs, met, o, v4, v5, rfl, s5, htk2, hbl, hbs, hah, hgo⟩ ⟨T, x', y', rfl, hT, rfl, ex, ey⟩
          cases ex
          have s6 := Same.new (o := .tup [V.int (i : Nat), y']) hT
          obtain ⟨oi, hoi, hI1⟩ := hI.split ey
          have hdrop : os.drop i = oi :: os.drop (i + 1) := by
            obtain ⟨hlt, e⟩ := List.getElem?_eq_some_iff.mp hoi
            rw [List.drop_eq_getElem_cons hlt, e]
          rw [hdrop] at hgo
          refine ⟨T, _, rfl, SqT.of upd_same, rfl, _, _, rfl, _, _, rfl, rfl, ?_⟩
          have htk3 := s6 _ _ htk2
          have nn : ((2 : Int) * (xs.length : Nat)) = ((2 * xs.length : Nat) : Int) := e2
          have bad : goF i met o (oi :: os.drop (i + 1)) = some i → ∀ (H4 : Hp), Same H H4 → tRet (tTup (tCons (tVar 4) tNil)) { nx := fun _ H' => Q .non H', rt := Q } [some (.ref t), some (.int ((2 : Int) * (xs.length : Nat))), some (.ref tk), some (.ref ah), some (.int (i : Nat)), some y'] H4 := by
            intro hb H4 s7
            refine ⟨_, rfl, by show 1 ≤ sizeLine; decide, fun p hp => ?_⟩
            exact k1 i (hgo.symm.trans hb) _ p (s7.trans (Same.new hp)) upd_same
          have hI3 := (hI1.mono s5).mono s6
          cases oi with
          | none =>
            refine ⟨fun b H4 => b = true ∧ Same (upd H2 T (.tup [V.int (i : Nat), y'])) H4, ?_, ?_⟩
            · have key : ∀ Q' : Bool → Hp → Prop, Q' false (upd H2 T (.tup [V.int (i : Nat), y'])) → spIsLine [y', .int ((2 : Int) * (xs.length : Nat))] (upd H2 T (.tup [V.int (i : Nat), y'])) (fun v H' => ∃ c, v = .bl c ∧ Q' c H') E0 := by
                intro Q' q
                cases hI3 with
                | flat h1 h2 _ => exact ⟨_, _, rfl, .inl ⟨_, h1, h2, false, rfl, q⟩⟩
                | tup h1 h2 h3 _ =>
                  refine ⟨_, _, rfl, .inr ⟨_, _, rfl, h1, h2, false, ?_, q⟩⟩
                  rw [nn, h3]
              refine ⟨_, rfl, _, rfl, ?_⟩
              exact key _ (iteT ⟨rfl, Same.refl _⟩)
            · rintro b H4 ⟨rfl, s7⟩
              exact iteT (bad rfl H4 (s5.trans (s6.trans s7)))
          | some p =>
            cases hI3 with
            | @line a _ _ _ pa hlt hn _ =>
              have q1 : p.1 < 2 * xs.length := by omega
              have g1 := hbs p.1 q1
              have g2 := hbs p.2 hn
              have at1 : atI (bs.map V.bl) ((p.1 : Nat) : Int) = some (V.bl (met.contains p.1)) := at_of (j := p.1) rfl (by rw [List.getElem?_map, g1]; rfl)
              have at2 : atI (bs.map V.bl) ((p.2 : Nat) : Int) = some (V.bl (met.contains p.2)) := at_of (j := p.2) rfl (by rw [List.getElem?_map, g2]; rfl)
              refine ⟨fun b H4 => b = (notUp p o || met.contains p.1 || met.contains p.2) ∧ H4 = upd H2 T (.tup [V.int (i : Nat), V.ref a]), ?_, ?_⟩
              · have hline : lineB [V.int (p.1 : Nat), V.int (p.2 : Nat)] ((2 : Int) * (xs.length : Nat)) = true := by
                  show (decide (0 ≤ ((p.1 : Nat) : Int)) && decide (((p.1 : Nat) : Int) < (2 : Int) * (xs.length : Nat)) && (decide (0 ≤ ((p.2 : Nat) : Int)) && decide (((p.2 : Nat) : Int) < (2 : Int) * (xs.length : Nat))) && decide (((p.1 : Nat) : Int) < ((p.2 : Nat) : Int))) = true
                  simp only [Bool.and_eq_true, decide_eq_true_eq]
                  omega
                refine ⟨_, rfl, _, rfl, _, _, rfl, .inr ⟨a, _, rfl, pa, fun y hy => ?_, _, rfl, ?_⟩⟩
                · simp only [List.mem_cons, List.not_mem_nil, or_false] at hy
                  rcases hy with rfl | rfl <;> exact ⟨_, .int _⟩
                rw [hline]
                refine iteF ⟨_, rfl, _, rfl, a, ah, [(p.1 : Int), (p.2 : Int)], (match o with | none => [] | some q => [(q.1 : Int), (q.2 : Int)]), rfl, rfl, SqT.of pa, ?_, _, rfl, ?_⟩
                · cases o with
                  | none => exact SqT.of (s6 _ _ hah)
                  | some q => exact SqT.of (s6 _ _ hah)
                have ele : ∀ (R : Bool → Prop), R (notUp p o) → R (Ob.lexAt (fun j => decide (([(p.1 : Int), (p.2 : Int)] : List Int).getD j 0 = ((match o with | none => [] | some q => [(q.1 : Int), (q.2 : Int)]) : List Int).getD j 0)) (fun j => decide (([(p.1 : Int), (p.2 : Int)] : List Int).getD j 0 ≤ ((match o with | none => [] | some q => [(q.1 : Int), (q.2 : Int)]) : List Int).getD j 0)) (decide (([(p.1 : Int), (p.2 : Int)] : List Int).length ≤ ((match o with | none => [] | some q => [(q.1 : Int), (q.2 : Int)]) : List Int).length)) 0 (min ([(p.1 : Int), (p.2 : Int)] : List Int).length ((match o with | none => [] | some q => [(q.1 : Int), (q.2 : Int)]) : List Int).length)) := by
                  intro R r
                  cases o with
                  | none => exact r
                  | some q =>
                    have := le_some p q
                    rw [this]
                    exact r
                refine ele (fun c => if c = true then _ else _) ?_
                refine ite2 (fun hu => ?_) (fun hu => ?_)
                · exact ⟨by rw [hu]; rfl, rfl⟩
                · have hu := Bool.eq_false_iff.mpr hu
                  refine ⟨_, rfl, _, rfl, a, _, _, _, rfl, rfl, SqT.of pa, rfl, tk, _, _, _, rfl, rfl, SqL.of htk3, at1, _, rfl, ?_⟩
                  refine ite2 (fun h1 => ?_) (fun h1 => ?_)
                  · exact ⟨by rw [hu, h1]; rfl, rfl⟩
                  · have h1 := Bool.eq_false_iff.mpr h1
                    refine ⟨_, rfl, _, rfl, a, _, _, _, rfl, rfl, SqT.of pa, rfl, tk, _, _, _, rfl, rfl, SqL.of htk3, at2, _, rfl, ?_, rfl⟩
                    rw [hu, h1]
                    rfl
              · rintro b H4 ⟨rfl, rfl⟩
                refine ite2 (fun hb => ?_) (fun hb => ?_)
                · refine bad ?_ _ (s5.trans s6)
                  show (if (notUp p o || met.contains p.1 || met.contains p.2) = true then some i else _) = some i
                  rw [if_pos hb]
                · have hgo2 : goF (i + 1) (met ++ [p.1, p.2]) (some p) (os.drop (i + 1)) = goF 0 [] none os := by
                    rw [← hgo]
                    show _ = (if (notUp p o || met.contains p.1 || met.contains p.2) = true then some i else _)
                    rw [if_neg hb]
                  have setB : ∀ (r : List Bool) (j : Nat), (r.map V.bl).set j (V.bl true) = (r.set j true).map V.bl := fun r j => (List.map_set).symm
                  have ntt : tk ≠ T := ne_of_none htk2 hT
                  refine ⟨_, rfl, _, rfl, a, _, _, _, rfl, rfl, SqT.of pa, rfl, tk, _, _, p.1, rfl, rfl, htk3, ix_nat (by rw [List.length_map, hbl]; exact q1), ?_⟩
                  rw [setB]
                  have w1 : ∀ b u, H b = some u → (upd (upd H2 T (.tup [V.int (i : Nat), V.ref a])) tk (.lst ((bs.set p.1 true).map V.bl))) b = some u := fun b u e => (upd_ne (ntk _ _ e)).trans (s6 _ _ (s5 _ _ e))
                  have kt : ∀ b zs, (upd H2 T (.tup [V.int (i : Nat), V.ref a])) b = some (.tup zs) → b ≠ tk := fun b zs e => ne_of e htk3 (by intro z; cases z)
                  have pa4 : PAt (upd (upd H2 T (.tup [V.int (i : Nat), V.ref a])) tk (.lst ((bs.set p.1 true).map V.bl))) a p := (upd_ne (kt _ _ pa)).trans pa
                  refine ⟨_, rfl, _, rfl, a, _, _, _, rfl, rfl, SqT.of pa4, rfl, tk, _, _, p.2, rfl, rfl, upd_same, ix_nat (by rw [List.length_map, List.length_set, hbl]; exact hn), ?_⟩
                  rw [setB]
                  refine ⟨_, rfl, a, (bs.set p.1 true).set p.2 true, met ++ [p.1, p.2], some p, _, _, rfl, fun b u e => (upd_ne (ntk _ _ e)).trans (w1 b u e), upd_same, by rw [List.length_set, List.length_set]; exact hbl, fun e he => ?_, (upd_ne (kt _ _ pa)).trans pa4, hgo2⟩
                  have cm : (met ++ [p.1, p.2]).contains e = (met.contains e || decide (e = p.1) || decide (e = p.2)) := by
                    rw [Bool.eq_iff_iff]
                    simp [or_assoc]
                  rw [cm]
                  by_cases e2' : p.2 = e
                  · subst e2'
                    rw [List.getElem?_set_self (by rw [List.length_set, hbl]; exact he)]
                    simp
                  · rw [List.getElem?_set_ne e2']
                    by_cases e1' : p.1 = e
                    · subst e1'
                      rw [List.getElem?_set_self (by rw [hbl]; exact he)]
                      simp
                    · rw [List.getElem?_set_ne e1', hbs e he, decide_eq_false (fun z => e1' z.symm), decide_eq_false (fun z => e2' z.symm), Bool.or_false, Bool.or_false]
        · rintro σ H2 ⟨ah, bs, met, o, v4, v5, rfl, s5, htk2, hbl, hbs, hah, hgo⟩
          rw [hI.len, List.drop_length] at hgo
          have hno : goF 0 [] none os = none := hgo.symm
          have hos := goF_pairs os 0 [] none hno
          generalize os.filterMap id = ps at hos
          subst hos
          obtain ⟨k3, k4⟩ := k2 hno ps rfl
          obtain ⟨as, rfl, hP, hlt⟩ := hI.pairs
          have hla : as.length = ps.length := hP.len
          have nl : (refs as).length = as.length := List.length_map _
          refine ⟨_, rfl, t, (refs as).length / 2, as, ps, rfl, s5 _ _ ht, hP.mono (sameT s5), ⟨by omega, by omega, fun p hp => ?_⟩, by omega, fun H4 b s6 hb => ⟨b, rfl, ?_⟩⟩
          · have := hlt p hp
            omega
          cases b with
          | true => exact iteT (k3 (hb.mp rfl) _ (s5.trans s6))
          | false =>
            have ht4 := s6 _ _ (s5 _ _ ht)
            refine iteF ⟨_, rfl, t, _, rfl, .inr (SqT.of ht4), by show 1 ≤ sizeLine; decide, fun p hp => ?_⟩
            exact k4 (fun hw => by cases hb.mpr hw) _ p (s5.trans (s6.trans (Same.new hp))) upd_same
end
end One
end P_E6

section P_M5
set_option linter.all false
/-! Far ends; sewing the newest crossing out again. -/
namespace One
/-- strictly sorted lists with the same items are the same -/
theorem sorted_ext {α : Type} {lt : α → α → Prop} (irr : ∀ a, ¬ lt a a) (tr : ∀ a b c, lt a b → lt b c → lt a c) : ∀ {L M : List α}, L.Pairwise lt → M.Pairwise lt → (∀ x, x ∈ L ↔ x ∈ M) → L = M
  | [], [], _, _, _ => rfl
  | [], b :: M, _, _, h => absurd ((h b).mpr (List.mem_cons_self ..)) (by simp)
  | a :: L, [], _, _, h => absurd ((h a).mp (List.mem_cons_self ..)) (by simp)
  | a :: L, b :: M, hL, hM, h => by
    obtain ⟨h1, h2⟩ := List.pairwise_cons.mp hL
    obtain ⟨h3, h4⟩ := List.pairwise_cons.mp hM
    have e : a = b := by
      rcases List.mem_cons.mp ((h a).mp (List.mem_cons_self ..)) with e | m
      · exact e
      · rcases List.mem_cons.mp ((h b).mpr (List.mem_cons_self ..)) with e | m'
        · exact e.symm
        · exact absurd (tr _ _ _ (h1 b m') (h3 a m)) (irr a)
    subst e
    refine congrArg (a :: ·) (sorted_ext irr tr h2 h4 fun x => ⟨fun m => ?_, fun m => ?_⟩)
    · rcases List.mem_cons.mp ((h x).mp (List.mem_cons_of_mem _ m)) with e | m'
      · subst e
        exact absurd (h1 x m) (irr x)
      · exact m'
    · rcases List.mem_cons.mp ((h x).mpr (List.mem_cons_of_mem _ m)) with e | m'
      · subst e
        exact absurd (h3 x m) (irr x)
      · exact m'
theorem ltP_irr (a : Nat × Nat) : ¬ ltP a a := fun h => by
  unfold ltP at h
  omega
theorem ltP_tr (a b c : Nat × Nat) (h : ltP a b) (k : ltP b c) : ltP a c := by
  unfold ltP at *
  omega
theorem Yard.eq {n m : Nat} {L M : List (Nat × Nat)} (y : Yard n L) (z : Yard m M) (h : ∀ x, x ∈ L ↔ x ∈ M) : L = M := sorted_ext ltP_irr ltP_tr y.up z.up h
/-- the far end -/
def far : List (Nat × Nat) → Nat → Nat
  | [], _ => 0
  | p :: r, e => if e = p.1 then p.2 else if e = p.2 then p.1 else far r e
theorem far_out : ∀ {ps : List (Nat × Nat)} {e : Nat}, e ∉ ends ps → far ps e = 0
  | [], _, _ => rfl
  | p :: r, e, h => by
    have h : e ∉ p.1 :: p.2 :: ends r := h
    simp only [List.mem_cons, not_or] at h
    unfold far
    rw [if_neg h.1, if_neg h.2.1, far_out h.2.2]
theorem far_of : ∀ {ps : List (Nat × Nat)}, (ends ps).Nodup → ∀ {p : Nat × Nat}, p ∈ ps → far ps p.1 = p.2 ∧ far ps p.2 = p.1
  | q :: r, h, p, m => by
    have h : (q.1 :: q.2 :: ends r).Nodup := h
    obtain ⟨h1, h2⟩ := List.nodup_cons.mp h
    obtain ⟨h3, h4⟩ := List.nodup_cons.mp h2
    unfold far
    rcases List.mem_cons.mp m with e | m
    · subst e
      refine ⟨if_pos rfl, ?_⟩
      rw [if_neg (fun e => h1 (List.mem_cons.mpr (.inl e.symm))), if_pos rfl]
    · have m1 : p.1 ∈ ends r := mem_ends.mpr ⟨p, m, .inl rfl⟩
      have m2 : p.2 ∈ ends r := mem_ends.mpr ⟨p, m, .inr rfl⟩
      obtain ⟨i1, i2⟩ := far_of h4 m
      have n1 : p.1 ≠ q.1 := fun e => h1 (List.mem_cons.mpr (.inr (e ▸ m1)))
      have n2 : p.1 ≠ q.2 := fun e => h3 (e ▸ m1)
      have n3 : p.2 ≠ q.1 := fun e => h1 (List.mem_cons.mpr (.inr (e ▸ m2)))
      have n4 : p.2 ≠ q.2 := fun e => h3 (e ▸ m2)
      rw [if_neg n1, if_neg n2, if_neg n3, if_neg n4]
      exact ⟨i1, i2⟩
theorem far_line {ps : List (Nat × Nat)} (h : (ends ps).Nodup) {e : Nat} (m : e ∈ ends ps) : ((e, far ps e) ∈ ps ∨ (far ps e, e) ∈ ps) ∧ far ps (far ps e) = e := by
  obtain ⟨p, hp, z | z⟩ := mem_ends.mp m
  · obtain ⟨i1, i2⟩ := far_of h hp
    rw [z, i1, i2]
    exact ⟨.inl hp, rfl⟩
  · obtain ⟨i1, i2⟩ := far_of h hp
    rw [z, i2, i1]
    exact ⟨.inr hp, rfl⟩
theorem far_snoc {p : Nat × Nat} : ∀ {ps : List (Nat × Nat)}, (ends (ps ++ [p])).Nodup → ∀ e, far (ps ++ [p]) e = if e = p.1 then p.2 else if e = p.2 then p.1 else far ps e
  | ps, h, e => by
    have hp : p ∈ ps ++ [p] := List.mem_append_right _ (List.mem_cons_self ..)
    obtain ⟨i1, i2⟩ := far_of h hp
    by_cases e1 : e = p.1
    · rw [if_pos e1, e1, i1]
    · rw [if_neg e1]
      by_cases e2 : e = p.2
      · rw [if_pos e2, e2, i2]
      · rw [if_neg e2]
        have go : ∀ (l : List (Nat × Nat)), far (l ++ [p]) e = far l e := by
          intro l
          induction l with
          | nil =>
            show (if e = p.1 then p.2 else if e = p.2 then p.1 else far [] e) = far [] e
            rw [if_neg e1, if_neg e2]
          | cons q r ih =>
            show (if e = q.1 then q.2 else if e = q.2 then q.1 else far (r ++ [p]) e) = (if e = q.1 then q.2 else if e = q.2 then q.1 else far r e)
            rw [ih]
        exact go ps
theorem pigeon : ∀ (m : Nat) (l : List Nat), l.Nodup → (∀ x ∈ l, x < m) → l.length ≤ m
  | 0, [], _, _ => Nat.le_refl _
  | 0, a :: l, _, h => absurd (h a (List.mem_cons_self ..)) (by omega)
  | m + 1, l, nd, h => by
    by_cases hm : m ∈ l
    · have e := List.length_erase_of_mem hm
      have ih := pigeon m (l.erase m) (nd.erase m) fun x hx => by
        have q := (nd.mem_erase_iff).mp hx
        have := h x q.2
        have := q.1
        omega
      omega
    · have ih := pigeon m l nd fun x hx => by
        have := h x hx
        have : x ≠ m := fun e => hm (e ▸ hx)
        omega
      omega
/-- every end below 4n stands in lines of n crossings -/
theorem ends_full {n : Nat} {ps : List (Nat × Nat)} (L : Lines n ps) {e : Nat} (h : e < 4 * n) : e ∈ ends ps := by
  by_cases m : e ∈ ends ps
  · exact m
  · exfalso
    have hl : (ends ps).length = 4 * n := by rw [ends_length, L.len]; omega
    have nd : (e :: ends ps).Nodup := List.nodup_cons.mpr ⟨m, L.nd⟩
    have := pigeon (4 * n) (e :: ends ps) nd fun x hx => by
      rcases List.mem_cons.mp hx with z | z
      · rw [z]; exact h
      · exact L.lt x z
    rw [List.length_cons, hl] at this
    omega
theorem far_lt {n : Nat} {ps : List (Nat × Nat)} (L : Lines n ps) {e : Nat} (h : e < 4 * n) : far ps e < 4 * n := by
  obtain ⟨z | z, _⟩ := far_line L.nd (ends_full L h)
  · exact L.lt _ (mem_ends.mpr ⟨_, z, .inr rfl⟩)
  · exact L.lt _ (mem_ends.mpr ⟨_, z, .inl rfl⟩)
/-- the lines told from the far ends -/
def linesOf (F : Nat → Nat) (m : Nat) : List (Nat × Nat) := (List.range m).filterMap fun e => if e < F e then some (e, F e) else none
theorem linesOf_snoc (F : Nat → Nat) (m : Nat) : linesOf F (m + 1) = linesOf F m ++ (if m < F m then [(m, F m)] else []) := by
  unfold linesOf
  rw [List.range_succ, List.filterMap_append]
  by_cases h : m < F m
  · simp [h]
  · simp [h]
theorem linesOf_mem {F : Nat → Nat} {m : Nat} {p : Nat × Nat} : p ∈ linesOf F m ↔ p.1 < m ∧ F p.1 = p.2 ∧ p.1 < p.2 := by
  unfold linesOf
  rw [List.mem_filterMap]
  constructor
  · rintro ⟨e, he, h⟩
    split at h
    · cases h
      exact ⟨List.mem_range.mp he, rfl, by assumption⟩
    · cases h
  · rintro ⟨h1, h2, h3⟩
    refine ⟨p.1, List.mem_range.mpr h1, ?_⟩
    rw [h2, if_pos h3]
theorem linesOf_up (F : Nat → Nat) : ∀ m, (linesOf F m).Pairwise ltP
  | 0 => .nil
  | m + 1 => by
    rw [linesOf_snoc]
    refine List.pairwise_append.mpr ⟨linesOf_up F m, ?_, fun a ha b hb => ?_⟩
    · split
      · exact List.pairwise_singleton _ _
      · exact .nil
    · split at hb
      · rw [List.mem_singleton.mp hb]
        exact .inl (linesOf_mem.mp ha).1
      · cases hb
theorem yard_linesOf {n : Nat} {ps : List (Nat × Nat)} (y : Yard n ps) : linesOf (far ps) (4 * n) = ps := by
  refine sorted_ext ltP_irr ltP_tr (linesOf_up _ _) y.up fun p => ⟨fun h => ?_, fun h => ?_⟩
  · obtain ⟨h1, h2, h3⟩ := linesOf_mem.mp h
    obtain ⟨z | z, _⟩ := far_line y.lines.nd (ends_full y.lines h1)
    · rw [h2] at z
      exact z
    · rw [h2] at z
      have := y.low _ z
      simp only at this
      omega
  · have h1 := y.lines.lt _ (mem_ends.mpr ⟨p, h, .inl rfl⟩)
    exact linesOf_mem.mpr ⟨h1, (far_of y.lines.nd h).1, y.low p h⟩
end One
end P_M5

section P_M6
set_option linter.all false
namespace One
/-- what lies behind b, seen through crossing c sewn out at way w; k turns at most -/
def backK (F : Nat → Nat) (c w : Nat) : Nat → Nat → Option Nat
  | 0, b => if b / 4 = c then none else some b
  | k + 1, b => if b / 4 = c then backK F c w k (F (b ^^^ (w + 1))) else some b
theorem xor_two : ∀ n, n < 64 → (4 * n) ^^^ 2 = 4 * n + 2 ∧ (4 * n + 1) ^^^ 2 = 4 * n + 3 ∧ (4 * n + 2) ^^^ 2 = 4 * n ∧ (4 * n + 3) ^^^ 2 = 4 * n + 1 := by
  have h : ∀ n : Fin 64, (4 * (n : Nat)) ^^^ 2 = 4 * (n : Nat) + 2 ∧ (4 * (n : Nat) + 1) ^^^ 2 = 4 * (n : Nat) + 3 ∧ (4 * (n : Nat) + 2) ^^^ 2 = 4 * (n : Nat) ∧ (4 * (n : Nat) + 3) ^^^ 2 = 4 * (n : Nat) + 1 := by decide +kernel
  exact fun n hn => h ⟨n, hn⟩
theorem backK_out {F : Nat → Nat} {c w k b : Nat} (h : b / 4 ≠ c) : backK F c w k b = some b := by
  cases k <;> exact if_neg h
theorem backK_in {F : Nat → Nat} {c w k b : Nat} (h : b / 4 = c) : backK F c w (k + 1) b = backK F c w k (F (b ^^^ (w + 1))) := if_pos h
theorem put_yard {n : Nat} {ps T : List (Nat × Nat)} {i j : Nat} {a b : Nat × Nat} (y : Yard n ps) (ha : ps[i]? = some a) (hb : ps[j]? = some b) (hp : T.Perm (putOn n ps i j a b)) (hs : T.Pairwise leP) : Yard (n + 1) T := by
  refine yard_of_sorted (Nat.succ_pos _) (put_lines y.lines ha hb) (put_whole y.pos y.lines y.whole ha hb) (fun p m => ?_) hp hs
  have lt : ∀ q ∈ ps, q.1 < 4 * n ∧ q.2 < 4 * n := fun q hq => ⟨y.lines.lt _ (mem_ends.mpr ⟨q, hq, .inl rfl⟩), y.lines.lt _ (mem_ends.mpr ⟨q, hq, .inr rfl⟩)⟩
  obtain ⟨a1, a2⟩ := lt a (List.mem_of_getElem? ha)
  obtain ⟨b1, b2⟩ := lt b (List.mem_of_getElem? hb)
  rcases List.mem_append.mp m with m | m
  · exact Nat.le_of_lt (y.low p (mem_keep _ _ _ _ m))
  · unfold fresh at m
    split at m
    · simp only [List.mem_cons, List.not_mem_nil, or_false] at m
      rcases m with rfl | rfl | rfl <;> simp only <;> omega
    · simp only [List.mem_cons, List.not_mem_nil, or_false] at m
      rcases m with rfl | rfl | rfl | rfl <;> simp only <;> omega
theorem sew_back {n : Nat} {ps T : List (Nat × Nat)} {i j : Nat} {a b : Nat × Nat} (L : Lines n ps) (ha : ps[i]? = some a) (hb : ps[j]? = some b) (hp : T.Perm (putOn n ps i j a b)) (hn : n < 64) :
    (∀ e, e < 4 * n → backK (far T) n 1 2 (far T e) = some (far ps e)) ∧ (far T (4 * n) ≠ (4 * n) ^^^ 2 ∧ far T (4 * n + 1) ≠ (4 * n + 1) ^^^ 2 ∧ far T (4 * n + 2) ≠ (4 * n + 2) ^^^ 2 ∧ far T (4 * n + 3) ≠ (4 * n + 3) ^^^ 2) := by
  have LT : Lines (n + 1) T := (put_lines L ha hb).perm hp.symm
  obtain ⟨x0, x1, x2, x3⟩ := xor_two n hn
  have lt : ∀ q ∈ ps, q.1 < 4 * n ∧ q.2 < 4 * n := fun q hq => ⟨L.lt _ (mem_ends.mpr ⟨q, hq, .inl rfl⟩), L.lt _ (mem_ends.mpr ⟨q, hq, .inr rfl⟩)⟩
  have ma := List.mem_of_getElem? ha
  have mb := List.mem_of_getElem? hb
  obtain ⟨a1, a2⟩ := lt a ma
  obtain ⟨b1, b2⟩ := lt b mb
  have d0 : (4 * n) / 4 = n := by omega
  have d1 : (4 * n + 1) / 4 = n := by omega
  have d2 : (4 * n + 2) / 4 = n := by omega
  have d3 : (4 * n + 3) / 4 = n := by omega
  have out : ∀ {b k}, b < 4 * n → backK (far T) n 1 k b = some b := fun h => backK_out (by omega)
  have isT : ∀ {p}, p ∈ putOn n ps i j a b → far T p.1 = p.2 ∧ far T p.2 = p.1 := fun m => far_of LT.nd (hp.mem_iff.mpr m)
  have kept : ∀ p ∈ keepIx (notIJ i j) 0 ps, ∀ e, e = p.1 ∨ e = p.2 → backK (far T) n 1 2 (far T e) = some (far ps e) := fun p m e he => by
    have mp := mem_keep _ _ _ _ m
    obtain ⟨t1, t2⟩ := isT (p := p) (List.mem_append_left _ m)
    obtain ⟨o1, o2⟩ := far_of L.nd mp
    obtain ⟨l1, l2⟩ := lt p mp
    rcases he with rfl | rfl
    · rw [t1, o1]; exact out l2
    · rw [t2, o2]; exact out l1
  by_cases hij : i = j
  · subst hij
    have eab : b = a := Option.some.inj (hb.symm.trans ha)
    subst eab
    have fr : fresh n i i b b = [(b.1, 4 * n), (4 * n + 1, 4 * n + 2), (b.2, 4 * n + 3)] := if_pos rfl
    have mem : ∀ q ∈ fresh n i i b b, far T q.1 = q.2 ∧ far T q.2 = q.1 := fun q m => isT (List.mem_append_right _ m)
    rw [fr] at mem
    obtain ⟨p1, p2⟩ := mem (b.1, 4 * n) (by simp)
    obtain ⟨p3, p4⟩ := mem (4 * n + 1, 4 * n + 2) (by simp)
    obtain ⟨p5, p6⟩ := mem (b.2, 4 * n + 3) (by simp)
    simp only at p1 p2 p3 p4 p5 p6
    obtain ⟨g1, g2⟩ := far_of L.nd mb
    refine ⟨fun e he => ?_, ?_, ?_, ?_, ?_⟩
    · obtain ⟨p, m, z⟩ := mem_ends.mp (ends_full L he)
      rcases List.mem_cons.mp ((keep_one ha).mem_iff.mp m) with e1 | m
      · subst e1
        rcases z with rfl | rfl
        · rw [p1, g1, backK_in d0, x0, p4, backK_in d1, x1, p6]
          exact out b2
        · rw [p5, g2, backK_in d3, x3, p3, backK_in d2, x2, p2]
          exact out b1
      · exact kept p m e z
    · rw [p2, x0]; omega
    · rw [p3, x1]; omega
    · rw [p4, x2]; omega
    · rw [p6, x3]; omega
  · have fr : fresh n i j a b = [(a.1, 4 * n), (a.2, 4 * n + 2), (b.1, 4 * n + 1), (b.2, 4 * n + 3)] := if_neg hij
    have mem : ∀ q ∈ fresh n i j a b, far T q.1 = q.2 ∧ far T q.2 = q.1 := fun q m => isT (List.mem_append_right _ m)
    rw [fr] at mem
    obtain ⟨p1, p2⟩ := mem (a.1, 4 * n) (by simp)
    obtain ⟨p3, p4⟩ := mem (a.2, 4 * n + 2) (by simp)
    obtain ⟨p5, p6⟩ := mem (b.1, 4 * n + 1) (by simp)
    obtain ⟨p7, p8⟩ := mem (b.2, 4 * n + 3) (by simp)
    simp only at p1 p2 p3 p4 p5 p6 p7 p8
    obtain ⟨g1, g2⟩ := far_of L.nd ma
    obtain ⟨g3, g4⟩ := far_of L.nd mb
    refine ⟨fun e he => ?_, ?_, ?_, ?_, ?_⟩
    · obtain ⟨p, m, z⟩ := mem_ends.mp (ends_full L he)
      rcases List.mem_cons.mp ((keep_two hij ha hb).mem_iff.mp m) with e1 | m
      · subst e1
        rcases z with rfl | rfl
        · rw [p1, g1, backK_in d0, x0, p4]
          exact out a2
        · rw [p3, g2, backK_in d2, x2, p2]
          exact out a1
      · rcases List.mem_cons.mp m with e1 | m
        · subst e1
          rcases z with rfl | rfl
          · rw [p5, g3, backK_in d1, x1, p8]
            exact out b2
          · rw [p7, g4, backK_in d3, x3, p6]
            exact out b1
        · exact kept p m e z
    · rw [p2, x0]; omega
    · rw [p6, x1]; omega
    · rw [p4, x2]; omega
    · rw [p8, x3]; omega
end One
end P_M6

section P_F1
set_option linter.all false
set_option maxRecDepth 100000
set_option maxHeartbeats 8000000
namespace One
open PySem PySem.Spec PyProof.Rows L2
abbrev sFars : Stmt := top 21
abbrev sMate : Stmt := top 22
abbrev nFars : List Str := ["lines", "fars", "low", "high"]
theorem scFars : FnScope nFars ["lines"] (defScope sFars) := ⟨rfl, rfl, rfl, by decide +kernel, rfl, by decide +kernel, by decide +kernel⟩
theorem scMate : FnScope ["end", "way"] ["end", "way"] (defScope sMate) := ⟨rfl, rfl, rfl, by decide +kernel, rfl, by decide +kernel, by decide +kernel⟩
/-- the far ends of m crossings, as a list -/
def farL (F : Nat → Nat) (m : Nat) : List V := nats ((List.range (4 * m)).map F)
theorem farL_at {F : Nat → Nat} {m e : Nat} (h : e < 4 * m) : (farL F m)[e]? = some (V.int (F e : Nat)) := by
  unfold farL nats
  rw [List.getElem?_map, List.getElem?_map, List.getElem?_range h]
  rfl
theorem farL_len (F : Nat → Nat) (m : Nat) : (farL F m).length = 4 * m := by
  unfold farL nats
  rw [List.length_map, List.length_map, List.length_range]
def upOf (c e : Nat) : Nat := if c < e / 4 then e - 4 else e
def spFars : Sp := fun vs H Q _ => ∃ (t : Addr) (n : Nat) (as : List Addr) (ps : List (Nat × Nat)), vs = [.ref t] ∧ H t = some (.tup (refs as)) ∧ PL H as ps ∧ Lines n ps ∧ n ≤ 100 ∧ ∀ (H' : Hp) (L : Addr), Same H H' → H L = none → H' L = some (.lst (farL (far ps) n)) → Q (.ref L) H'
def spMate : Sp := fun vs H Q _ => ∃ e w : Nat, vs = [.int (e : Nat), .int (w : Nat)] ∧ Q (.int ((e ^^^ (w + 1) : Nat))) H
def spUp : Sp := fun vs H Q _ => ∃ e c : Nat, vs = [.int (e : Nat), .int (c : Nat)] ∧ Q (.int (upOf c e : Nat)) H
section
variable {P : Program} {w : World} {K : PySem.W.Frag} {mg : Str → Option Value} {base : Heap}
theorem ok_mate {f : Addr} {fd : FuncData} (F : Fun K "mate" "mate" sMate f fd) : FnOk P w K mg base CX0 1 f fd ["end", "way"] spMate := by
  refine F.ok scMate (fun vs H Q E h => ?_) (fun cdv A outer s H vs Q E hr h => ?_)
  · obtain ⟨e, w, rfl, _⟩ := h
    rfl
  · obtain ⟨e, w, rfl, k⟩ := h
    refine ⟨_, pss_one (ps_ret (pe_op op_xor (pv 0) (pe_op op_add (pv 1) pe_int))), ?_⟩
    refine ⟨_, rfl, _, rfl, _, _, rfl, rfl, _, _, rfl, rfl, ?_⟩
    show Q (.int (Builtin.bitXor ((e : Nat) : Int) (((w : Nat) : Int) + 1))) H
    have : Builtin.bitXor ((e : Nat) : Int) (((w : Nat) : Int) + 1) = ((e ^^^ (w + 1) : Nat) : Int) := by
      rw [Bits.bitXor_pp (by omega) (by omega)]
      have : (((w : Nat) : Int) + 1).toNat = w + 1 := by omega
      rw [this]
      rfl
    rw [this]
    exact k
end
end One
end P_F1

section P_F2
set_option linter.all false
set_option maxRecDepth 100000
set_option maxHeartbeats 8000000
namespace One
open PySem PySem.Spec PyProof.Rows L2
section
variable {P : Program} {w : World} {K : PySem.W.Frag} {mg : Str → Option Value} {base : Heap}
theorem nats_set (r : List Nat) (j x : Nat) : (nats r).set j (V.int (x : Nat)) = nats (r.set j x) := (List.map_set).symm
theorem ok_fars {f : Addr} {fd : FuncData} (F : Fun K "fars_of_lines" "fars_of_lines" sFars f fd) (T : TB mg) : FnOk P w K mg base CX0 1 f fd ["lines"] spFars := by
  refine F.ok scFars (fun vs H Q E h => ?_) (fun cdv A outer s H vs Q E hr h => ?_)
  · obtain ⟨t, n, as, ps, rfl, _⟩ := h
    rfl
  · obtain ⟨t, n, as, ps, rfl, ht, hP, L, hn, k⟩ := h
    have nd := scFars.nd
    have hal : as.length = 2 * n := by rw [hP.len, L.len]
    have nl : (refs as).length = as.length := List.length_map _
    refine ⟨_, pss_cons (ps_set (i := 1) nd rfl (Or.inl rfl) (pe_op op_rep (pe_lst (pa_cons pe_int pa_nil)) (pe_op op_mul pe_int (pe_callB call_len_seq (by rfl) T.len PySem.boot_len (pa_cons (pv 0) pa_nil)))))
      (pss_cons (ps_for PassesOwn.never rfl (pi_tup (pv 0)) (pg_tup rfl (pgs_cons (pg_name (i := 2) nd rfl (Or.inl rfl)) (pgs_cons (pg_name (i := 3) nd rfl (Or.inl rfl)) pgs_nil)))
        (pss_cons (ps_asg (pv 3) (pg_sub (pv 1) (pv 2) set_list)) (pss_one (ps_asg (pv 2) (pg_sub (pv 1) (pv 3) set_list)))))
      (pss_one (ps_ret (pv 1)))), ?_⟩
    have e4 : (2 : Int) * (((refs as).length : Nat) : Int) = ((4 * n : Nat) : Int) := by rw [nl, hal]; omega
    refine ⟨by show 1 ≤ sizeLine; decide, fun l1 hl1 => ?_⟩
    have s1 := Same.new (o := .lst [V.int 0]) hl1
    refine ⟨_, rfl, t, _, rfl, .inr (SqT.of (s1 _ _ ht)), _, _, rfl, rfl, .inl ⟨by decide, by decide⟩, l1, ((4 * n : Nat) : Int), _, rfl, (by show V.int ((2 : Int) * (((refs as).length : Nat) : Int)) = _; rw [e4]), upd_same, by omega, by omega, (by show 1 * _ ≤ _; exact Nat.le_of_lt (small1000 (by omega))), fun R hR => ?_⟩
    have eR : (List.replicate ((4 * n : Nat) : Int).toNat [V.int 0]).flatten = nats (List.replicate (4 * n) 0) := by
      rw [show ((4 * n : Nat) : Int).toNat = 4 * n by omega]
      show _ = (List.replicate (4 * n) 0).map _
      rw [List.map_replicate]
      exact flat_rep _ _
    have hR0 : H R = none := s1.free hR
    have s2 := Same.new (o := .lst (List.replicate ((4 * n : Nat) : Int).toNat [V.int 0]).flatten) hR
    have nR : ∀ b o, H b = some o → b ≠ R := fun b o e => ne_of_none e hR0
    refine ⟨_, rfl, t, rfl, ⟨_, SqT.of ((s1.trans s2) _ _ ht)⟩, for_tup (K := K) (a := t) (xs := refs as) (fun i σ H7 => ∃ (r : List Nat) (v2 v3 : Option V), σ = [some (.ref t), some (.ref R), v2, v3] ∧ Same H H7 ∧ H7 R = some (.lst (nats r)) ∧ r.length = 4 * n ∧ ∀ e, e < 4 * n → r[e]? = some (far (ps.take i) e))
      ⟨List.replicate (4 * n) 0, none, none, rfl, s1.trans s2, by rw [upd_same, eR], List.length_replicate, fun e he => by rw [List.getElem?_replicate, if_pos he]; rfl⟩ (fun i σ H7 _ ⟨_, _, _, _, h, _⟩ => SqT.of (h _ _ ht)) ?_ ?_⟩
    · rintro i x σ H7 hx ⟨r, v2, v3, rfl, s7, hR7, hrl, hr7⟩
      obtain ⟨a, ha⟩ : ∃ a, as[i]? = some a := by
        rw [List.getElem?_map] at hx
        cases e : as[i]? with
        | none =>
          rw [e] at hx
          cases hx
        | some a => exact ⟨a, rfl⟩
      rw [List.getElem?_map, ha] at hx
      cases hx
      obtain ⟨p, hp, pa⟩ := hP.got ha
      have mp := List.mem_of_getElem? hp
      have q1 := L.lt _ (mem_ends.mpr ⟨p, mp, .inl rfl⟩)
      have q2 := L.lt _ (mem_ends.mpr ⟨p, mp, .inr rfl⟩)
      have pa7 := s7 _ _ pa
      have etk := take_ends (H := H) hp
      have ndt : (ends (ps.take i ++ [p])).Nodup := by
        rw [← etk]
        have := L.nd
        rw [← List.take_append_drop (i + 1) ps, ends_append] at this
        exact (List.nodup_append.mp this).1
      refine ⟨a, _, rfl, SqT.of pa7, rfl, _, _, rfl, _, _, rfl, rfl, ?_⟩
      refine ⟨_, rfl, _, rfl, _, rfl, R, _, _, p.1, rfl, rfl, hR7, ix_nat (by rw [List.length_map, hrl]; exact q1), ?_⟩
      rw [nats_set]
      refine ⟨_, rfl, _, rfl, _, rfl, R, _, _, p.2, rfl, rfl, upd_same, ix_nat (by rw [List.length_map, List.length_set, hrl]; exact q2), ?_⟩
      rw [nats_set]
      refine ⟨(r.set p.1 p.2).set p.2 p.1, _, _, rfl, fun b o e => ?_, upd_same, by rw [List.length_set, List.length_set, hrl], fun e he => ?_⟩
      · rw [upd_ne (nR _ _ e), upd_ne (nR _ _ e)]
        exact s7 _ _ e
      · rw [etk, far_snoc ndt]
        have hne := nodup_pair L.nd p mp
        by_cases e2 : p.2 = e
        · subst e2
          rw [List.getElem?_set_self (by rw [List.length_set, hrl]; exact q2), if_neg (Ne.symm hne), if_pos rfl]
        · rw [List.getElem?_set_ne e2]
          by_cases e1 : p.1 = e
          · subst e1
            rw [List.getElem?_set_self (by rw [hrl]; exact q1), if_pos rfl]
          · rw [List.getElem?_set_ne e1, if_neg (Ne.symm e1), if_neg (Ne.symm e2)]
            exact hr7 e he
    · rintro σ H7 ⟨r, v2, v3, rfl, s7, hR7, hrl, hr7⟩
      refine ⟨_, rfl, k _ R s7 hR0 ?_⟩
      rw [nl, hP.len, List.take_length] at hr7
      rw [hR7]
      congr 2
      show nats r = nats _
      congr 1
      refine List.ext_getElem? fun e => ?_
      by_cases he : e < 4 * n
      · rw [hr7 e he, List.getElem?_map, List.getElem?_range he]
        rfl
      · rw [List.getElem?_eq_none (by omega), List.getElem?_eq_none (by rw [List.length_map, List.length_range]; omega)]
end
end One
end P_F2

section P_M8
set_option linter.all false
/-! Sewing out any crossing, at any way, where nothing closes: what lies behind an end. -/
namespace One
theorem mate_block {e w : Nat} (hw : w < 3) : (e ^^^ (w + 1)) / 4 = e / 4 := by
  have h := Nat.xor_div_two_pow (a := e) (b := w + 1) (n := 2)
  rw [show (2 : Nat) ^ 2 = 4 from rfl] at h
  rw [h, show (w + 1) / 4 = 0 by omega, Nat.xor_zero]
theorem mate_mate (e w : Nat) : (e ^^^ (w + 1)) ^^^ (w + 1) = e := by rw [Nat.xor_assoc, Nat.xor_self, Nat.xor_zero]
theorem mate_ne (e w : Nat) : e ^^^ (w + 1) ≠ e := fun h => by
  have h2 : e ^^^ (e ^^^ (w + 1)) = e ^^^ e := by rw [h]
  rw [← Nat.xor_assoc, Nat.xor_self, Nat.zero_xor] at h2
  omega
/-- far ends of lines: no end is its own far end, far of far is the end -/
structure Inv2 (F : Nat → Nat) (m : Nat) : Prop where
  lt : ∀ e, e < 4 * m → F e < 4 * m
  inv : ∀ e, e < 4 * m → F (F e) = e
  ne : ∀ e, e < 4 * m → F e ≠ e
theorem far_inv {n : Nat} {ps : List (Nat × Nat)} (L : Lines n ps) : Inv2 (far ps) n := by
  refine ⟨fun e he => far_lt L he, fun e he => (far_line L.nd (ends_full L he)).2, fun e he h => ?_⟩
  obtain ⟨z | z, _⟩ := far_line L.nd (ends_full L he)
  · rw [h] at z
    exact nodup_pair L.nd _ z rfl
  · rw [h] at z
    exact nodup_pair L.nd _ z rfl
/-- nothing closes at crossing c, way w -/
def Open (F : Nat → Nat) (c w : Nat) : Prop := ∀ e, e / 4 = c → F e ≠ e ^^^ (w + 1)
section
variable {F : Nat → Nat} {m c w : Nat}
/-- the walk behind an end ends within two turns -/
theorem back_some (I : Inv2 F m) (hc : c < m) (hw : w < 3) (O : Open F c w) {e : Nat} (he : e < 4 * m) (ho : e / 4 ≠ c) : ∃ g, backK F c w 2 (F e) = some g ∧ g < 4 * m ∧ g / 4 ≠ c := by
  by_cases h0 : F e / 4 = c
  · rw [backK_in h0]
    have m0 : (F e ^^^ (w + 1)) / 4 = c := (mate_block hw).trans h0
    have l0 : F e ^^^ (w + 1) < 4 * m := by omega
    by_cases h1 : F (F e ^^^ (w + 1)) / 4 = c
    · rw [backK_in h1]
      have m1 : (F (F e ^^^ (w + 1)) ^^^ (w + 1)) / 4 = c := (mate_block hw).trans h1
      have l1 : F (F e ^^^ (w + 1)) ^^^ (w + 1) < 4 * m := by omega
      have h2 : F (F (F e ^^^ (w + 1)) ^^^ (w + 1)) / 4 ≠ c := by
        intro h2
        -- four ends of c: x, its mate, y, its mate, and where the last leads
        generalize hx : F e = x at *
        generalize hx' : x ^^^ (w + 1) = x' at *
        generalize hy : F x' = y at *
        generalize hy' : y ^^^ (w + 1) = y' at *
        generalize hz : F y' = z at *
        have fx : F x = e := by rw [← hx]; exact I.inv e he
        have fy : F y = x' := by rw [← hy]; exact I.inv x' l0
        have fz : F z = y' := by rw [← hz]; exact I.inv y' l1
        have mx : x' ^^^ (w + 1) = x := by rw [← hx']; exact mate_mate x w
        have my : y' ^^^ (w + 1) = y := by rw [← hy']; exact mate_mate y w
        have a1 : y ≠ x := fun q => O x' m0 (by rw [hy, mx]; exact q)
        have a2 : y ≠ x' := fun q => I.ne x' l0 (hy.trans q)
        have b1 : z ≠ y := fun q => O y' m1 (by rw [hz, my]; exact q)
        have b2 : z ≠ y' := fun q => I.ne y' l1 (hz.trans q)
        have b3 : z ≠ x := fun q => by
          rw [q, fx] at fz
          rw [fz] at ho
          exact ho m1
        have b4 : z ≠ x' := fun q => by
          rw [q, hy] at fz
          exact mate_ne y w (hy'.trans fz.symm)
        have d1 : x' ≠ x := fun q => mate_ne x w (hx'.trans q)
        have d2 : y' ≠ y := fun q => mate_ne y w (hy'.trans q)
        have d3 : y' ≠ x := fun q => by
          rw [q] at my
          exact a2 (my.symm.trans hx')
        have d4 : y' ≠ x' := fun q => by
          rw [q] at my
          exact a1 (my.symm.trans mx)
        omega
      rw [show backK F c w 0 (F (F (F e ^^^ (w + 1)) ^^^ (w + 1))) = some (F (F (F e ^^^ (w + 1)) ^^^ (w + 1))) from backK_out h2]
      exact ⟨_, rfl, I.lt _ l1, h2⟩
    · rw [backK_out h1]
      exact ⟨_, rfl, I.lt _ l0, h1⟩
  · rw [backK_out h0]
    exact ⟨_, rfl, I.lt _ he, h0⟩
end
end One
end P_M8

section P_M19
set_option linter.all false
/-! Rounds: going on from end to end. -/
namespace One
def iter (f : Nat → Nat) : Nat → Nat → Nat
  | 0, s => s
  | k + 1, s => f (iter f k s)
theorem iter_add (f : Nat → Nat) : ∀ i j s, iter f (i + j) s = iter f i (iter f j s)
  | 0, j, s => by rw [Nat.zero_add]; rfl
  | i + 1, j, s => by
    rw [show i + 1 + j = (i + j) + 1 by omega]
    show f (iter f (i + j) s) = f (iter f i (iter f j s))
    rw [iter_add f i j s]
/-- a going on among the numbers below m -/
structure Goes (f : Nat → Nat) (m : Nat) : Prop where
  lt : ∀ e, e < m → f e < m
  inj : ∀ e g, e < m → g < m → f e = f g → e = g
section
variable {f : Nat → Nat} {m : Nat}
theorem Goes.iter_lt (G : Goes f m) {s : Nat} (hs : s < m) : ∀ k, iter f k s < m
  | 0 => hs
  | k + 1 => G.lt _ (G.iter_lt hs k)
theorem Goes.iter_inj (G : Goes f m) {a b : Nat} (ha : a < m) (hb : b < m) : ∀ k, iter f k a = iter f k b → a = b
  | 0, h => h
  | k + 1, h => G.iter_inj ha hb k (G.inj _ _ (G.iter_lt ha k) (G.iter_lt hb k) h)
/-- back at the start behind k steps, and not ahead of that -/
structure Per (f : Nat → Nat) (s k : Nat) : Prop where
  pos : 0 < k
  back : iter f k s = s
  first : ∀ i, 0 < i → i < k → iter f i s ≠ s
def rnd (f : Nat → Nat) (s k : Nat) : List Nat := (List.range k).map fun i => iter f i s
theorem rnd_len (f : Nat → Nat) (s k : Nat) : (rnd f s k).length = k := by
  unfold rnd
  rw [List.length_map, List.length_range]
theorem rnd_snoc (f : Nat → Nat) (s k : Nat) : rnd f s (k + 1) = rnd f s k ++ [iter f k s] := by
  unfold rnd
  rw [List.range_succ, List.map_append]
  rfl
theorem mem_rnd {f : Nat → Nat} {s k x : Nat} : x ∈ rnd f s k ↔ ∃ i, i < k ∧ iter f i s = x := by
  unfold rnd
  rw [List.mem_map]
  exact ⟨fun ⟨i, h, e⟩ => ⟨i, List.mem_range.mp h, e⟩, fun ⟨i, h, e⟩ => ⟨i, List.mem_range.mpr h, e⟩⟩
theorem Goes.apart (G : Goes f m) {s k : Nat} (hs : s < m) (first : ∀ i, 0 < i → i < k → iter f i s ≠ s) {i j : Nat} (hij : i < j) (hj : j < k) : iter f i s ≠ iter f j s := fun h => by
  have e : iter f j s = iter f i (iter f (j - i) s) := by rw [← iter_add, show i + (j - i) = j by omega]
  rw [e] at h
  exact first (j - i) (by omega) (by omega) (G.iter_inj hs (G.iter_lt hs _) i h).symm
theorem Goes.nodup (G : Goes f m) {s : Nat} (hs : s < m) : ∀ k, (∀ i, 0 < i → i < k → iter f i s ≠ s) → (rnd f s k).Nodup
  | 0, _ => List.nodup_nil
  | k + 1, first => by
    rw [rnd_snoc]
    refine List.nodup_append.mpr ⟨G.nodup hs k fun i h0 h1 => first i h0 (by omega), by simp, fun a ha b hb e => ?_⟩
    obtain ⟨i, hi, rfl⟩ := mem_rnd.mp ha
    rw [List.mem_singleton.mp hb] at e
    exact G.apart hs first hi (Nat.lt_succ_self k) e
theorem Goes.per (G : Goes f m) {s : Nat} (hs : s < m) : ∃ k, Per f s k ∧ k ≤ m := by
  have ex : ∃ k, 0 < k ∧ k ≤ m ∧ iter f k s = s := by
    refine Classical.byContradiction fun no => ?_
    have first : ∀ i, 0 < i → i < m + 1 → iter f i s ≠ s := fun i h0 h1 e => no ⟨i, h0, by omega, e⟩
    have nd := G.nodup hs (m + 1) first
    have := pigeon m _ nd fun x hx => by
      obtain ⟨i, _, rfl⟩ := mem_rnd.mp hx
      exact G.iter_lt hs i
    rw [rnd_len] at this
    omega
  have least : ∀ k, (0 < k ∧ k ≤ m ∧ iter f k s = s) → ∃ k, Per f s k ∧ k ≤ m := by
    intro k
    induction k using Nat.strongRecOn with
    | ind k ih =>
      intro ⟨h0, h1, h2⟩
      by_cases h : ∃ i, 0 < i ∧ i < k ∧ iter f i s = s
      · obtain ⟨i, a, b, c⟩ := h
        exact ih i b ⟨a, by omega, c⟩
      · exact ⟨k, ⟨h0, h2, fun i a b c => h ⟨i, a, b, c⟩⟩, h1⟩
  obtain ⟨k, h⟩ := ex
  exact least k h
theorem Per.one {s k j : Nat} (a : Per f s k) (b : Per f s j) : k = j := by
  rcases Nat.lt_trichotomy k j with h | h | h
  · exact absurd a.back (b.first k a.pos h)
  · exact h
  · exact absurd b.back (a.first j b.pos h)
/-- any steps are steps of the round -/
theorem Per.mod {s k : Nat} (a : Per f s k) : ∀ i, iter f i s ∈ rnd f s k := by
  have turn : ∀ q r, iter f (q * k + r) s = iter f r s := by
    intro q r
    induction q with
    | zero => rw [Nat.zero_mul, Nat.zero_add]
    | succ q ih =>
      rw [show (q + 1) * k + r = (q * k + r) + k by rw [Nat.succ_mul]; omega, iter_add, a.back]
      exact ih
  intro i
  refine mem_rnd.mpr ⟨i % k, Nat.mod_lt _ a.pos, ?_⟩
  have := turn (i / k) (i % k)
  rw [← this, Nat.mul_comm, Nat.div_add_mod]
/-- two rounds with one end are of the same ends -/
theorem Per.same (G : Goes f m) {s t k j x : Nat} (hs : s < m) (ht : t < m) (a : Per f s k) (b : Per f t j) (hx : x ∈ rnd f s k) (hy : x ∈ rnd f t j) : ∀ z, z ∈ rnd f s k → z ∈ rnd f t j := by
  obtain ⟨i, hi, e1⟩ := mem_rnd.mp hx
  obtain ⟨l, hl, e2⟩ := mem_rnd.mp hy
  intro z hz
  obtain ⟨p, hp, rfl⟩ := mem_rnd.mp hz
  -- from x go on k - i steps to s, then p more
  have e : iter f p s = iter f (p + (k - i) + l) t := by
    rw [iter_add f (p + (k - i)) l t, e2, ← e1, ← iter_add, show p + (k - i) + i = p + k by omega, iter_add, a.back]
  rw [e]
  exact b.mod _
end
/-! ### by far ends and ways -/
section
variable {F W : Nat → Nat} {n : Nat}
/-- the end from which one goes on next -/
def nextE (F W : Nat → Nat) (e : Nat) : Nat := F e ^^^ (W (F e / 4) + 1)
theorem next_goes (I : Inv2 F n) (hW : ∀ c, c < n → W c < 3) : Goes (nextE F W) (4 * n) := by
  have blk : ∀ e, e < 4 * n → (F e ^^^ (W (F e / 4) + 1)) / 4 = F e / 4 ∧ F e < 4 * n := fun e he => by
    have h := I.lt e he
    exact ⟨mate_block (hW _ (by omega)), h⟩
  refine ⟨fun e he => ?_, fun e g he hg h => ?_⟩
  · obtain ⟨a, b⟩ := blk e he
    unfold nextE
    omega
  · obtain ⟨a, b⟩ := blk e he
    obtain ⟨c, d⟩ := blk g hg
    unfold nextE at h
    have q : F e / 4 = F g / 4 := by rw [← a, ← c, h]
    rw [q] at h
    have h2 : (F e ^^^ (W (F g / 4) + 1)) ^^^ (W (F g / 4) + 1) = (F g ^^^ (W (F g / 4) + 1)) ^^^ (W (F g / 4) + 1) := by rw [h]
    rw [mate_mate, mate_mate] at h2
    rw [← I.inv e he, ← I.inv g hg, h2]
/-- the far of what comes next goes on to the far -/
theorem next_far (I : Inv2 F n) (hW : ∀ c, c < n → W c < 3) {e : Nat} (he : e < 4 * n) : nextE F W (F (nextE F W e)) = F e := by
  have h := I.lt e he
  have blk : (F e ^^^ (W (F e / 4) + 1)) / 4 = F e / 4 := mate_block (hW _ (by omega))
  have l1 : nextE F W e < 4 * n := (next_goes I hW).lt e he
  have : F (F (nextE F W e)) = nextE F W e := I.inv _ l1
  show F (F (nextE F W e)) ^^^ (W (F (F (nextE F W e)) / 4) + 1) = F e
  rw [this]
  show (F e ^^^ (W (F e / 4) + 1)) ^^^ (W ((F e ^^^ (W (F e / 4) + 1)) / 4) + 1) = F e
  rw [blk, mate_mate]
theorem iter_far (I : Inv2 F n) (hW : ∀ c, c < n → W c < 3) {s : Nat} (hs : s < 4 * n) : ∀ i, iter (nextE F W) i (F (iter (nextE F W) i s)) = F s
  | 0 => rfl
  | i + 1 => by
    have G := next_goes I hW
    rw [show i + 1 = i + 1 from rfl, iter_add (nextE F W) i 1]
    show iter (nextE F W) i (nextE F W (F (nextE F W (iter (nextE F W) i s)))) = F s
    rw [next_far I hW (G.iter_lt hs i)]
    exact iter_far I hW hs i
/-- no end of a round has its line gone the other way, too -/
theorem no_far (I : Inv2 F n) (hW : ∀ c, c < n → W c < 3) {s : Nat} (hs : s < 4 * n) (i : Nat) : iter (nextE F W) i s ≠ F s := by
  have G := next_goes I hW
  intro h
  have split : ∃ j, i = 2 * j ∨ i = 2 * j + 1 := ⟨i / 2, by omega⟩
  obtain ⟨j, rfl | rfl⟩ := split
  · -- x, the j-th, is its own far
    have e := iter_far I hW hs j
    have l := G.iter_lt hs j
    rw [show 2 * j = j + j by omega, iter_add] at h
    have : iter (nextE F W) j s = F (iter (nextE F W) j s) := G.iter_inj l (I.lt _ l) j (h.trans e.symm)
    exact I.ne _ l this.symm
  · -- the mate of one is itself
    have e := iter_far I hW hs (j + 1)
    have l := G.iter_lt hs j
    have l1 := G.iter_lt hs (j + 1)
    have h' : iter (nextE F W) (2 * j + 1) s = iter (nextE F W) (j + 1) (F (iter (nextE F W) (j + 1) s)) := h.trans e.symm
    rw [show 2 * j + 1 = (j + 1) + j by omega, iter_add] at h'
    have q : iter (nextE F W) j s = F (iter (nextE F W) (j + 1) s) := G.iter_inj l (I.lt _ l1) (j + 1) h'
    have q2 : F (iter (nextE F W) j s) = iter (nextE F W) (j + 1) s := by rw [q, I.inv _ l1]
    have : nextE F W (iter (nextE F W) j s) = F (iter (nextE F W) j s) := q2.symm
    unfold nextE at this
    exact mate_ne _ _ this
/-- the far ends of a round's ends are the ends of a round -/
theorem far_round (I : Inv2 F n) (hW : ∀ c, c < n → W c < 3) {s k : Nat} (hs : s < 4 * n) (a : Per (nextE F W) s k) : Per (nextE F W) (F s) k ∧ ∀ z, z ∈ rnd (nextE F W) (F s) k ↔ ∃ x ∈ rnd (nextE F W) s k, F x = z := by
  have G := next_goes I hW
  have hF := I.lt s hs
  have key : ∀ i, i ≤ k → iter (nextE F W) i (F s) = F (iter (nextE F W) (k - i) s) := fun i hi => by
    have e := iter_far I hW (G.iter_lt hs (k - i)) i
    rw [← iter_add, show i + (k - i) = k by omega, a.back] at e
    exact e
  have P : Per (nextE F W) (F s) k := by
    refine ⟨a.pos, ?_, fun i h0 h1 e => ?_⟩
    · rw [key k (Nat.le_refl _), Nat.sub_self]
      rfl
    · rw [key i (by omega)] at e
      have : F (F (iter (nextE F W) (k - i) s)) = F (F s) := by rw [e]
      rw [I.inv _ (G.iter_lt hs _), I.inv _ hs] at this
      exact a.first (k - i) (by omega) (by omega) this
  refine ⟨P, fun z => ⟨fun h => ?_, fun ⟨x, hx, e⟩ => ?_⟩⟩
  · obtain ⟨i, hi, rfl⟩ := mem_rnd.mp h
    exact ⟨_, a.mod (k - i), (key i (by omega)).symm⟩
  · obtain ⟨i, hi, rfl⟩ := mem_rnd.mp hx
    subst e
    by_cases h0 : i = 0
    · subst h0
      exact mem_rnd.mpr ⟨0, a.pos, rfl⟩
    · have := key (k - i) (by omega)
      rw [show k - (k - i) = i by omega] at this
      rw [← this]
      exact P.mod _
/-- the rounds: each begun at the least end of its lines, rising, each line in just one -/
structure Rounds (F W : Nat → Nat) (n : Nat) (rs : List (Nat × Nat)) : Prop where
  per : ∀ p ∈ rs, p.1 < 4 * n ∧ Per (nextE F W) p.1 p.2
  least : ∀ p ∈ rs, ∀ x ∈ rnd (nextE F W) p.1 p.2, p.1 ≤ x ∧ p.1 ≤ F x
  up : rs.Pairwise fun p q => p.1 < q.1
  all : ∀ e, e < 4 * n → ∃ p ∈ rs, e ∈ rnd (nextE F W) p.1 p.2 ∨ F e ∈ rnd (nextE F W) p.1 p.2
  one : rs.Pairwise fun p q => ∀ x, x ∈ rnd (nextE F W) p.1 p.2 → x ∉ rnd (nextE F W) q.1 q.2 ∧ F x ∉ rnd (nextE F W) q.1 q.2
end
end One
end P_M19

section P_M20
set_option linter.all false
/-! Rounds, told one behind another. -/
namespace One
section
variable {F W : Nat → Nat} {n : Nat}
def Gone (F W : Nat → Nat) (rs : List (Nat × Nat)) (e : Nat) : Prop := ∃ p ∈ rs, e ∈ rnd (nextE F W) p.1 p.2 ∨ F e ∈ rnd (nextE F W) p.1 p.2
/-- the rounds that have lines of the first i ends -/
structure RTo (F W : Nat → Nat) (n i : Nat) (rs : List (Nat × Nat)) : Prop where
  per : ∀ p ∈ rs, p.1 < 4 * n ∧ Per (nextE F W) p.1 p.2
  low : ∀ p ∈ rs, p.1 < i
  least : ∀ p ∈ rs, ∀ x ∈ rnd (nextE F W) p.1 p.2, p.1 ≤ x ∧ p.1 ≤ F x
  up : rs.Pairwise fun p q => p.1 < q.1
  all : ∀ e, e < i → Gone F W rs e
  one : rs.Pairwise fun p q => ∀ x, x ∈ rnd (nextE F W) p.1 p.2 → x ∉ rnd (nextE F W) q.1 q.2 ∧ F x ∉ rnd (nextE F W) q.1 q.2
theorem rto_nil : RTo F W n 0 [] := ⟨fun p h => absurd h (by simp), fun p h => absurd h (by simp), fun p h => absurd h (by simp), .nil, fun e h => absurd h (by omega), .nil⟩
theorem rnd_lt (I : Inv2 F n) (hW : ∀ c, c < n → W c < 3) {s k x : Nat} (hs : s < 4 * n) (h : x ∈ rnd (nextE F W) s k) : x < 4 * n := by
  obtain ⟨i, _, rfl⟩ := mem_rnd.mp h
  exact (next_goes I hW).iter_lt hs i
theorem self_rnd {f : Nat → Nat} {s k : Nat} (a : Per f s k) : s ∈ rnd f s k := mem_rnd.mpr ⟨0, a.pos, rfl⟩
theorem gone_far (I : Inv2 F n) {rs : List (Nat × Nat)} {e : Nat} (he : e < 4 * n) : Gone F W rs (F e) ↔ Gone F W rs e := by
  have h := I.inv e he
  constructor
  · rintro ⟨p, hp, a | a⟩
    · exact ⟨p, hp, .inr a⟩
    · rw [h] at a
      exact ⟨p, hp, .inl a⟩
  · rintro ⟨p, hp, a | a⟩
    · exact ⟨p, hp, .inr (by rw [h]; exact a)⟩
    · exact ⟨p, hp, .inl a⟩
theorem gone_back (I : Inv2 F n) (hW : ∀ c, c < n → W c < 3) {rs : List (Nat × Nat)} (per : ∀ p ∈ rs, p.1 < 4 * n ∧ Per (nextE F W) p.1 p.2) {s k x : Nat} (hs : s < 4 * n) (a : Per (nextE F W) s k) (hx : x ∈ rnd (nextE F W) s k) (g : Gone F W rs x) : Gone F W rs s := by
  have G := next_goes I hW
  obtain ⟨p, hp, h | h⟩ := g
  · obtain ⟨pl, pp⟩ := per p hp
    exact ⟨p, hp, .inl (Per.same G hs pl a pp hx h s (self_rnd a))⟩
  · obtain ⟨pl, pp⟩ := per p hp
    obtain ⟨b, hb⟩ := far_round I hW hs a
    exact ⟨p, hp, .inr (Per.same G (I.lt s hs) pl b pp ((hb _).mpr ⟨x, hx, rfl⟩) h _ (self_rnd b))⟩
theorem RTo.skip {i : Nat} {rs : List (Nat × Nat)} (R : RTo F W n i rs) (g : Gone F W rs i) : RTo F W n (i + 1) rs :=
  ⟨R.per, fun p h => Nat.lt_succ_of_lt (R.low p h), R.least, R.up, fun e h => by
    by_cases q : e = i
    · rw [q]; exact g
    · exact R.all e (by omega), R.one⟩
theorem RTo.more (I : Inv2 F n) (hW : ∀ c, c < n → W c < 3) {i k : Nat} {rs : List (Nat × Nat)} (R : RTo F W n i rs) (hi : i < 4 * n) (g : ¬ Gone F W rs i) (a : Per (nextE F W) i k) : RTo F W n (i + 1) (rs ++ [(i, k)]) := by
  refine ⟨fun p hp => ?_, fun p hp => ?_, fun p hp x hx => ?_, ?_, fun e he => ?_, ?_⟩
  · rcases List.mem_append.mp hp with h | h
    · exact R.per p h
    · rw [List.mem_singleton.mp h]
      exact ⟨hi, a⟩
  · rcases List.mem_append.mp hp with h | h
    · exact Nat.lt_succ_of_lt (R.low p h)
    · rw [List.mem_singleton.mp h]
      exact Nat.lt_succ_self i
  · rcases List.mem_append.mp hp with h | h
    · exact R.least p h x hx
    · rw [List.mem_singleton.mp h] at hx ⊢
      have xl := rnd_lt I hW hi hx
      refine ⟨Nat.le_of_not_lt fun z => g (gone_back I hW R.per hi a hx (R.all x z)), Nat.le_of_not_lt fun z => g (gone_back I hW R.per hi a hx ((gone_far I xl).mp (R.all (F x) z)))⟩
  · refine List.pairwise_append.mpr ⟨R.up, List.pairwise_singleton _ _, fun p hp q hq => ?_⟩
    rw [List.mem_singleton.mp hq]
    exact R.low p hp
  · by_cases q : e = i
    · rw [q]
      exact ⟨(i, k), List.mem_append_right _ (List.mem_singleton.mpr rfl), .inl (self_rnd a)⟩
    · obtain ⟨p, hp, h⟩ := R.all e (by omega)
      exact ⟨p, List.mem_append_left _ hp, h⟩
  · refine List.pairwise_append.mpr ⟨R.one, List.pairwise_singleton _ _, fun p hp q hq x hx => ?_⟩
    rw [List.mem_singleton.mp hq]
    obtain ⟨pl, pp⟩ := R.per p hp
    have xl := rnd_lt I hW pl hx
    refine ⟨fun h => g (gone_back I hW R.per hi a h ⟨p, hp, .inl hx⟩), fun h => g (gone_back I hW R.per hi a h ⟨p, hp, .inr ?_⟩)⟩
    rw [I.inv x xl]
    exact hx
theorem RTo.done {rs : List (Nat × Nat)} (R : RTo F W n (4 * n) rs) : Rounds F W n rs := ⟨R.per, R.least, R.up, R.all, R.one⟩
theorem Rounds.first (I : Inv2 F n) (hW : ∀ c, c < n → W c < 3) {rs : List (Nat × Nat)} (R : Rounds F W n rs) {s k : Nat} (hs : s < 4 * n) (a : Per (nextE F W) s k) : (s, k) ∈ rs ↔ ∀ x ∈ rnd (nextE F W) s k, s ≤ x ∧ s ≤ F x := by
  have G := next_goes I hW
  refine ⟨fun h => R.least _ h, fun h => ?_⟩
  obtain ⟨p, hp, q | q⟩ := R.all s hs
  all_goals obtain ⟨pl, pp⟩ := R.per p hp
  · have e1 := (R.least p hp s q).1
    have e2 := (h p.1 (Per.same G pl hs pp a q (self_rnd a) _ (self_rnd pp))).1
    obtain ⟨p1, p2⟩ := p
    have : p1 = s := Nat.le_antisymm e1 e2
    subst this
    have : p2 = k := Per.one pp a
    subst this
    exact hp
  · obtain ⟨b, hb⟩ := far_round I hW hs a
    have e1 := (R.least p hp (F s) q).2
    rw [I.inv s hs] at e1
    obtain ⟨x, hx, e⟩ := (hb _).mp (Per.same G pl (I.lt s hs) pp b q (self_rnd b) _ (self_rnd pp))
    have e2 := (h x hx).2
    rw [e] at e2
    obtain ⟨p1, p2⟩ := p
    have : p1 = s := Nat.le_antisymm e1 e2
    subst this
    have : p2 = k := Per.one pp a
    subst this
    exact hp
/-- there is just one telling -/
theorem Rounds.eq (I : Inv2 F n) (hW : ∀ c, c < n → W c < 3) {rs qs : List (Nat × Nat)} (R : Rounds F W n rs) (S : Rounds F W n qs) : rs = qs := by
  refine sorted_ext (lt := fun p q : Nat × Nat => p.1 < q.1) (fun a => Nat.lt_irrefl _) (fun a b c => Nat.lt_trans) R.up S.up fun p => ⟨fun h => ?_, fun h => ?_⟩
  · obtain ⟨pl, pp⟩ := R.per p h
    exact (S.first I hW pl pp).mpr ((R.first I hW pl pp).mp h)
  · obtain ⟨pl, pp⟩ := S.per p h
    exact (R.first I hW pl pp).mpr ((S.first I hW pl pp).mp h)
end
end One
end P_M20

section P_G1
set_option linter.all false
set_option maxRecDepth 100000
set_option maxHeartbeats 4000000
namespace One
open PySem PySem.Spec PyProof.Rows L2
/-! ### promises for runs in which nothing is being shown -/
structure FnG (P : Program) (w : World) (K : PySem.W.Frag) (mg : Str → Option Value) (base : Heap) (CX : CXT) (k : Nat) (f : Addr) (fd : FuncData) (ps : List Str) (sp : Sp) : Prop where
  len : ∀ vs H Q E, sp vs H Q E → vs.length = ps.length
  go : ∀ (A : Around) (outer : List Env) (s : Shared) (H : Hp) (args : Args) (us : List Value) (vs : List V) (Q : VK) (E : XK), A.guards = some [] → Room k A → Env0 P w K mg base A outer s H →
    BindsTo s fd args (ps.zip us) → Vals vs us → sp vs H Q E → codeAny (model P w) A (.call (.ref f) args) (CR CX outer P w H s Q E) s
theorem FnG.of {P : Program} {w : World} {K : PySem.W.Frag} {mg : Str → Option Value} {base : Heap} {CX : CXT} {k : Nat} {f : Addr} {fd : FuncData} {ps : List Str} {sp : Sp} (F : FnOk P w K mg base CX k f fd ps sp) : FnG P w K mg base CX k f fd ps sp :=
  ⟨F.len, fun A outer s H args us vs Q E _ => F.run A outer s H args us vs Q E⟩
theorem FnG.mono {P : Program} {w : World} {K : PySem.W.Frag} {mg : Str → Option Value} {base : Heap} {CX : CXT} {j k : Nat} {f : Addr} {fd : FuncData} {ps : List Str} {sp : Sp} (F : FnG P w K mg base CX j f fd ps sp) (h : j ≤ k) : FnG P w K mg base CX k f fd ps sp :=
  ⟨F.len, fun A outer s H args us vs Q E hg hr => F.go A outer s H args us vs Q E hg (hr.mono h)⟩
section
variable {P : Program} {w : World} {K : PySem.W.Frag} {mg : Str → Option Value} {base : Heap}
/-- a def by its body -/
theorem okG {CX : CXT} {x qual : Str} {st : Stmt} {f : Addr} {fd : FuncData} {N ps : List Str} {k : Nat} {sp : Sp} (F : Fun K x qual st f fd) (S : FnScope N ps (defScope st)) (len : ∀ vs H Q E, sp vs H Q E → vs.length = ps.length)
    (body : ∀ (cdv : Value) (A : Around) (outer : List Env) (s : Shared) (H : Hp) (vs : List V) (Q : VK) (E : XK), A.guards = some [] → Room k (A.deeper (envOfC qual (defScope st) s.heap.objs.size f cdv)) → sp vs H Q E →
      ∃ t, PSs (cxOf CX P w K mg base N qual (defScope st) f cdv A outer s H E) (defBody st) t ∧ t { nx := fun _ H' => Q .non H', rt := Q } (start N vs) H) : FnG P w K mg base CX (k + 1) f fd ps sp := by
  obtain ⟨oc, od, kV, doc, pm, an, cdv, ct, osl, rfl, lk, hcd⟩ := F.ex
  exact ⟨len, fun A outer s H args us vs Q E hg hr e0 hb r hs => LamX.run_ofS lk hcd S hr e0 hb r (len _ _ _ _ hs) fun hr1 => body cdv A outer s H vs Q E hg hr1 hs⟩
/-- .. that lets nothing out -/
theorem okG0 {x qual : Str} {st : Stmt} {f : Addr} {fd : FuncData} {N ps : List Str} {k : Nat} {sp : Sp} (F : Fun K x qual st f fd) (S : FnScope N ps (defScope st)) (len : ∀ vs H Q E, sp vs H Q E → vs.length = ps.length)
    (body : ∀ (cdv : Value) (A : Around) (outer : List Env) (s : Shared) (H : Hp) (vs : List V) (Q : VK) (E : XK), A.guards = some [] → Room k (A.deeper (envOfC qual (defScope st) s.heap.objs.size f cdv)) → sp vs H Q E →
      ∃ t, PSs (cxOf CX0 P w K mg base N qual (defScope st) f cdv A outer s H E).nox (defBody st) t ∧ t { nx := fun _ H' => Q .non H', rt := Q } (start N vs) H) : FnG P w K mg base CX0 (k + 1) f fd ps sp :=
  okG F S len fun cdv A outer s H vs Q E hg hr hs => let ⟨t, h, q⟩ := body cdv A outer s H vs Q E hg hr hs; ⟨t, h.nox, q⟩
end
section
variable {X : Cx} {CX : CXT} {k : Nat} {f : Addr} {fd : FuncData} {ps : List Str} {sp : Sp} {dvs : List V} {ds : List Value} {E : XK} {x : Str} {p pos : Pos} {e : Expr} {es : List Expr} {t : TA}
theorem goG {pins : List (Addr × Obj)} {σ : L2.St} {H : Hp} {s : Shared} {Q : VK} {us : List Value} {vs : List V} (F : FnG X.prog X.w X.K X.mg X.base CX k f fd ps sp) (hgd : X.A.guards = some []) (hr : Room k X.A) (hb : Binds X.K fd ps ds) (hd : Vals dvs ds)
    (hx : Passes CX X E) (I : Inv X pins σ H s) (r : Vals vs us) (h : sp (vs ++ dvs) H Q E) : wpAny (model X.prog X.w) X.A (call (.ref f) us) (EP X pins σ Q) X.xe s := by
  have r2 := r.append hd
  have hl : (us ++ ds).length = ps.length := r2.length.symm.trans (F.len _ _ _ _ h)
  refine wpAny_call (codeAny_mono (F.go X.A X.stack s H ⟨us, []⟩ _ _ Q E hgd hr I.env0 (hb s us I.kIn hl) r2 h) fun r s' hq => ?_)
  match r, hq with
  | .error e, hq => exact hx pins σ H s e s' I hq
  | .ok (.ret u), hq => exact I.after hq
  | .ok .next, hq => exact hq.elim
  | .ok .brk, hq => exact hq.elim
  | .ok .cont, hq => exact hq.elim
theorem pe_callG (F : FnG X.prog X.w X.K X.mg X.base CX k f fd ps sp) (hgd : X.A.guards = some []) (hr : Room k X.A) (hg : Gl X x) (hm : X.mg x = some (.ref f)) (hk : PySem.W.keepIn X.K (.ref f) = true) (hb : Binds X.K fd ps ds) (hd : Vals dvs ds) (hx : Passes CX X E)
    (ha : PA X (e :: es) t) (hdb : (x == ("__debug__" : Str)) = false := by decide) (he : starEach (e :: es) X.env = (false, eval e X.env) :: starEach es X.env := by rfl) (hpl : (backTo pos (starEach es X.env)).any (·.1) = false := by rfl) : PE X (.Call (.Name x p) (e :: es) [] pos) (tCall sp dvs E t) := by
  refine ⟨fun pins s σ H Q I h => wpAny_Call_Name_kw (ld_glob I hg hm ?_ hdb)⟩
  exact PySem.W.callWith_K (h₀ := X.base) I.ok.mod.kin hk (thn (ha.run pos pins s σ H _ I h) fun us s1 ⟨vs, H1, I1, r, q⟩ => ⟨I1.kIn, goG F hgd hr hb hd hx I1 r q⟩) he hpl
/-- repr(..) of a list or a tuple, at any depth -/
theorem call_repr_data (hgd : X.A.guards = some []) (hu : X.A.units + 64 < cLine) : CallR X (.builtin "repr") (fun xs H Q => ∃ (a : Addr) (d : PyData), xs = [.ref a] ∧ Dp X.K H (.ref a) d ∧ d.showable = true ∧ d.hasDict = false ∧ d.depth ≤ 16 ∧ d.shown.length ≤ sizeLine ∧ Q (.str d.shown) H) := by
  intro pins s σ H xs us Q I r h
  obtain ⟨a, d, rfl, hd, h1, h2, h3, h4, q⟩ := h
  obtain ⟨u, rfl, e⟩ := vals1 r
  cases e
  obtain ⟨as, hR⟩ := Dp.reads I d _ _ hd rfl
  exact repr_of_reads' hR h1 (fun z => Bool.noConfusion (h2.symm.trans z)) hgd (by omega) (fun _ _ e => e) (fun h' u tk hk => ⟨.str d.shown, H, I.kept hk, ⟨_, rfl⟩, q⟩) h4
end
end One
end P_G1

section P_G2
set_option linter.all false
set_option maxRecDepth 100000
set_option maxHeartbeats 4000000
namespace One
open PySem PySem.Spec PyProof.Rows L2
/-! ### a tuple of pairs, as data -/
def prD (p : Nat × Nat) : PyData := .tuple [.int (p.1 : Nat), .int (p.2 : Nat)]
def yd (ps : List (Nat × Nat)) : PyData := .tuple (ps.map prD)
theorem dp_pair {K : PySem.W.Frag} {H : Hp} {a : Addr} {p : Nat × Nat} (h : PAt H a p) : Dp K H (.ref a) (prD p) := .tup (SqT.of h) (.cons (.int _) (.cons (.int _) .nil))
theorem dp_pairs {K : PySem.W.Frag} {H : Hp} {as : List Addr} {ps : List (Nat × Nat)} (h : PL H as ps) : DpAll K H (refs as) (ps.map prD) := by
  induction h with
  | nil => exact .nil
  | cons h1 _ ih => exact .cons (dp_pair h1) ih
theorem dp_yd {K : PySem.W.Frag} {H : Hp} {t : Addr} {as : List Addr} {ps : List (Nat × Nat)} (ht : H t = some (.tup (refs as))) (h : PL H as ps) : Dp K H (.ref t) (yd ps) := .tup (SqT.of ht) (dp_pairs h)
theorem int_short : ∀ n : Nat, n < 1000 → (PyData.shown (.int (n : Nat))).length ≤ 8 := by
  have h : ∀ n : Fin 1000, (PyData.shown (.int ((n : Nat) : Int))).length ≤ 8 := by decide +kernel
  exact fun n hn => h ⟨n, hn⟩
theorem log_small {n : Nat} (h : n < 1000) : n.log2 < 1920 := by
  by_cases h0 : n = 0
  · subst h0; decide
  · exact (Nat.log2_lt h0).mpr (Nat.lt_of_lt_of_le h (Nat.le_trans (by decide : 1000 ≤ 2 ^ 10) (Nat.pow_le_pow_right (by decide) (by decide))))
theorem yd_all : ∀ ps : List (Nat × Nat), (∀ p ∈ ps, p.1 < 1000 ∧ p.2 < 1000) → PyData.showableAll (ps.map prD) = true ∧ PyData.hasDictAll (ps.map prD) = false ∧ PyData.depthAll (ps.map prD) ≤ 1 ∧ PyData.leavesShortAll 8 (ps.map prD) = true ∧ PyData.bulkAll (ps.map prD) = 3 * ps.length
  | [], _ => ⟨rfl, rfl, Nat.zero_le _, rfl, rfl⟩
  | p :: r, h => by
    obtain ⟨h1, h2, h3, h4, h5⟩ := yd_all r fun q m => h q (List.mem_cons_of_mem _ m)
    obtain ⟨q1, q2⟩ := h p (List.mem_cons_self ..)
    have a1 : PyData.showable (prD p) = true := by
      show (decide (((p.1 : Nat) : Int).natAbs.log2 < 1920) && (decide (((p.2 : Nat) : Int).natAbs.log2 < 1920) && true)) = true
      simp only [Int.natAbs_natCast, Bool.and_eq_true, decide_eq_true_eq, and_true]
      exact ⟨log_small q1, log_small q2⟩
    have a4 : PyData.leavesShort 8 (prD p) = true := by
      show (decide (_ ≤ 8) && (decide (_ ≤ 8) && true)) = true
      simp only [Bool.and_eq_true, decide_eq_true_eq, and_true]
      exact ⟨int_short _ q1, int_short _ q2⟩
    refine ⟨?_, ?_, ?_, ?_, ?_⟩
    · show (PyData.showable (prD p) && PyData.showableAll _) = true
      rw [a1, h1]; rfl
    · show (PyData.hasDict (prD p) || PyData.hasDictAll _) = false
      rw [h2]; rfl
    · show max (PyData.depth (prD p)) (PyData.depthAll _) ≤ 1
      exact Nat.max_le.mpr ⟨Nat.le_refl 1, h3⟩
    · show (PyData.leavesShort 8 (prD p) && PyData.leavesShortAll 8 _) = true
      rw [a4, h4]; rfl
    · show PyData.bulk (prD p) + 1 + PyData.bulkAll _ = _
      rw [h5]
      show 0 + 1 + (0 + 1 + 0) + 1 + 3 * r.length = 3 * (r.length + 1)
      omega
theorem yd_fine {ps : List (Nat × Nat)} (h : ∀ p ∈ ps, p.1 < 1000 ∧ p.2 < 1000) (hl : ps.length ≤ 1000) : (yd ps).showable = true ∧ (yd ps).hasDict = false ∧ (yd ps).depth ≤ 16 ∧ (yd ps).shown.length ≤ sizeLine := by
  obtain ⟨h1, h2, h3, h4, h5⟩ := yd_all ps h
  refine ⟨h1, h2, ?_, ?_⟩
  · show PyData.depthAll _ + 1 ≤ 16
    omega
  · have q := PyData.shown_le_bulk 8 (Nat.le_refl _) (yd ps) h4
    have e : (yd ps).bulk = 3 * ps.length := h5
    rw [e] at q
    have : (40000 : Nat) ≤ sizeLine := by decide
    omega
def rRepr (K : PySem.W.Frag) : List V → Hp → VK → Prop := fun xs H Q => ∃ (a : Addr) (d : PyData), xs = [.ref a] ∧ Dp K H (.ref a) d ∧ d.showable = true ∧ d.hasDict = false ∧ d.depth ≤ 16 ∧ d.shown.length ≤ sizeLine ∧ Q (.str d.shown) H
/-- repr(..) of a tuple of pairs -/
theorem repr_yd {K : PySem.W.Frag} {H : Hp} {t : Addr} {as : List Addr} {ps : List (Nat × Nat)} {Q : VK} (ht : H t = some (.tup (refs as))) (hp : PL H as ps) (h : ∀ p ∈ ps, p.1 < 1000 ∧ p.2 < 1000) (hl : ps.length ≤ 1000) (q : Q (.str (yd ps).shown) H) : rRepr K [.ref t] H Q := by
  obtain ⟨h1, h2, h3, h4⟩ := yd_fine h hl
  exact ⟨t, _, rfl, dp_yd ht hp, h1, h2, h3, h4, q⟩
theorem cr_repr {X : Cx} (hgd : X.A.guards = some []) (hu : X.A.units + 64 < cLine) : CallR X (.builtin "repr") (rRepr X.K) := call_repr_data hgd hu
end One
end P_G2

section P_X1
set_option linter.all false
set_option maxRecDepth 100000
set_option maxHeartbeats 4000000
/-! An own exception, some way below ValueError, whose __init__ says super().__init__(f'..{f}'); self.f = f -/
namespace One
open PySem PySem.W PySem.Calls PyProof.Rows PySem.HandSPX L2
def xA (fld : Str) (p1 p2 : Pos) : Arguments := { posonlyargs := [], args := [{ arg := "self", annotation := none, pos := p1 }, { arg := fld, annotation := none, pos := p2 }], vararg := none, kwonlyargs := [], kw_defaults := [], kwarg := none, defaults := [] }
abbrev xJ (pre fld : Str) (a3 a4 a5 a6 : Pos) : Expr := .JoinedStr [.Constant (.str pre) 0 a3, .FormattedValue (.Name fld a4) (-1) none a5] a6
abbrev xO (a0 a1 : Pos) : Expr := .Call (.Name "super" a0) [] [] a1
abbrev xB (pre fld : Str) (a0 a1 a2 a3 a4 a5 a6 a7 a8 a9 b0 b1 b2 : Pos) : List Stmt := [.Expr (.Call (.Attribute (xO a0 a1) "__init__" a2) [xJ pre fld a3 a4 a5 a6] [] a7) a8, .Assign [.Attribute (.Name "self" a9) fld b0] (.Name fld b1) b2]
def xS (fld : Str) : Scope := { kind := .function, names := [(PySem.Str.ofString "self", .local), (fld, .local), (PySem.Str.ofString "__class__", .free), (PySem.Str.ofString "super", .globalImplicit)], isGenerator := false, isCoroutine := false, more := [] }

def FldOk (fld : Str) : Prop := fld = "place" ∨ fld = "way" ∨ fld = "many"
/-- the value may be shown in an f-string: some text of bounded length, the heap unchanged -/
def FmtOk (P : Program) (w : World) (h : Heap) (v : Value) : Prop := ∀ (A : Around) (E : Value → Shared → Prop) (s : Shared) (Q : Value → Shared → Prop), A.units + 64 < cLine → (∀ b o, h.get? b = some o → s.heap.get? b = some o) →
  (∀ (m : Str) (u tk : Tok), m.length ≤ 100000 → Q (.str m u) { s with toks := tk }) → wpAny (model P w) A (formatField v Str.empty) Q E s
theorem FmtOk.keeps {P : Program} {w : World} {h h' : Heap} {v : Value} (f : FmtOk P w h v) (k : ∀ b o, h.get? b = some o → h'.get? b = some o) : FmtOk P w h' v := fun A E s Q hu hk q => f A E s Q hu (fun b o e => hk b o (k b o e)) q
/-- the form of such an __init__ -/
def Shape (st : Stmt) (fld : Str) : Prop := ∃ (p1 p2 : Pos) (pre : Str) (a0 a1 a2 a3 a4 a5 a6 a7 a8 a9 b0 b1 b2 : Pos), defArgs st = xA fld p1 p2 ∧ defBody st = xB pre fld a0 a1 a2 a3 a4 a5 a6 a7 a8 a9 b0 b1 b2 ∧ defScope st = xS fld ∧ pre.length ≤ 1000 ∧
  ∀ env, eval (.Call (.Attribute (xO a0 a1) "__init__" a2) [xJ pre fld a3 a4 a5 a6] [] a7) env = (do
    let ov ← attributeBase (xO a0 a1) "__init__" env (eval (xO a0 a1) env)
    standAt a2.atName
    let (f, first) ← holding [ov] (getMethod ov "__init__" (do return (← importBound (xO a0 a1) env).getD true))
    callWith a7 f first (backTo a7 (starEach [xJ pre fld a3 a4 a5 a6] env)) [])
/-- what the written part says of such a class, at C, and of its __init__, at fI -/
structure OwnTxt (P : Program) (K : Frag) (st : Stmt) (fld : Str) (C fI : Addr) : Prop where
  cls : ∃ nm q N bs bm sn sub ab col dd k0 k1 k2 k3 k5, K.lookup C = some (excClassObj nm q C N bs bm true sn sub ab col dd k0 k1 k2 k3 k5 "ValueError.__new__") ∧ refsVE bm = true ∧ alongIn K "__init__" (((Value.ref C :: bm).dropWhile (· != .ref C)).drop 1) = some (some (.builtin "ValueError.__init__"))
  sa : findIn K (.ref C) "__setattr__" = some (some (.builtin "object.__setattr__"))
  noF : findIn K (.ref C) fld = some none
  veB : subIn K (.ref C) (.type "ValueError") = some true
  self : mroIn K C (.ref C) = some true
  op : nsIn K cStatics "thirdparty.any" = some none
  top : (P.main.scope.names.lookup ("super" : Str)).isSome = false
  shape : Shape st fld
  fn : ∃ (oc : Value) (od : Option Addr) (qual : Str) (doc pm : Value) (an : Option Addr) (cda cc : Addr) (ct : Value) (osl : Array (Option Value)) (ccl cl : Value) (cdd cld : Option Addr) (vs : Array Value) (ccs csl : Array (Option Value)) (file : Str) (tf : Tok),
    K.lookup fI = some ⟨oc, od, .func (ksFn "__init__" qual (defArgs st) (defBody st) (defScope st) .none .none doc pm an (.ref cda) ct cc), osl⟩ ∧ codeIn K (.ref cda) qual = true ∧ K.lookup cda = some ⟨ccl, cdd, .fields vs, ccs⟩ ∧ vs[2]? = some (.str file tf) ∧
    ((P.main.file : Str) == file) = true ∧ K.lookup cc = some ⟨cl, cld, .cell (some (.ref C)), csl⟩
theorem ns_but {h h' : Heap} {a : Addr} {m : Str → Option Value} (hn : h.Ns a m) (k : ∀ o, h.get? a = some o → h'.get? a = some o) : h'.Ns a m := by
  obtain ⟨o, es, ep, e, r⟩ := hn
  exact ⟨o, es, ep, k o e, r⟩
theorem kept_but0 {K : Frag} {h h' : Heap} {x : Addr} (X : K.In h) (hx : ∀ o, K.lookup x = some o → False) (k : ∀ b o, b ≠ x → h.get? b = some o → h'.get? b = some o) : K.In h' := fun a o e => k a o (fun z => hx o (z ▸ e)) (X a o e)
section
variable {P : Program} {w : World} {A : Around} {E : Value → Shared → Prop} {R : Result → Shared → Prop} {s : Shared} {K : Frag} {mg mb : Str → Option Value} {C fI : Addr} {fld : Str} {st : Stmt}
theorem x_init (hf : FldOk fld) (T : OwnTxt P K st fld C fI) {x t0 : Addr} {v : Value} (X : K.In s.heap) (hlim : s.heap.NoLimit) (hg : s.heap.Ns mainGlobals mg) (noS : mg "super" = none) (hb : s.heap.Ns builtinsNs mb) (hbb : ∀ y : Str, y ≠ "__name__" → mb y = bootBuiltins y)
    (hx : s.heap.get? x = some (excO C t0)) (hnx : K.lookup x = none) (hroom : A.depth < recursionLimit) (hu : A.units + 100 < cLine) (hv : FmtOk P w s.heap v)
    (hq : ∀ h' tk dx, (∀ b o, b ≠ x → s.heap.get? b = some o → h'.get? b = some o) → (∃ t1 : Addr, h'.get? x = some { cls := .ref C, dict := some dx, data := .fields #[.ref t1, .none, .none, .none, .bool false, .none] }) → s.heap.objs.size ≤ dx → dx ≠ x → h'.Ns1 dx (fun y => if y = fld then some v else none) → R (.ok (.ret .none)) { s with heap := h', toks := tk }) :
    codeAny (model P w) A (.call (.ref fI) ⟨[.ref x, v], []⟩) R s := by
  obtain ⟨oc, od, qual, doc, pm, an, cda, cc, ct, osl, ccl, cl, cdd, cld, vs, ccs, csl, file, tf, ho, hcd, hcode, hvs, hfile, hcell⟩ := T.fn
  obtain ⟨p1, p2, pre, a0, a1, a2, a3, a4, a5, a6, a7, a8, a9, b0, b1, b2, eA, eB, eS, hpre, hcall⟩ := T.shape
  rw [eA, eB, eS] at ho
  obtain ⟨nm, qn, N, bs, bm, sn, sub, ab, col, dd, k0, k1, k2, k3, k5, hC, hbm, hal⟩ := T.cls
  have hcl : clsIn K C = some { name := nm, bases := bs, mro := .ref C :: bm, ns := N, qualname := qn, hasDict := true, slotNames := sn, subclasses := sub, abstract := ab, collection := col, hasDel := false } := by unfold clsIn; rw [hC] <;> rfl
  have hxC : x ≠ C := fun z => by
    have e1 := X _ _ hC
    rw [← z, hx] at e1
    cases e1
  refine ks_codeAny_call_defAt (fd := ksFn "__init__" qual (xA fld p1 p2) (xB pre fld a0 a1 a2 a3 a4 a5 a6 a7 a8 a9 b0 b1 b2) (xS fld) .none .none doc pm an (.ref cda) ct cc) (body := xB pre fld a0 a1 a2 a3 a4 a5 a6 a7 a8 a9 b0 b1 b2) (binds := [("self", .ref x), (fld, v)]) hroom (X _ _ ho) rfl hlim (codeRec_of X hcd) rfl
    (by rcases hf with rfl | rfl | rfl <;> exact BindsTo.of_eq (by first | rfl | with_unfolding_all rfl)) (fun y hy => by
      have hy : y ∈ [(PySem.Str.ofString "self", NameKind.local), (fld, .local), (PySem.Str.ofString "__class__", .free), (PySem.Str.ofString "super", .globalImplicit)] := hy
      simp only [List.mem_cons, List.not_mem_nil, or_false] at hy
      rcases hy with rfl | rfl | rfl | rfl <;> exact fun z => nomatch z)
    (fun y hy => by
      simp only [List.mem_cons, List.not_mem_nil, or_false] at hy
      rcases hf with rfl | rfl | rfl <;> rcases hy with rfl | rfl <;> first | rfl | with_unfolding_all rfl | kernel_rfl) (fun h0 hn k => ?_) rfl rfl rfl
  have kS : (xS fld).names.lookup ("super" : Str) = some .globalImplicit := by rcases hf with rfl | rfl | rfl <;> decide +kernel
  have kC : (xS fld).names.lookup ("__class__" : Str) = some .free := by rcases hf with rfl | rfl | rfl <;> decide +kernel
  have kX : (xS fld).names.lookup ("self" : Str) = some .local := by rcases hf with rfl | rfl | rfl <;> decide +kernel
  have kF : (xS fld).names.lookup fld = some .local := by rcases hf with rfl | rfl | rfl <;> decide +kernel
  have mX : ([(PySem.Str.ofString "self", Value.ref x), (fld, v)] : List (Str × Value)).reverse.lookup ("self" : Str) = some (.ref x) := by rcases hf with rfl | rfl | rfl <;> first | rfl | with_unfolding_all rfl | kernel_rfl
  have mF : ([(PySem.Str.ofString "self", Value.ref x), (fld, v)] : List (Str × Value)).reverse.lookup fld = some v := by rcases hf with rfl | rfl | rfl <;> first | rfl | with_unfolding_all rfl | kernel_rfl
  have dF : (fld == ("__debug__" : Str)) = false := by rcases hf with rfl | rfl | rfl <;> decide +kernel
  have hLx : s.heap.objs.size ≠ x := Nat.ne_of_gt (Heap.lt_size hx)
  have X0 : K.In h0 := X.keeps k
  have hC0 := X0 _ _ hC
  obtain ⟨hp, g, d, t, os⟩ := s
  show _root_.PySem.wpAt _ _ (.func (xB pre fld a0 a1 a2 a3 a4 a5 a6 a7 a8 a9 b0 b1 b2) (ksEnv qual (xS fld) hp.objs.size fI (.ref cda) cc)) (execs (xB pre fld a0 a1 a2 a3 a4 a5 a6 a7 a8 a9 b0 b1 b2) (ksEnv qual (xS fld) hp.objs.size fI (.ref cda) cc)) _ _ _
  refine ks_wpAt_execs_cons (ks_wpAt_Expr_any (ks_wpAt_MethodCall (ks_wpAt_super_base (env := ksEnv qual (xS fld) hp.objs.size fI (.ref cda) cc) kS kC rfl rfl (X0 _ _ ho) rfl rfl rfl (X0 _ _ hcode) rfl hvs hfile T.top ?_) (hcall _)))
  refine ks_loadName_global rfl kS (loadGlobal_builtin (env := ksEnv qual (xS fld) hp.objs.size fI (.ref cda) cc) (hg.keeps k) noS (hb.keeps k) ((hbb _ (by decide +kernel)).trans PyProof.Rows.Boot.«super») ⟨rfl, ?_⟩)
  refine wpAny_loadName_free rfl kC rfl ⟨_, X0 _ _ hcell, rfl⟩ ?_
  refine wpAny_loadName_local rfl kX hn mX ?_
  refine ks_wpAny_isType_cls hC0 rfl ⟨rfl, ?_⟩
  refine ks_wpAny_call_super hC0 rfl (k _ _ hx) rfl (fun c e => nomatch e) (looks_mroIn X0 T.self) (fun h1 hso k1 => ?_)
  have X1 := X0.keeps k1
  have hx1 := k1 _ _ (k _ _ hx)
  have hns1 : h1.Ns hp.objs.size _ := ns_but hn fun o e => k1 _ _ e
  have hI : Looks (model P w) h1 (isInstance (.ref x) (.type "ValueError")) true := (PySem.W.InstAt.type (od := none) ⟨hx1, rfl, rfl, trivial⟩).andThen (looks_subIn X1 T.veB)
  refine kxs_getMethod kxs_ValueError hso (looks_opaque X1 T.op) (l₀ := Value.ref C :: bm) (fun A Q E s k q => wpAny_bind ((looks_clsIn X1 hcl) A _ E s k (wpAny_pure q))) rfl X1 hal hI hxC rfl ?_
  have k2 : ∀ b o, h1.get? b = some o → (h1.push (kxs_mw "ValueError.__init__" x)).get? b = some o := fun b o e => Heap.get?_push_of_some _ e
  have hmw : (h1.push (kxs_mw "ValueError.__init__" x)).get? h1.objs.size = some (kxs_mw "ValueError.__init__" x) := Heap.get?_push_at rfl rfl
  refine kxs_callWith (i := "ValueError.__init__") (x := x) rfl (evalArgs_plain (Calls.spliced_cons ?_))
  have hns2 := ns_but hns1 fun o e => k2 _ _ e
  have hul : (A.deeper (ksEnv qual (xS fld) hp.objs.size fI (.ref cda) cc)).units + 64 < cLine := by
    show A.units + 3 + 64 < cLine
    omega
  refine JoinedStr_many (pos := a6) (joinParts_cons (Constant_str ⟨?_, ?_⟩))
  · show (Str.empty ++ pre).length ≤ sizeLine
    rw [strLen_append, sizeLine_eq]
    have : Str.empty.length = 0 := rfl
    omega
  refine joinParts_cons (FormattedValue_plain ?_)
  refine wpAny_Name (wpAny_loadName_local rfl kF hns2 mF ?_) dF
  refine hv _ _ _ _ hul (fun b o e => k2 _ _ (k1 _ _ (k _ _ e))) fun m u tk hm => ?_
  have hlen : (Str.empty ++ pre ++ m).length ≤ sizeLine := by
    rw [strLen_append, strLen_append, sizeLine_eq]
    have : Str.empty.length = 0 := rfl
    omega
  refine ⟨hlen, joinParts_nil ?_ hlen⟩
  refine Calls.spliced_nil ⟨hmw, ?_⟩
  have hx2 : (h1.push (kxs_mw "ValueError.__init__" x)).get? x = some (excO C t0) := k2 _ _ hx1
  refine wpAny_call (codeAny_of_tree ?_)
  show wpAny _ _ (callAny (.ref h1.objs.size) _) _ _ _
  simp only [callAny]
  refine wpAny_bind (wpAny_load hmw ?_); simp only [kxs_mw, show (Value.type "method-wrapper" == Value.type "method" || Value.type "method-wrapper" == Value.type "builtin_function_or_method" || Value.type "method-wrapper" == Value.type "method-wrapper") = true by decide, if_true]
  refine KFB.if_so (by decide) ?_
  refine wpAny_bind (check_bound_init F.excBase_ValueError.toExcCallFacts (k2 _ _ (k1 _ _ hC0)) hx2 rfl ?_)
  refine wpAny_bind (wpAny_pure (wpAny_pure ?_))
  refine ⟨plainId_quiet F.excBase_ValueError.init.plain _, codeAny_builtin F.excBase_ValueError.initEntry ?_⟩
  refine exc_init_tree (cls := .ref C) (t0 := t0) (dv := none) (c2 := .none) (c3 := .none) (b4 := .bool false) hx2 (by show 1 ≤ sizeLine; rw [sizeLine_eq]; omega) fun h3 k3 hx3 _ => ?_
  have X3 : K.In h3 := kept_but0 (X1.keeps k2) (fun o z => nomatch hnx.symm.trans z) k3
  have hns3 := ns_but hns2 fun o e => k3 _ _ hLx e
  refine _root_.PySem.wpAt_of_wpAny (wpAny_execs_cons (plainObj_wpAny_Assign_Attribute ?_ ?_))
  · refine wpAny_Name (wpAny_loadName_local rfl kF hns3 mF ?_) dF
    refine wpAny_Name (wpAny_loadName_local rfl kX hns3 mX ?_) (by decide)
    refine set_plain X3 (od := none) ⟨hx3, rfl, rfl, trivial⟩ T.sa ?_
    refine exc_osa X3 hx3 hcl (show refsVE (.ref C :: bm) = true from hbm) rfl T.noF (fun h4 tk4 dx k4 dn dne hx4 hn4 => ?_)
    refine wpAny_execs_nil (hq h4 tk4 dx (fun b o hb e => k4 b o hb (k3 b o hb (k2 _ _ (k1 _ _ (k _ _ e))))) ⟨_, hx4⟩ ?_ dne hn4)
    have z1 := Heap.lt_size (show h3.get? hp.objs.size = some _ from hns3.choose_spec.choose_spec.choose_spec.1)
    exact Nat.le_of_lt (Nat.lt_of_lt_of_le z1 dn)
  · rcases hf with rfl | rfl | rfl <;> rfl
end
end One
end P_X1

section P_X2
set_option linter.all false
set_option maxRecDepth 100000
set_option maxHeartbeats 4000000
namespace One
open PySem PySem.W PySem.Calls PyProof.Rows PySem.HandSPX L2
/-- what an own exception is made with: a small number, a tuple of such -/
inductive Shown (K : Frag) (H : Hp) : V → Prop
  | int (n : Nat) (h : n < 1000) : Shown K H (.int (n : Nat))
  | tup {a : Addr} (ns : List Nat) (ht : SqT K H a (ns.map fun n => V.int (n : Nat))) (hl : ns.length ≤ 100) (h : ∀ n ∈ ns, n < 1000) : Shown K H (.ref a)
theorem repr_nats {P : Program} {w : World} : ∀ {ns : List Nat} {us : List Value}, Vals (ns.map fun n => V.int (n : Nat)) us → (∀ n ∈ ns, n < 1000) → ReprAll P w us (ns.map fun n => ((toString ((n : Nat) : Int) : String) : Str))
  | [], _, r, _ => by
    cases r
    exact .nil
  | n :: l, _, r, h => by
    cases r with
    | cons r1 r2 =>
      obtain ⟨t, rfl⟩ := r1
      exact .cons (ReprIs.int t (by rw [Int.natAbs_natCast]; exact log_small (h n (List.mem_cons_self ..)))) (repr_nats r2 fun z hz => h z (List.mem_cons_of_mem _ hz))
theorem nats_text : ∀ ns : List Nat, (∀ n ∈ ns, n < 1000) → ((ns.map fun n => ((toString ((n : Nat) : Int) : String) : Str)).map (·.length)).sum ≤ 8 * ns.length
  | [], _ => Nat.zero_le _
  | n :: r, h => by
    have h1 := nats_text r fun z hz => h z (List.mem_cons_of_mem _ hz)
    have h2 : ((toString ((n : Nat) : Int) : String) : Str).length ≤ 8 := int_short n (h n (List.mem_cons_self ..))
    rw [List.map_cons, List.map_cons, List.sum_cons, List.length_cons]
    omega
theorem Shown.fmt {X : Cx} {pins : List (Addr × Obj)} {σ : L2.St} {H : Hp} {s : Shared} {v : V} {u : Value} (I : Inv X pins σ H s) (h : Shown X.K H v) (r : RelV v u) : FmtOk X.prog X.w s.heap u := by
  intro A E s1 Q hu hk q
  cases h with
  | int n hn =>
    obtain ⟨t, rfl⟩ := r
    exact wpAny_formatField_int (by rw [Int.natAbs_natCast]; exact log_small hn) (q _ _ _ (Nat.le_trans (int_short n hn) (by decide)))
  | tup ns ht hl hn =>
    cases r
    obtain ⟨its, rv, ⟨o, ho, hcl, n, hd⟩, _⟩ := I.tuple ht
    have e1 := tupleText_len_le (ns.map fun n => ((toString ((n : Nat) : Int) : String) : Str))
    have e2 := nats_text ns hn
    rw [List.length_map] at e1
    exact fmt_tuple (ts := ns.map fun n => ((toString ((n : Nat) : Int) : String) : Str)) (by omega) (hk _ _ ho) hcl hd (repr_nats rv hn) (by rw [sizeLine_eq]; omega) fun m u tk hm => q m u tk (by omega)
/-- the class under its name -/
structure OwnCls (K : Frag) (mg : Str → Option Value) (nm : Str) (C fI : Addr) : Prop where
  g : mg nm = some (.ref C)
  iC : findIn K (.ref C) "__init__" = some (some (.ref fI))
  tC : typeIn K (.ref fI) = some (.type "function")
  kC : keepIn K (.ref C) = true
  exC : subIn K (.ref C) (.type "BaseException") = some true
  tyC : typeIn K (.ref C) = some (.type "type")
/-- nm(e) -/
def tMkX (K : Frag) (fld : Str) (C : Addr) (ta : TA) : L2.St → Hp → XK → Prop := fun σ H Q => ta σ H fun vs H1 => ∃ v, vs = [v] ∧ Shown K H1 v ∧ ∀ d, H1 d = none → Q (.ref C) (some d) (upd H1 d (.xd [(fld, v)]))
theorem relO_one {v : V} {u : Value} {g : Str} (r : RelV v u) (f : Str) : RelO (List.lookup f [(g, v)]) (if f = g then some u else none) := by
  rw [lookup_put]
  by_cases e : f = g
  · rw [if_pos e, if_pos e]
    exact r
  · rw [if_neg e, if_neg e]
    trivial
section
variable {X : Cx} {C fI : Addr}
theorem pmk_x {nm fld : Str} {st : Stmt} {a : Expr} {ta : TA} {p pos : Pos} {k : Nat} (hf : FldOk fld) (T : OwnTxt X.prog X.K st fld C fI) (O : OwnCls X.K X.mg nm C fI) (noS : X.mg "super" = none) (hr : Room k X.A) (ha : PA X [a] ta) (hg : Gl X nm) (hdb : (nm == ("__debug__" : Str)) = false := by decide) (he : starEach (a :: []) X.env = (false, eval a X.env) :: starEach [] X.env := by rfl) (hpl : (backTo pos (starEach [] X.env)).any (·.1) = false := by rfl) : PMk X (.Call (.Name nm p) [a] [] pos) (tMkX X.K fld C ta) := by
  intro pins s σ H Q I h
  refine wpAny_Call_Name_kw (ld_glob I hg O.g ?_ hdb)
  refine PySem.W.callWith_K (h₀ := X.base) I.ok.mod.kin O.kC (thn (ha.run pos pins s σ H _ I h) fun us s1 ⟨vs, H1, I1, r1, v, ev, hv, q1⟩ => ⟨I1.kIn, ?_⟩) he hpl
  subst ev
  obtain ⟨v', rfl, rv⟩ := vals1 r1
  obtain ⟨nm', qn, N, bs, bm, sn, sub, ab, col, dd, k0, k1, k2, k3, k5, hC, hbm, hal⟩ := T.cls
  have hfm := hv.fmt I1 rv
  have hX := I1.kIn
  have hlim := I1.nolimit
  obtain ⟨_, mgl, ⟨mb, hbn, hbb⟩, _⟩ := I1.mod
  have hbk := I1.bk
  show wpAny _ _ (call (.ref C) [v']) _ _ _
  obtain ⟨hp, g, dr, tk, os⟩ := s1
  have kk : ∀ b o, hp.get? b = some o → ((hp.push (PySem.W.kdv_tup [v'])).push (PySem.HandSPX.excO C hp.objs.size)).get? b = some o := fun b o e => Heap.get?_push_of_some _ (Heap.get?_push_of_some _ e)
  have hget : ((hp.push (PySem.W.kdv_tup [v'])).push (PySem.HandSPX.excO C hp.objs.size)).get? (hp.objs.size + 1) = some (PySem.HandSPX.excO C hp.objs.size) := by heap_get
  have hnx : X.K.lookup (hp.objs.size + 1) = none := by
    match e : X.K.lookup (hp.objs.size + 1) with
    | none => rfl
    | some o => exact absurd (Nat.lt_of_succ_lt (Heap.lt_size (hX _ _ e))) (Nat.lt_irrefl _)
  refine wpAny_call (PySem.HandSPX.call_own F.excBase_ValueError (fun Y => PySem.HandSPX.refsVE_contains Y bm hbm) (hX _ _ hC) (PySem.W.looks_findIn hX O.iC) (fun self => PySem.W.bind_fn hX self O.tC) (by show 1 ≤ sizeLine; rw [sizeLine_eq]; omega) ?_)
  have hdp := hr.dp
  have hun := hr.un
  refine x_init (s := ⟨(hp.push (PySem.W.kdv_tup [v'])).push (PySem.HandSPX.excO C hp.objs.size), g, dr, tk, os⟩) hf T (hX.keeps kk) (hlim.keeps kk) ((mgl.keeps hbk).keeps kk) noS ((hbn.keeps hbk).keeps kk) hbb hget hnx ?_ ?_ (hfm.keeps kk) fun h' tk' dx k' hx dn dne hns => ?_
  · rw [make_depth]
    omega
  · rw [make_units]
    omega
  · refine ⟨rfl, ?_⟩
    show MkP X pins σ Q (.ref (hp.objs.size + 1)) ⟨h', g, dr, tk', os⟩
    obtain ⟨t1, hx⟩ := hx
    have dn : hp.objs.size + 1 + 1 ≤ dx := by
      first
        | (simpa only [Heap.size_push] using dn)
        | exact dn
    have dbig : hp.objs.size ≤ dx := by omega
    obtain ⟨G', g1, g2⟩ := restrict h' fun b => decide (b ≠ hp.objs.size + 1)
    have gk : ∀ b, b ≠ hp.objs.size + 1 → G'.get? b = h'.get? b := fun b hb => g1 b (decide_eq_true hb)
    have ge : G'.get? (hp.objs.size + 1) = none := g2 _ (by simp)
    have ne : ∀ {b : Addr} {o : Obj}, hp.get? b = some o → b ≠ hp.objs.size + 1 := fun {b o} q => Nat.ne_of_lt (Nat.lt_succ_of_lt (Heap.lt_size q))
    have old : ∀ b o, hp.get? b = some o → G'.get? b = some o := fun b o q => (gk b (ne q)).trans (k' b o (ne q) (kk b o q))
    have ob : ObjOk X.prog X.w (upd H1 dx (.xd [(fld, v)])) G' dx (.xd [(fld, v)]) := ⟨_, hns.at (fun o q => (gk dx dne).trans q), fun f => relO_one rv f⟩
    have J : Inv X pins σ (upd H1 dx (.xd [(fld, v)])) ⟨G', g, dr, tk', os⟩ := I1.laid (t' := tk') old dbig ob
    refine ⟨hp.objs.size + 1, _, _, ⟨G', g, dr, tk', os⟩, _, .ref C, some dx, rfl, J, fun b o q => ?_, ge, hx, ⟨rfl, rfl⟩, rfl, rfl, ?_, rfl, I1.bare, raises_own O.exC O.tyC, q1 dx (I1.hok.fresh dbig)⟩
    · by_cases hb : b = hp.objs.size + 1
      · cases (hb ▸ ge).symm.trans (show G'.get? b = some o from q)
      · exact (gk b hb).symm.trans q
    · rw [upd_ne (Ne.symm dne)]
      exact I1.hok.fresh (Nat.le_succ _)
/-- raise nm(e) -/
def tRaiseX (K : Frag) (fld : Str) (C : Addr) (W : WX) (ta : TA) : TS := fun _ σ H => tMkX K fld C ta σ H fun cls d H' => W cls d σ H'
theorem ps_raiseX {nm fld : Str} {st : Stmt} {a : Expr} {ta : TA} {W : WX} {p pos pos2 : Pos} {k : Nat} (hc : X.calm = true) (hf : FldOk fld) (T : OwnTxt X.prog X.K st fld C fI) (O : OwnCls X.K X.mg nm C fI) (noS : X.mg "super" = none) (hr : Room k X.A) (tk : Takes X W) (ha : PA X [a] ta) (hg : Gl X nm) (hdb : (nm == ("__debug__" : Str)) = false := by decide) (he : starEach (a :: []) X.env = (false, eval a X.env) :: starEach [] X.env := by rfl) (hpl : (backTo pos (starEach [] X.env)).any (·.1) = false := by rfl) :
    PS X (.Raise (some (.Call (.Name nm p) [a] [] pos)) none pos2) (tRaiseX X.K fld C W ta) := ps_raise hc tk (pmk_x hf T O noS hr ha hg hdb he hpl)
end
end One
end P_X2

section P_F4
set_option linter.all false
set_option maxRecDepth 100000
set_option maxHeartbeats 8000000
namespace One
open PySem PySem.Spec PyProof.Rows L2
abbrev sNeed : Stmt := top 14
abbrev sCross : Stmt := top 20
abbrev sBadYard : Stmt := top 2
theorem scNeed : FnScope ["thing", "place"] ["thing"] (defScope sNeed) := ⟨rfl, rfl, rfl, by decide +kernel, rfl, by decide +kernel, by decide +kernel⟩
theorem scCross : FnScope ["yard"] ["yard"] (defScope sCross) := ⟨rfl, rfl, rfl, by decide +kernel, rfl, by decide +kernel, by decide +kernel⟩
theorem il_of {H : Hp} {N : Nat} {as : List Addr} {ps : List (Nat × Nat)} (h : PL H as ps) (k : ∀ p ∈ ps, p.1 < p.2 ∧ p.2 < N) : IL H N (refs as) (ps.map some) := by
  induction h with
  | nil => exact .nil
  | cons h1 _ ih =>
    obtain ⟨k1, k2⟩ := k _ (List.mem_cons_self ..)
    exact .line h1 k1 k2 (ih fun p m => k p (List.mem_cons_of_mem _ m))
theorem map_some_inj {α : Type} : ∀ {a b : List α}, a.map some = b.map some → a = b
  | [], [], _ => rfl
  | [], _ :: _, h => by cases h
  | _ :: _, [], h => by cases h
  | x :: a, y :: b, h => by
    rw [List.map_cons, List.map_cons] at h
    obtain ⟨h1, h2⟩ := List.cons.inj h
    rw [Option.some.inj h1, map_some_inj h2]
theorem Yard.lt {n : Nat} {ps : List (Nat × Nat)} (y : Yard n ps) : ∀ p ∈ ps, p.1 < p.2 ∧ p.2 < 4 * n := fun p m => ⟨y.low p m, y.lines.lt _ (mem_ends.mpr ⟨p, m, .inr rfl⟩)⟩
/-- a yard has no fault -/
theorem fault_good {H : Hp} {t : Addr} {n : Nat} {ps : List (Nat × Nat)} {Q : VK} {E : XK} (y : YAt H t n ps) (hn : n ≤ 40) (q : ∀ H', Same H H' → Q .non H') : spFault [.ref t] H Q E := by
  obtain ⟨Y, as, ht, hP⟩ := y
  have hl : (refs as).length = 2 * n := by rw [List.length_map, hP.len, Y.lines.len]
  have hpos := Y.pos
  refine ⟨_, rfl, .inr ⟨t, refs as, ps.map some, rfl, ht, ?_, ?_, fun k hk => ?_, fun _ qs e => ?_⟩⟩
  · unfold canBe
    rw [hl]
    simp only [Bool.and_eq_true, decide_eq_true_eq]
    omega
  · rw [hl]
    exact il_of hP fun p m => ⟨(Y.lt p m).1, by have := (Y.lt p m).2; omega⟩
  · rw [yard_good Y] at hk
    cases hk
  · cases map_some_inj e
    rw [hl, show 2 * n / 2 = n by omega]
    exact ⟨fun _ => q, fun z => absurd Y.whole z⟩
theorem fault_mono {H : Hp} {v : V} {Q Q' : VK} {E E' : XK} (h : spFault [v] H Q E) (k : ∀ r H', Q r H' → Q' r H') : spFault [v] H Q' E' := by
  obtain ⟨v', e, h⟩ := h
  refine ⟨v', e, ?_⟩
  rcases h with ⟨h1, h2⟩ | ⟨t, xs, os, h1, h2, h3, h4, h5, h6⟩
  · exact .inl ⟨h1, fun H' p a b => k _ _ (h2 H' p a b)⟩
  · exact .inr ⟨t, xs, os, h1, h2, h3, h4, fun j e H' p a b => k _ _ (h5 j e H' p a b), fun e ps eo => ⟨fun z H' a => k _ _ ((h6 e ps eo).1 z H' a), fun z H' p a b => k _ _ ((h6 e ps eo).2 z H' p a b)⟩⟩
/-- a tuple of no good length: () -/
theorem fault_len {H : Hp} {t : Addr} {xs : List V} {Q : VK} {E : XK} (ht : H t = some (.tup xs)) (hc : canBe (xs.length : Nat) = false) (q : ∀ (H' : Hp) (p : Addr), Same H H' → H' p = some (.tup []) → Q (.ref p) H') : spFault [.ref t] H Q E :=
  ⟨_, rfl, .inl ⟨.inr ⟨t, xs, rfl, ht, hc⟩, q⟩⟩
/-- a fault told -/
def Wrong (C0 : Addr) (E : XK) (r : V) (H : Hp) : Prop := ∃ (p : Addr) (ns : List Nat), r = .ref p ∧ H p = some (.tup (nats ns)) ∧ ns.length ≤ 100 ∧ (∀ n ∈ ns, n < 1000) ∧ ∀ d, H d = none → E (.ref C0) (some d) (upd H d (.xd [("place", .ref p)]))
def spNeed (C0 : Addr) : Sp := fun vs H Q E => ∃ v, vs = [v] ∧ spFault [v] H (fun r H' => (r = .non ∧ Q v H') ∨ Wrong C0 E r H') E0
def spCross (C0 : Addr) : Sp := fun vs H Q E => spNeed C0 vs H (fun v H' => ∃ t xs, v = .ref t ∧ H' t = some (.tup xs) ∧ Q (.int ((xs.length / 2 : Nat))) H') E
section
variable {P : Program} {w : World} {K : PySem.W.Frag} {mg : Str → Option Value} {base : Heap} {C0 fI : Addr} {sX : Stmt}
theorem ok_need {f fF : Addr} {fd fdF : FuncData} (F : Fun K "need_yard" "need_yard" sNeed f fd) (T : OwnTxt P K sX "place" C0 fI) (O : OwnCls K mg "BadYard" C0 fI) (noS : mg "super" = none) (B : Cal K mg "yard_fault" fF fdF ["thing"]) (GF : FnOk P w K mg base CX0 4 fF fdF ["thing"] spFault) :
    FnOk P w K mg base (L2.CX P w) 5 f fd ["thing"] (spNeed C0) := by
  refine F.okX scNeed (fun vs H Q E h => ?_) (fun cdv A outer s H vs Q E hr h => ?_)
  · obtain ⟨v, rfl, _⟩ := h
    rfl
  · obtain ⟨v, rfl, h⟩ := h
    have nd := scNeed.nd
    refine ⟨_, pss_cons (ps_set (i := 1) nd rfl (Or.inl rfl) (pe_call GF hr rfl B.g B.kp B.b .nil pass0 (pa_cons (pv 0) pa_nil)))
      (pss_cons (ps_if (pt_cmpR op_notN (pv 1) pe_non (nomark _)) (pss_one (ps_raiseX rfl (Or.inl rfl) T O noS hr (takes_of rfl rfl rfl rfl) (pa_cons (pv 1) pa_nil) (by rfl))) pss_nil)
      (pss_one (ps_ret (pv 0)))), ?_⟩
    refine ⟨_, rfl, ?_⟩
    unfold tNil
    refine fault_mono (Q := fun r H' => (r = .non ∧ Q v H') ∨ Wrong C0 E r H') h fun r H' hq => ?_
    rcases hq with ⟨rfl, q⟩ | ⟨p, ns, rfl, hp, hl, hs, q⟩
    · exact ⟨_, rfl, rfl, _, rfl, iteF ⟨_, rfl, q⟩⟩
    · refine ⟨_, rfl, rfl, _, rfl, iteT ⟨_, rfl, _, rfl, .tup ns (SqT.of hp) hl hs, fun d hd => q d hd⟩⟩
theorem ok_cross {f fN : Addr} {fd fdN : FuncData} (F : Fun K "crossings" "crossings" sCross f fd) (T : TB mg) (N : Cal K mg "need_yard" fN fdN ["thing"]) (GN : FnOk P w K mg base (L2.CX P w) 5 fN fdN ["thing"] (spNeed C0)) :
    FnOk P w K mg base (L2.CX P w) 6 f fd ["yard"] (spCross C0) := by
  refine F.okX scCross (fun vs H Q E h => ?_) (fun cdv A outer s H vs Q E hr h => ?_)
  · obtain ⟨v, rfl, _⟩ := h
    rfl
  · obtain ⟨v, rfl, h⟩ := h
    refine ⟨_, pss_one (ps_ret (pe_op op_fdiv (pe_callB call_len_seq (by rfl) T.len PySem.boot_len (pa_cons (pe_call GN hr rfl N.g N.kp N.b .nil (passes_call (takes_of rfl rfl rfl rfl) (fun _ _ _ _ h => h)) (pa_cons (pv 0) pa_nil)) pa_nil)) pe_int)), ?_⟩
    refine ⟨_, rfl, v, rfl, fault_mono h fun r H' hq => hq.imp (fun ⟨e, t, xs, e2, ht, q⟩ => ⟨e, t, xs, by rw [e2], .inr (SqT.of ht), ?_⟩) id⟩
    refine ⟨_, _, rfl, rfl, ⟨by decide, by decide⟩, ?_⟩
    have e4 : ((xs.length : Nat) : Int) / 2 = ((xs.length / 2 : Nat) : Int) := by omega
    show Q (.int (((xs.length : Nat) : Int) / 2)) H'
    rw [e4]
    exact q
end
end One
end P_F4

section P_Y1
set_option linter.all false
set_option maxRecDepth 100000
set_option maxHeartbeats 8000000
namespace One
open PySem PySem.Spec PyProof.Rows L2
abbrev sEA : Stmt := top 29
abbrev sRF : Stmt := top 28
abbrev sRB : Stmt := top 27
abbrev nEA : List Str := ["fars", "setting", "end", "come_to"]
abbrev nRF : List Str := ["fars", "setting", "start", "ends", "end"]
abbrev nRB : List Str := ["fars", "setting", "rounds", "gone", "start", "ends", "end"]
theorem scEA : FnScope nEA ["fars", "setting", "end"] (defScope sEA) := ⟨rfl, rfl, rfl, by decide +kernel, rfl, by decide +kernel, by decide +kernel⟩
theorem scRF : FnScope nRF ["fars", "setting", "start"] (defScope sRF) := ⟨rfl, rfl, rfl, by decide +kernel, rfl, by decide +kernel, by decide +kernel⟩
theorem scRB : FnScope nRB ["fars", "setting"] (defScope sRB) := ⟨rfl, rfl, rfl, by decide +kernel, rfl, by decide +kernel, by decide +kernel⟩
/-- a setting of n crossings at t -/
structure SetAt (H : Hp) (t : Addr) (n : Nat) (ws : List Nat) : Prop where
  len : ws.length = n
  lt : ∀ x ∈ ws, x < 3
  here : H t = some (.tup (nats ws))
theorem SetAt.mono {H H' : Hp} {t : Addr} {n : Nat} {ws : List Nat} (h : SetAt H t n ws) (k : ∀ b xs, H b = some (.tup xs) → H' b = some (.tup xs)) : SetAt H' t n ws := ⟨h.len, h.lt, k _ _ h.here⟩
/-- the way at each crossing -/
def wayL (ws : List Nat) : Nat → Nat := fun c => ws.getD c 0
theorem SetAt.ways {H : Hp} {t : Addr} {n : Nat} {ws : List Nat} (h : SetAt H t n ws) : ∀ c, c < n → wayL ws c < 3 := fun c hc => by
  have hl : c < ws.length := by rw [h.len]; exact hc
  unfold wayL
  rw [List.getD_eq_getElem?_getD, List.getElem?_eq_getElem hl]
  exact h.lt _ (List.getElem_mem hl)
theorem SetAt.at_ {H : Hp} {t : Addr} {n : Nat} {ws : List Nat} (h : SetAt H t n ws) {c : Nat} (hc : c < n) : ws[c]? = some (wayL ws c) := by
  have hl : c < ws.length := by rw [h.len]; exact hc
  unfold wayL
  rw [List.getD_eq_getElem?_getD, List.getElem?_eq_getElem hl]
  rfl
def spEA : Sp := fun vs H Q _ => ∃ (L t : Addr) (F : Nat → Nat) (n e : Nat) (ws : List Nat), vs = [.ref L, .ref t, .int (e : Nat)] ∧ H L = some (.lst (farL F n)) ∧ SetAt H t n ws ∧ Inv2 F n ∧ e < 4 * n ∧ Q (.int (nextE F (wayL ws) e : Nat)) H
def spRF : Sp := fun vs H Q _ => ∃ (L t : Addr) (F : Nat → Nat) (n s : Nat) (ws : List Nat), vs = [.ref L, .ref t, .int (s : Nat)] ∧ H L = some (.lst (farL F n)) ∧ SetAt H t n ws ∧ Inv2 F n ∧ n ≤ 100 ∧ s < 4 * n ∧
  ∀ (H' : Hp) (u : Addr) (k : Nat), Same H H' → Per (nextE F (wayL ws)) s k → H' u = some (.tup (nats (rnd (nextE F (wayL ws)) s k))) → Q (.ref u) H'
/-- rounds in tuples -/
inductive RsAt (f : Nat → Nat) (H : Hp) : List Addr → List (Nat × Nat) → Prop
  | nil : RsAt f H [] []
  | cons {a p as ps} : H a = some (.tup (nats (rnd f p.1 p.2))) → RsAt f H as ps → RsAt f H (a :: as) (p :: ps)
theorem RsAt.len {f : Nat → Nat} {H : Hp} {as : List Addr} {ps : List (Nat × Nat)} (h : RsAt f H as ps) : as.length = ps.length := by
  induction h with
  | nil => rfl
  | cons _ _ ih => simp [ih]
theorem RsAt.mono {f : Nat → Nat} {H H' : Hp} {as : List Addr} {ps : List (Nat × Nat)} (h : RsAt f H as ps) (k : ∀ b xs, H b = some (.tup xs) → H' b = some (.tup xs)) : RsAt f H' as ps := by
  induction h with
  | nil => exact .nil
  | cons h1 _ ih => exact .cons (k _ _ h1) ih
theorem RsAt.app {f : Nat → Nat} {H : Hp} {as bs : List Addr} {ps qs : List (Nat × Nat)} (h : RsAt f H as ps) (k : RsAt f H bs qs) : RsAt f H (as ++ bs) (ps ++ qs) := by
  induction h with
  | nil => exact k
  | cons h1 _ ih => exact .cons h1 ih
def spRB : Sp := fun vs H Q _ => ∃ (L t : Addr) (F : Nat → Nat) (n : Nat) (ws : List Nat), vs = [.ref L, .ref t] ∧ H L = some (.lst (farL F n)) ∧ SetAt H t n ws ∧ Inv2 F n ∧ n ≤ 100 ∧
  ∀ (H' : Hp) (u : Addr) (as : List Addr) (rs : List (Nat × Nat)), Same H H' → H' u = some (.tup (refs as)) → RsAt (nextE F (wayL ws)) H' as rs → Rounds F (wayL ws) n rs → Q (.ref u) H'
section
variable {P : Program} {w : World} {K : PySem.W.Frag} {mg : Str → Option Value} {base : Heap}
theorem ok_ea {f fM : Addr} {fd fdM : FuncData} (F : Fun K "end_after" "end_after" sEA f fd) (C : TC mg) (Ma : Cal K mg "mate" fM fdM ["end", "way"]) (GM : FnOk P w K mg base CX0 1 fM fdM ["end", "way"] spMate) : FnOk P w K mg base CX0 2 f fd ["fars", "setting", "end"] spEA := by
  refine F.ok scEA (fun vs H Q E h => ?_) (fun cdv A outer s H vs Q E hr h => ?_)
  · obtain ⟨L, t, F, n, e, ws, rfl, _⟩ := h
    rfl
  · obtain ⟨L, t, F, n, e, ws, rfl, hL, hS, I, he, k⟩ := h
    have nd := scEA.nd
    have hr1 : Room 1 _ := hr
    obtain ⟨t4, ht4⟩ := C.places
    refine ⟨_, pss_cons (ps_set (i := 3) nd rfl (Or.inl rfl) (pe_ix ix_list (pv 0) (pv 2) (fun _ _ => rfl)))
      (pss_one (ps_ret (pe_call GM hr1 rfl Ma.g Ma.kp Ma.b .nil pass0 (pa_cons (pv 3) (pa_cons (pe_ix ix_tup (pv 1) (pe_op op_fdiv (pv 3) (pe_glob (v := .int 4) rfl ht4 ⟨_, rfl⟩)) (fun _ _ => rfl)) pa_nil))))), ?_⟩
    have hF := I.lt e he
    have e4 : ((F e : Nat) : Int) / 4 = ((F e / 4 : Nat) : Int) := by omega
    refine ⟨_, rfl, _, rfl, L, _, _, V.int (F e : Nat), rfl, rfl, SqL.of hL, at_of (j := e) rfl (farL_at he), ?_⟩
    refine ⟨_, rfl, _, rfl, _, rfl, _, _, rfl, rfl, ⟨by decide, by decide⟩, t, _, _, V.int (wayL ws (F e / 4) : Nat), rfl, rfl, SqT.of hS.here, at_of (j := F e / 4) e4 (nats_at (hS.at_ (by omega))), F e, wayL ws (F e / 4), rfl, k⟩
theorem ok_rf {f fE : Addr} {fd fdE : FuncData} (F : Fun K "round_from" "round_from" sRF f fd) (T : TB mg) (Ea : Cal K mg "end_after" fE fdE ["fars", "setting", "end"]) (GE : FnOk P w K mg base CX0 2 fE fdE ["fars", "setting", "end"] spEA) : FnOk P w K mg base CX0 3 f fd ["fars", "setting", "start"] spRF := by
  refine F.ok scRF (fun vs H Q E h => ?_) (fun cdv A outer s H vs Q E hr h => ?_)
  · obtain ⟨L, t, F, n, s, ws, rfl, _⟩ := h
    rfl
  · obtain ⟨L, t, F, n, st, ws, rfl, hL, hS, I, hn, hs, k⟩ := h
    have nd := scRF.nd
    have hr2 : Room 2 _ := hr
    have G := next_goes I hS.ways
    obtain ⟨kk, per, hk⟩ := G.per hs
    have kpos := per.pos
    refine ⟨_, pss_cons (ps_set (i := 3) nd rfl (Or.inl rfl) (pe_lst (pa_cons (pv 2) pa_nil)))
      (C8.pss_cut (ps_set (i := 4) nd rfl (Or.inl rfl) (pe_call GE hr2 rfl Ea.g Ea.kp Ea.b .nil pass0 (pa_cons (pv 0) (pa_cons (pv 1) (pa_cons (pv 2) pa_nil)))))
      (pss_cons (ps_while PassesOwn.never (pt_cmpR op_ne (pv 4) (pv 2) (nomark _))
        (pss_cons (ps_expr (pe_bm PySem.F.plainAttrs_list PySem.F.slot_list_append PySem.F.type_list_append mt_append (pv 3) (pa_cons (pv 4) pa_nil)))
      (pss_one (ps_set (i := 4) nd rfl (Or.inl rfl) (pe_call GE hr2 rfl Ea.g Ea.kp Ea.b .nil pass0 (pa_cons (pv 0) (pa_cons (pv 1) (pa_cons (pv 4) pa_nil))))))))
      (pss_one (ps_ret (pe_tupleOf (by rfl) T.tuple (pv 3)))))), ?_⟩
    refine ⟨_, rfl, (by show 1 ≤ sizeLine; decide), fun D hD => ?_⟩
    have sD := Same.new (o := .lst [V.int (st : Nat)]) hD
    refine ⟨fun σ H2 => σ = [some (.ref L), some (.ref t), some (.int (st : Nat)), some (.ref D), some (.int (iter (nextE F (wayL ws)) 1 st : Nat))] ∧ H2 D = some (.lst (nats (rnd (nextE F (wayL ws)) st 1))) ∧ Same H H2, ?_, ?_⟩
    · exact ⟨_, rfl, _, rfl, _, rfl, L, t, F, n, st, ws, rfl, sD _ _ hL, hS.mono (sameT sD), I, hs, rfl, upd_same, sD⟩
    · rintro σ0 H0 ⟨rfl, h0, s0⟩
      unfold tSeq
      refine while_by (fun σ H2 => ∃ i, i < kk ∧ σ = [some (.ref L), some (.ref t), some (.int (st : Nat)), some (.ref D), some (.int (iter (nextE F (wayL ws)) (i + 1) st : Nat))] ∧ H2 D = some (.lst (nats (rnd (nextE F (wayL ws)) st (i + 1)))) ∧ Same H H2)
        (fun σ H2 => kk - (match H2 D with
          | some (.lst xs) => xs.length
          | _ => 0)) ⟨0, kpos, rfl, h0, s0⟩ ?_ ?_
      · rintro σ H2 ⟨i, hi, rfl, h2, s2⟩
        have mu : (match H2 D with
          | some (.lst xs) => xs.length
          | _ => 0) = i + 1 := by
          rw [h2]
          show (nats _).length = _
          rw [List.length_map, rnd_len]
        refine ⟨_, rfl, _, rfl, rfl, _, rfl, ?_⟩
        by_cases hb : iter (nextE F (wayL ws)) (i + 1) st = st
        · have e1 : kk = i + 1 := by
            rcases Nat.lt_or_ge (i + 1) kk with h | h
            · exact absurd hb (per.first (i + 1) (by omega) h)
            · omega
          rw [show (!decide (V.int (iter (nextE F (wayL ws)) (i + 1) st : Nat) = V.int (st : Nat))) = false by rw [hb, decide_eq_true rfl]; rfl]
          refine iteF ⟨_, rfl, .inl ⟨D, _, rfl, SqL.of h2, fun u hu => ?_⟩⟩
          have su := Same.new (o := .tup (nats (rnd (nextE F (wayL ws)) st (i + 1)))) hu
          exact k _ u kk (s2.trans su) per (by rw [upd_same, e1])
        · have hlt : i + 1 < kk := by
            rcases Nat.lt_or_ge (i + 1) kk with h | h
            · exact h
            · have : kk = i + 1 := by omega
              rw [← this] at hb
              exact absurd per.back hb
          have ne : ¬ (V.int (iter (nextE F (wayL ws)) (i + 1) st : Nat) = V.int (st : Nat)) := fun z => hb (by have := V.int.inj z; omega)
          rw [show (!decide (V.int (iter (nextE F (wayL ws)) (i + 1) st : Nat) = V.int (st : Nat))) = true by rw [decide_eq_false ne]; rfl]
          refine iteT ⟨_, rfl, .inl ⟨rfl, _, SqL.of h2⟩, _, rfl, D, _, _, rfl, rfl, h2, small1000 (by rw [List.length_map, rnd_len]; omega), ?_⟩
          have s3 : Same H (upd H2 D (.lst (nats (rnd (nextE F (wayL ws)) st (i + 1)) ++ [V.int (iter (nextE F (wayL ws)) (i + 1) st : Nat)]))) := fun b o e => by
            rw [upd_ne (ne_of_none e hD)]
            exact s2 _ _ e
          have h3 : (upd H2 D (.lst (nats (rnd (nextE F (wayL ws)) st (i + 1)) ++ [V.int (iter (nextE F (wayL ws)) (i + 1) st : Nat)]))) D = some (.lst (nats (rnd (nextE F (wayL ws)) st (i + 1 + 1)))) := by
            rw [upd_same, rnd_snoc _ _ (i + 1), nats_app (rnd _ _ (i + 1))]
            rfl
          refine ⟨_, rfl, _, rfl, _, rfl, L, t, F, n, _, ws, rfl, s3 _ _ hL, hS.mono (sameT s3), I, G.iter_lt hs (i + 1), ⟨i + 1, hlt, rfl, h3, s3⟩, ?_⟩
          rw [mu, h3]
          show kk - (nats _).length < _
          rw [List.length_map, rnd_len]
          omega
      · intro σ H1 Q1 Q2 hq h
        obtain ⟨v, e1, v2, e2, e3, kk', h5, q⟩ := h
        exact ⟨v, e1, v2, e2, e3, kk', h5, hq _ _ q⟩
end
end One
end P_Y1

section P_Y2
set_option linter.all false
set_option maxRecDepth 100000
set_option maxHeartbeats 8000000
namespace One
open PySem PySem.Spec PyProof.Rows L2
/-- what is told as gone -/
def GoneL (F W : Nat → Nat) (n : Nat) (rs : List (Nat × Nat)) (xs : List Nat) (g : List Bool) : Prop := g.length = 4 * n ∧ ∀ e, e < 4 * n → (g[e]? = some true ↔ Gone F W rs e ∨ ∃ x ∈ xs, e = x ∨ e = F x)
theorem GoneL.step {F W : Nat → Nat} {n x : Nat} {rs : List (Nat × Nat)} {xs : List Nat} {g : List Bool} (h : GoneL F W n rs xs g) (hx : x < 4 * n) (hF : F x < 4 * n) : GoneL F W n rs (xs ++ [x]) ((g.set x true).set (F x) true) := by
  obtain ⟨l, k⟩ := h
  refine ⟨by rw [List.length_set, List.length_set, l], fun e he => ?_⟩
  have hs : ((g.set x true).set (F x) true)[e]? = some true ↔ e = F x ∨ e = x ∨ g[e]? = some true := by
    by_cases h1 : F x = e
    · subst h1
      rw [List.getElem?_set_self (by rw [List.length_set, l]; exact hF)]
      simp
    · rw [List.getElem?_set_ne h1]
      by_cases h2 : x = e
      · subst h2
        rw [List.getElem?_set_self (by rw [l]; exact hx)]
        simp
      · rw [List.getElem?_set_ne h2]
        refine ⟨fun q => .inr (.inr q), fun q => ?_⟩
        rcases q with q | q | q
        · exact absurd q.symm h1
        · exact absurd q.symm h2
        · exact q
  rw [hs, k e he]
  constructor
  · rintro (q | q | q | ⟨y, hy, q⟩)
    · exact .inr ⟨x, by simp, .inr q⟩
    · exact .inr ⟨x, by simp, .inl q⟩
    · exact .inl q
    · exact .inr ⟨y, by simp [hy], q⟩
  · rintro (q | ⟨y, hy, q⟩)
    · exact .inr (.inr (.inl q))
    · rcases List.mem_append.mp hy with hy | hy
      · exact .inr (.inr (.inr ⟨y, hy, q⟩))
      · rw [List.mem_singleton.mp hy] at q
        rcases q with q | q
        · exact .inr (.inl q)
        · exact .inl q
theorem GoneL.done {F W : Nat → Nat} {n i k : Nat} {rs : List (Nat × Nat)} {g : List Bool} (I : Inv2 F n) (hW : ∀ c, c < n → W c < 3) (hi : i < 4 * n) (h : GoneL F W n rs (rnd (nextE F W) i k) g) : GoneL F W n (rs ++ [(i, k)]) [] g := by
  obtain ⟨l, q⟩ := h
  refine ⟨l, fun e he => (q e he).trans ?_⟩
  constructor
  · rintro (⟨p, hp, z⟩ | ⟨x, hx, z⟩)
    · exact .inl ⟨p, List.mem_append_left _ hp, z⟩
    · refine .inl ⟨(i, k), List.mem_append_right _ (List.mem_singleton.mpr rfl), ?_⟩
      rcases z with rfl | rfl
      · exact .inl hx
      · exact .inr (by
          show F (F x) ∈ _
          rw [I.inv x (rnd_lt I hW hi hx)]
          exact hx)
  · rintro (⟨p, hp, z⟩ | ⟨x, hx, _⟩)
    · rcases List.mem_append.mp hp with hp | hp
      · exact .inl ⟨p, hp, z⟩
      · rw [List.mem_singleton.mp hp] at z
        rcases z with z | z
        · exact .inr ⟨e, z, .inl rfl⟩
        · exact .inr ⟨F e, z, .inr (I.inv e he).symm⟩
    · exact absurd hx (by simp)
theorem bl_at {g : List Bool} {e : Nat} {b : Bool} (h : g[e]? = some b) : (g.map V.bl)[e]? = some (V.bl b) := by
  rw [List.getElem?_map, h]
  rfl
theorem bl_set (g : List Bool) (j : Nat) : (g.map V.bl).set j (V.bl true) = (g.set j true).map V.bl := (List.map_set).symm
section
variable {P : Program} {w : World} {K : PySem.W.Frag} {mg : Str → Option Value} {base : Heap}
theorem ok_rb {f fR : Addr} {fd fdR : FuncData} (F : Fun K "rounds_by_fars" "rounds_by_fars" sRB f fd) (T : TB mg) (Rf : Cal K mg "round_from" fR fdR ["fars", "setting", "start"]) (GR : FnOk P w K mg base CX0 3 fR fdR ["fars", "setting", "start"] spRF) : FnOk P w K mg base CX0 4 f fd ["fars", "setting"] spRB := by
  refine F.ok scRB (fun vs H Q E h => ?_) (fun cdv A outer s H vs Q E hr h => ?_)
  · obtain ⟨L, t, F, n, ws, rfl, _⟩ := h
    rfl
  · obtain ⟨L, t, F, n, ws, rfl, hL, hS, I, hn, k⟩ := h
    have nd := scRB.nd
    have hr3 : Room 3 _ := hr
    have hW := hS.ways
    refine ⟨_, pss_cons (ps_set (i := 2) nd rfl (Or.inl rfl) (pe_lst pa_nil))
      (pss_cons (ps_set (i := 3) nd rfl (Or.inl rfl) (pe_op op_rep (pe_lst (pa_cons pe_bl pa_nil)) (pe_callB call_len_seq (by rfl) T.len PySem.boot_len (pa_cons (pv 0) pa_nil))))
      (pss_cons (ps_for PassesOwn.never rfl (pi_range1 (by rfl) T.range (pa_cons (pe_callB call_len_seq (by rfl) T.len PySem.boot_len (pa_cons (pv 0) pa_nil)) pa_nil)) (pg_name (i := 4) nd rfl (Or.inl rfl))
        (pss_one (ps_if (pt_not (pt_val (pe_ix ix_list (pv 3) (pv 4) (fun _ _ => rfl)))) (pss_cons (ps_set (i := 5) nd rfl (Or.inl rfl) (pe_call GR hr3 rfl Rf.g Rf.kp Rf.b .nil pass0 (pa_cons (pv 0) (pa_cons (pv 1) (pa_cons (pv 4) pa_nil)))))
      (pss_cons (ps_for PassesOwn.never rfl (pi_tup (pv 5)) (pg_name (i := 6) nd rfl (Or.inl rfl))
        (pss_one (ps_asg2 pe_bl (pg_sub (pv 3) (pv 6) set_list) (pg_sub (pv 3) (pe_ix ix_list (pv 0) (pv 6) (fun _ _ => rfl)) set_list))))
      (pss_one (ps_expr (pe_bm PySem.F.plainAttrs_list PySem.F.slot_list_append PySem.F.type_list_append mt_append (pv 2) (pa_cons (pv 5) pa_nil)))))) pss_nil)))
      (pss_one (ps_ret (pe_tupleOf (by rfl) T.tuple (pv 2)))))), ?_⟩
    refine ⟨Nat.zero_le _, fun R hR => ?_⟩
    have s1 := Same.new (o := .lst []) hR
    refine ⟨by show 1 ≤ sizeLine; decide, fun l1 hl1 => ⟨_, rfl, L, _, rfl, .inl (SqL.of ((Same.new hl1) _ _ (s1 _ _ hL))), ?_⟩⟩
    have s2 := s1.trans (Same.new (o := .lst [V.bl false]) hl1)
    have lF : (farL F n).length = 4 * n := farL_len F n
    refine ⟨l1, _, _, rfl, rfl, upd_same, by omega, by omega, (by rw [lF]; show 1 * _ ≤ _; exact Nat.le_of_lt (small1000 (by omega))), fun Gn hGn => ?_⟩
    have eR : (List.replicate (((farL F n).length : Nat) : Int).toNat [V.bl false]).flatten = (List.replicate (4 * n) false).map V.bl := by
      rw [lF, show ((4 * n : Nat) : Int).toNat = 4 * n by omega, List.map_replicate]
      exact flat_rep _ _
    have s3 := s2.trans (Same.new (o := .lst (List.replicate (((farL F n).length : Nat) : Int).toNat [V.bl false]).flatten) hGn)
    have hG0 : H Gn = none := s2.free hGn
    have hRl : (upd (upd H R (.lst [])) l1 (.lst [V.bl false])) R = some (.lst []) := (Same.new hl1) _ _ upd_same
    have nRG : R ≠ Gn := ne_of_none hRl hGn
    have hR3 := (Same.new (o := .lst (List.replicate (((farL F n).length : Nat) : Int).toNat [V.bl false]).flatten) hGn) _ _ hRl
    have hG3 : (upd (upd (upd H R (.lst [])) l1 (.lst [V.bl false])) Gn (.lst (List.replicate (((farL F n).length : Nat) : Int).toNat [V.bl false]).flatten)) Gn = some (.lst ((List.replicate (4 * n) false).map V.bl)) := by rw [upd_same, eR]
    generalize upd (upd (upd H R (.lst [])) l1 (.lst [V.bl false])) Gn (.lst (List.replicate (((farL F n).length : Nat) : Int).toNat [V.bl false]).flatten) = H3 at s3 hR3 hG3 ⊢
    have hL3 := s3 _ _ hL
    refine ⟨_, rfl, L, _, rfl, .inl (SqL.of hL3), _, rfl, by rw [lF]; omega, by rw [lF]; omega, ?_⟩
    rw [lF, show ((4 * n : Nat) : Int).toNat = 4 * n by omega]
    refine for_range (lo := 0) (n := 4 * n) (fun i σ H' => ∃ (v4 v5 v6 : Option V) (as : List Addr) (rs : List (Nat × Nat)) (g : List Bool), σ = [some (.ref L), some (.ref t), some (.ref R), some (.ref Gn), v4, v5, v6] ∧ H' R = some (.lst (refs as)) ∧ RsAt (nextE F (wayL ws)) H' as rs ∧ RTo F (wayL ws) n i rs ∧
        H' Gn = some (.lst (g.map V.bl)) ∧ GoneL F (wayL ws) n rs [] g ∧ Same H H')
      ⟨none, none, none, [], [], List.replicate (4 * n) false, rfl, hR3, .nil, rto_nil, hG3, ⟨List.length_replicate, fun e he => ?_⟩, s3⟩ ?_ ?_
    · rw [List.getElem?_replicate, if_pos he]
      refine ⟨fun z => (by cases z), fun z => ?_⟩
      rcases z with ⟨p, hp, _⟩ | ⟨x, hx, _⟩
      · exact absurd hp (by simp)
      · exact absurd hx (by simp)
    · rintro i σ H4 hi ⟨v4, v5, v6, as, rs, g, rfl, hR4, hA4, R4, hG4, g4, s4⟩
      rw [Int.zero_add]
      obtain ⟨b, hb⟩ : ∃ b, g[i]? = some b := ⟨_, List.getElem?_eq_getElem (by rw [g4.1]; exact hi)⟩
      refine ⟨_, rfl, _, rfl, Gn, _, _, V.bl b, rfl, rfl, SqL.of hG4, at_of (j := i) rfl (bl_at hb), b, rfl, ?_⟩
      have gi := g4.2 i hi
      cases b with
      | true =>
        refine iteF ?_
        refine ⟨_, _, _, as, rs, g, rfl, hR4, hA4, R4.skip ?_, hG4, g4, s4⟩
        rcases gi.mp hb with z | ⟨x, hx, _⟩
        · exact z
        · exact absurd hx (by simp)
      | false =>
        have ng : ¬ Gone F (wayL ws) rs i := fun z => by
          rw [gi.mpr (.inl z)] at hb
          cases hb
        refine iteT ⟨_, rfl, _, rfl, _, rfl, L, t, F, n, i, ws, rfl, s4 _ _ hL, hS.mono (sameT s4), I, hn, hi, fun H5 u kk s5 per hu => ?_⟩
        have s05 := s4.trans s5
        refine ⟨_, rfl, u, rfl, ⟨_, SqT.of hu⟩, ?_⟩
        have rl : (nats (rnd (nextE F (wayL ws)) i kk)).length = kk := by rw [List.length_map, rnd_len]
        refine for_it (walk_tup (K := K) (a := u) (xs := nats (rnd (nextE F (wayL ws)) i kk))) (fun j σ H' => ∃ (v6' : Option V) (g' : List Bool), σ = [some (.ref L), some (.ref t), some (.ref R), some (.ref Gn), some (.int (i : Nat)), some (.ref u), v6'] ∧ H' R = some (.lst (refs as)) ∧ RsAt (nextE F (wayL ws)) H' as rs ∧
            H' u = some (.tup (nats (rnd (nextE F (wayL ws)) i kk))) ∧ H' Gn = some (.lst (g'.map V.bl)) ∧ GoneL F (wayL ws) n rs ((rnd (nextE F (wayL ws)) i kk).take j) g' ∧ Same H H')
          ⟨_, g, rfl, s5 _ _ hR4, hA4.mono (sameT s5), hu, s5 _ _ hG4, g4, s05⟩ (fun j σ H' _ ⟨_, _, _, _, _, h', _⟩ => SqT.of h') ?_ ?_
        · rintro j v σ H6 H7 hj ⟨v6', g', rfl, hR6, hA6, hu6, hG6, g6, s6⟩ ⟨rfl, hv⟩
          have hv : (nats (rnd (nextE F (wayL ws)) i kk))[j]? = some v := hv
          rw [rl] at hj
          have hjr : j < (rnd (nextE F (wayL ws)) i kk).length := by rw [rnd_len]; exact hj
          rw [List.getElem?_map, List.getElem?_eq_getElem hjr] at hv
          cases hv
          generalize hxe : (rnd (nextE F (wayL ws)) i kk)[j] = x
          have hx : (rnd (nextE F (wayL ws)) i kk)[j]? = some x := by rw [List.getElem?_eq_getElem hjr, hxe]
          have xl : x < 4 * n := rnd_lt I hW hi (List.mem_of_getElem? hx)
          have fl := I.lt x xl
          refine ⟨_, rfl, _, rfl, Gn, _, _, x, rfl, rfl, hG6, ix_nat (by rw [List.length_map, g6.1]; exact xl), ?_⟩
          rw [bl_set]
          have hL6 := s6 _ _ hL
          have s7 : ∀ (o : HO), Same H (upd H7 Gn o) := fun o b u' e => by
            rw [upd_ne (ne_of_none e hG0)]
            exact s6 _ _ e
          refine ⟨_, rfl, _, rfl, _, rfl, L, _, _, V.int (F x : Nat), rfl, rfl, SqL.of (s7 _ _ _ hL), at_of (j := x) rfl (farL_at xl), Gn, _, _, F x, rfl, rfl, upd_same, ix_nat (by rw [List.length_map, List.length_set, g6.1]; exact fl), ?_⟩
          rw [bl_set]
          have k8 : ∀ b o, b ≠ Gn → H7 b = some o → (upd (upd H7 Gn (.lst ((g'.set x true).map V.bl))) Gn (.lst (((g'.set x true).set (F x) true).map V.bl))) b = some o := fun b o hb e => by rw [upd_ne hb, upd_ne hb]; exact e
          have kT : ∀ b xs, H7 b = some (.tup xs) → (upd (upd H7 Gn (.lst ((g'.set x true).map V.bl))) Gn (.lst (((g'.set x true).set (F x) true).map V.bl))) b = some (.tup xs) := fun b xs e => k8 b _ (ne_of e hG6 (by intro z; cases z)) e
          refine ⟨_, _, rfl, k8 _ _ nRG hR6, hA6.mono kT, kT _ _ hu6, upd_same, ?_, fun b o e => k8 _ _ (ne_of_none e hG0) (s6 _ _ e)⟩
          rw [List.take_succ, hx, Option.toList_some]
          exact g6.step xl fl
        · rintro σ H6 ⟨v6', g', rfl, hR6, hA6, hu6, hG6, g6, s6⟩
          rw [rl, List.take_of_length_le (by rw [rnd_len]; exact Nat.le_refl _)] at g6
          refine ⟨_, rfl, .inl ⟨rfl, _, SqL.of hR6⟩, _, rfl, R, _, _, rfl, rfl, hR6, small1000 ?_, ?_⟩
          · rw [List.length_map, hA4.len]
            have nd2 : (rs.map (·.1)).Nodup := by
              unfold List.Nodup
              rw [List.pairwise_map]
              exact R4.up.imp fun h => Nat.ne_of_lt h
            have := pigeon i (rs.map (·.1)) nd2 fun x hx => by
              obtain ⟨p, hp, rfl⟩ := List.mem_map.mp hx
              exact R4.low p hp
            rw [List.length_map] at this
            omega
          · have k7 : ∀ b xs, H6 b = some (.tup xs) → (upd H6 R (.lst (refs as ++ [V.ref u]))) b = some (.tup xs) := fun b xs e => (upd_ne (ne_of e hR6 (by intro z; cases z))).trans e
            refine ⟨_, _, _, as ++ [u], rs ++ [(i, kk)], g', rfl, by rw [upd_same, refs_app]; rfl, (hA6.mono k7).app (.cons (k7 _ _ hu6) .nil), R4.more I hW hi ng per, (upd_ne (Ne.symm nRG)).trans hG6, g6.done I hW hi, fun b o e => ?_⟩
            rw [upd_ne (ne_of_none e hR)]
            exact s6 _ _ e
    · rintro σ H4 ⟨v4, v5, v6, as, rs, g, rfl, hR4, hA4, R4, hG4, g4, s4⟩
      refine ⟨_, rfl, .inl ⟨R, _, rfl, SqL.of hR4, fun u hu => ?_⟩⟩
      have su := Same.new (o := .tup (refs as)) hu
      exact k _ u as rs (s4.trans su) upd_same (hA4.mono (sameT su)) R4.done
end
end One
end P_Y2

section P_Y3
set_option linter.all false
set_option maxRecDepth 100000
set_option maxHeartbeats 8000000
namespace One
open PySem PySem.Spec PyProof.Rows L2
abbrev sWF : Stmt := top 25
abbrev nWF : List Str := ["thing", "many", "is_draft", "number", "way"]
theorem scWF : FnScope nWF ["thing", "many", "is_draft"] (defScope sWF) := ⟨rfl, rfl, rfl, by decide +kernel, rfl, by decide +kernel, by decide +kernel⟩
/-- a way, or, of a draft, none -/
def okW (isd : Bool) (v : V) : Bool := belowV v 3 || (isd && decide (v = .non))
def spWays : Sp := fun vs H Q _ => ∃ (v : V) (T : String) (n : Nat) (isd : Bool), vs = [v, .int (n : Nat), .bl isd] ∧ TV H v T ∧
  (((∀ t xs, v = .ref t → H t = some (.tup xs) → xs.length ≠ n) ∧ ∀ (H' : Hp) (p : Addr), Same H H' → H' p = some (.tup []) → Q (.ref p) H') ∨
   ∃ (t : Addr) (xs : List V), v = .ref t ∧ H t = some (.tup xs) ∧ xs.length = n ∧ (∀ x ∈ xs, ∃ T, TV H x T) ∧ (xs.all (okW isd) = true → ∀ H', Same H H' → Q .non H') ∧
     ∀ (i : Nat) (x : V), xs[i]? = some x → okW isd x = false → (xs.take i).all (okW isd) = true → ∀ (H' : Hp) (p : Addr), Same H H' → H' p = some (.tup [.int (i : Nat)]) → Q (.ref p) H')
section
variable {P : Program} {w : World} {K : PySem.W.Frag} {mg : Str → Option Value} {base : Heap}
theorem ok_ways {f fB : Addr} {fd fdB : FuncData} (F : Fun K "ways_fault" "ways_fault" sWF f fd) (T : TB mg) (w3 : ∃ t, mg "MANY_WAYS" = some (.int 3 t)) (B : Cal K mg "is_below" fB fdB ["thing", "many"]) (GB : FnOk P w K mg base CX0 2 fB fdB ["thing", "many"] spIsBelow) :
    FnOk P w K mg base CX0 3 f fd ["thing", "many", "is_draft"] spWays := by
  refine F.ok scWF (fun vs H Q E h => ?_) (fun cdv A outer s H vs Q E hr h => ?_)
  · obtain ⟨v, Tt, n, isd, rfl, _⟩ := h
    rfl
  · obtain ⟨v, Tt, n, isd, rfl, hv, hc⟩ := h
    have nd := scWF.nd
    have hr2 : Room 2 _ := hr
    obtain ⟨u3, ht3⟩ := w3
    refine ⟨_, pss_cons (ps_if (PW.pt (pw_or (pt_not (pt_val (pe_callB call_isi (by rfl) T.isinstance boot_isinstance (pa_cons (pv 0) (pa_cons (pe_bltn (v := .ty "tuple") (by rfl) T.tuple boot_tuple rfl) pa_nil))))) (pw_or1 (pt_cmpR op_ne (pe_callB call_len_seq (by rfl) T.len PySem.boot_len (pa_cons (pv 0) pa_nil)) (pv 1) (nomark _))))) (pss_one (ps_ret (pe_tup pa_nil))) pss_nil)
      (pss_cons (ps_for PassesOwn.never rfl (pi_enumT (by rfl) T.enumerate (pa_cons (pv 0) pa_nil)) (pg_tup rfl (pgs_cons (pg_name (i := 3) nd rfl (Or.inl rfl)) (pgs_cons (pg_name (i := 4) nd rfl (Or.inl rfl)) pgs_nil)))
        (pss_one (ps_if (PW.pt (pw_and (pt_not (pt_val (pe_call GB hr2 rfl B.g B.kp B.b .nil pass0 (pa_cons (pv 4) (pa_cons (pe_glob (v := .int 3) rfl ht3 ⟨_, rfl⟩) pa_nil))))) (pw_and1 (pt_not (PW.pt (pw_and (pt_val (pv 2)) (pw_and1 (pt_cmpR op_isN (pv 4) pe_non (nomark _))))))))) (pss_one (ps_ret (pe_tup (pa_cons (pv 3) pa_nil)))) pss_nil)))
      (pss_one (ps_ret pe_non))), ?_⟩
    refine ⟨_, rfl, _, _, _, _, _, rfl, .ty _, hv.tyx, hv.kTup, _, rfl, ?_⟩
    rcases hc with ⟨hno, k⟩ | ⟨t, xs, rfl, ht, hl, hx, kgood, kbad⟩
    · cases hT : isTup Tt with
      | false => exact iteT (iteT ⟨Nat.zero_le _, fun p hp => k _ p (Same.new hp) upd_same⟩)
      | true =>
        obtain ⟨t, xs, rfl, ht⟩ : ∃ t xs, v = .ref t ∧ H t = some (.tup xs) := by
          cases hv with
          | @tup a xs e => exact ⟨a, xs, rfl, e⟩
          | non => exact absurd hT (by decide)
          | bl b => exact absurd hT (by decide)
          | int i => exact absurd hT (by decide)
          | str x => exact absurd hT (by decide)
          | lst e => exact absurd hT (by decide)
          | dct e => exact absurd hT (by decide)
        have hne := hno t xs rfl ht
        refine iteF ⟨_, rfl, t, _, rfl, .inr (SqT.of ht), _, rfl, rfl, _, rfl, ?_⟩
        have e : decide (V.int (xs.length : Nat) = V.int (n : Nat)) = false := decide_eq_false fun z => hne (by
          have := V.int.inj z
          omega)
        rw [e]
        exact iteT ⟨Nat.zero_le _, fun p hp => k _ p (Same.new hp) upd_same⟩
    · have eT : isTup Tt = true := by
        cases hv with
        | tup e => rfl
        | lst e => cases ht.symm.trans e
        | dct e => cases ht.symm.trans e
      rw [eT]
      refine iteF ⟨_, rfl, t, _, rfl, .inr (SqT.of ht), _, rfl, rfl, _, rfl, ?_⟩
      have e : decide (V.int (xs.length : Nat) = V.int (n : Nat)) = true := decide_eq_true (by rw [hl])
      rw [e]
      refine iteF ?_
      refine ⟨_, rfl, t, _, rfl, SqT.of ht, for_it (walk_enumT (K := K) (a := t) (xs := xs)) (fun i σ H2 => ∃ v3 v4 : Option V, σ = [some (.ref t), some (.int (n : Nat)), some (.bl isd), v3, v4] ∧ Same H H2 ∧ (xs.take i).all (okW isd) = true) ⟨none, none, rfl, Same.refl H, rfl⟩ (fun i σ H2 _ ⟨_, _, _, s', _⟩ => SqT.of (s' _ _ ht)) ?_ ?_⟩
      · rintro i x σ H2 H3 hi ⟨v3, v4, rfl, s2, a2⟩ ⟨q, x', y', rfl, hq, rfl, ex, ey⟩
        cases ex
        have ey : xs[i]? = some y' := ey
        have s3 := Same.new (o := .tup [V.int (i : Nat), y']) hq
        have sA := s2.trans s3
        obtain ⟨Ty, hy⟩ := hx y' (List.mem_of_getElem? ey)
        refine ⟨q, _, rfl, SqT.of upd_same, rfl, _, _, rfl, _, _, rfl, rfl, ?_⟩
        generalize upd H2 q (.tup [V.int (i : Nat), y']) = H3 at sA
        have a3 : okW isd y' = true → (xs.take (i + 1)).all (okW isd) = true := fun h => by
          rw [List.take_succ, ey, Option.toList_some, List.all_append, a2]
          show (true && (okW isd y' && true)) = true
          rw [h]
          rfl
        refine ⟨_, rfl, y', 3, Ty, rfl, hy.mono sA, _, rfl, ?_⟩
        cases hb : belowV y' 3 with
        | true =>
          refine iteF (iteF ?_)
          exact ⟨_, _, rfl, sA, a3 (by unfold okW; rw [hb]; rfl)⟩
        | false =>
          refine iteT ⟨_, rfl, isd, rfl, ?_⟩
          cases hd : isd with
          | false =>
            refine iteF (iteT ?_)
            subst hd
            refine ⟨_, rfl, (by show 1 ≤ sizeLine; decide), fun p hp => kbad i y' ey ?_ a2 _ p (sA.trans (Same.new hp)) upd_same⟩
            unfold okW
            rw [hb]
            rfl
          | true =>
            subst hd
            refine iteT ⟨_, rfl, rfl, _, rfl, ?_⟩
            cases hn : decide (y' = V.non) with
            | true =>
              refine iteF ?_
              exact ⟨_, _, rfl, sA, a3 (by unfold okW; rw [hb, hn]; rfl)⟩
            | false =>
              refine iteT ?_
              refine ⟨_, rfl, (by show 1 ≤ sizeLine; decide), fun p hp => kbad i y' ey ?_ a2 _ p (sA.trans (Same.new hp)) upd_same⟩
              unfold okW
              rw [hb, hn]
              rfl
      · rintro σ H2 ⟨v3, v4, rfl, s2, a2⟩
        rw [List.take_length] at a2
        exact kgood a2 _ s2
end
end One
end P_Y3

section P_Y4
set_option linter.all false
set_option maxRecDepth 100000
set_option maxHeartbeats 8000000
namespace One
open PySem PySem.Spec PyProof.Rows L2
abbrev sNS : Stmt := top 24
abbrev sRO : Stmt := top 26
abbrev sMR : Stmt := top 30
abbrev nNS : List Str := ["yard", "thing", "place"]
abbrev nRO : List Str := ["yard", "setting"]
abbrev nMR : List Str := ["yard", "setting"]
theorem scNS : FnScope nNS ["yard", "thing"] (defScope sNS) := ⟨rfl, rfl, rfl, by decide +kernel, rfl, by decide +kernel, by decide +kernel⟩
theorem scRO : FnScope nRO ["yard", "setting"] (defScope sRO) := ⟨rfl, rfl, rfl, by decide +kernel, rfl, by decide +kernel, by decide +kernel⟩
theorem scMR : FnScope nMR ["yard", "setting"] (defScope sMR) := ⟨rfl, rfl, rfl, by decide +kernel, rfl, by decide +kernel, by decide +kernel⟩
/-- it is raised, with that place -/
def RWrong (C : Addr) (E : XK) (H : Hp) (ns : List Nat) : Prop := ∀ (H' : Hp) (p d : Addr), Same H H' → H' p = some (.tup (nats ns)) → H' d = some (.xd [("place", .ref p)]) → E (.ref C) (some d) H'
/-- ways are looked at: let by, or refused -/
def LookW (C : Addr) (isd : Bool) (v : V) (m : Nat) (H : Hp) (Q : Hp → Prop) (E : XK) : Prop :=
  ((∀ t xs, v = .ref t → H t = some (.tup xs) → xs.length ≠ m) ∧ RWrong C E H []) ∨
   ∃ (t : Addr) (xs : List V), v = .ref t ∧ H t = some (.tup xs) ∧ xs.length = m ∧ (∀ x ∈ xs, ∃ T, TV H x T) ∧ (xs.all (okW isd) = true → ∀ H', Same H H' → Q H') ∧
     ∀ (i : Nat) (x : V), xs[i]? = some x → okW isd x = false → (xs.take i).all (okW isd) = true → RWrong C E H [i]
def spNS (CS : Addr) : Sp := fun vs H Q E => ∃ (y : Addr) (v : V) (T : String) (m : Nat) (ps : List (Nat × Nat)), vs = [.ref y, v] ∧ YAt H y m ps ∧ m ≤ 40 ∧ TV H v T ∧ LookW CS false v m H (fun H' => Q v H') E
def spRO (CS : Addr) : Sp := fun vs H Q E => ∃ (y : Addr) (v : V) (T : String) (m : Nat) (ps : List (Nat × Nat)), vs = [.ref y, v] ∧ YAt H y m ps ∧ m ≤ 40 ∧ TV H v T ∧ LookW CS false v m H (fun H' => ∃ (t : Addr) (ws : List Nat), v = .ref t ∧ SetAt H' t m ws ∧
  ∀ (H'' : Hp) (u : Addr) (as : List Addr) (rs : List (Nat × Nat)), Same H' H'' → H'' u = some (.tup (refs as)) → RsAt (nextE (far ps) (wayL ws)) H'' as rs → Rounds (far ps) (wayL ws) m rs → Q (.ref u) H'') E
theorem LookW.mono {C : Addr} {isd : Bool} {v : V} {m : Nat} {H : Hp} {Q Q' : Hp → Prop} {E : XK} (h : LookW C isd v m H Q E) (k : ∀ H', Same H H' → Q H' → Q' H') : LookW C isd v m H Q' E := by
  rcases h with h | ⟨t, xs, h1, h2, h3, h4, h5, h6⟩
  · exact .inl h
  · exact .inr ⟨t, xs, h1, h2, h3, h4, fun a H' s => k H' s (h5 a H' s), h6⟩
theorem LookW.to {C : Addr} {isd : Bool} {v : V} {m : Nat} {H H1 : Hp} {Q : Hp → Prop} {E : XK} {T : String} (hv : TV H v T) (h : LookW C isd v m H Q E) (s : Same H H1) : LookW C isd v m H1 Q E := by
  rcases h with ⟨h1, h2⟩ | ⟨t, xs, h1, h2, h3, h4, h5, h6⟩
  · refine .inl ⟨fun t xs e ht => ?_, fun H' p d s' => h2 H' p d (s.trans s')⟩
    subst e
    cases hv with
    | @tup a ys e =>
      have := s _ _ e
      rw [ht] at this
      cases this
      exact h1 t _ rfl e
    | lst e => cases ht.symm.trans (s _ _ e)
    | dct e => cases ht.symm.trans (s _ _ e)
  · exact .inr ⟨t, xs, h1, s _ _ h2, h3, fun x hx => (h4 x hx).imp fun T h => h.mono s, fun a H' s' => h5 a H' (s.trans s'), fun i x a b c H' p d s' => h6 i x a b c H' p d (s.trans s')⟩
theorem nats_of_ok : ∀ {xs : List V}, xs.all (okW false) = true → ∃ ws : List Nat, xs = nats ws ∧ ∀ x ∈ ws, x < 3
  | [], _ => ⟨[], rfl, fun x h => absurd h (by simp)⟩
  | v :: xs, h => by
    have h : (okW false v && xs.all (okW false)) = true := h
    rw [Bool.and_eq_true] at h
    obtain ⟨ws, e, hw⟩ := nats_of_ok h.2
    have hb : belowV v 3 = true := by
      have := h.1
      unfold okW at this
      rw [Bool.false_and, Bool.or_false] at this
      exact this
    cases v with
    | int i =>
      have hb : (decide (0 ≤ i) && decide (i < 3)) = true := hb
      simp only [Bool.and_eq_true, decide_eq_true_eq] at hb
      refine ⟨i.toNat :: ws, ?_, fun x hx => ?_⟩
      · rw [e]
        show V.int i :: nats ws = V.int ((i.toNat : Nat) : Int) :: nats ws
        rw [show ((i.toNat : Nat) : Int) = i by omega]
      · rcases List.mem_cons.mp hx with rfl | hx
        · omega
        · exact hw x hx
    | _ => exact nof hb
section
variable {P : Program} {w : World} {K : PySem.W.Frag} {mg : Str → Option Value} {base : Heap} {C0 CS f3 : Addr} {x3 : Stmt}
theorem ok_ns {f fW fC : Addr} {fd fdW fdC : FuncData} (F : Fun K "need_setting" "need_setting" sNS f fd) (T3 : OwnTxt P K x3 "place" CS f3) (O3 : OwnCls K mg "BadSetting" CS f3) (noS : mg "super" = none) (Fa : Cal K mg "ways_fault" fW fdW ["thing", "many", "is_draft"]) (GF : FnOk P w K mg base CX0 3 fW fdW ["thing", "many", "is_draft"] spWays)
    (C : Cal K mg "crossings" fC fdC ["yard"]) (GC : FnOk P w K mg base (L2.CX P w) 6 fC fdC ["yard"] (spCross C0)) : FnOk P w K mg base (L2.CX P w) 7 f fd ["yard", "thing"] (spNS CS) := by
  refine F.okX scNS (fun vs H Q E h => ?_) (fun cdv A outer s H vs Q E hr h => ?_)
  · obtain ⟨y, v, T, m, ps, rfl, _⟩ := h
    rfl
  · obtain ⟨y, v, Tv, m, ps, rfl, hY, h40, hv, hl⟩ := h
    have nd := scNS.nd
    have hr6 : Room 6 _ := hr
    have hr3 : Room 3 _ := hr.mono (by decide)
    refine ⟨_, pss_cons (ps_set (i := 2) nd rfl (Or.inl rfl) (pe_call GF hr3 rfl Fa.g Fa.kp Fa.b .nil pass0 (pa_cons (pv 1) (pa_cons (pe_call GC hr6 rfl C.g C.kp C.b .nil passL (pa_cons (pv 0) pa_nil)) (pa_cons pe_bl pa_nil)))))
      (pss_cons (ps_if (pt_cmpR op_notN (pv 2) pe_non (nomark _)) (pss_one (ps_raiseX rfl (Or.inl rfl) T3 O3 noS hr (takes_of rfl rfl rfl rfl) (pa_cons (pv 2) pa_nil) (by rfl))) pss_nil)
      (pss_one (ps_ret (pv 1)))), ?_⟩
    obtain ⟨Y, as, ht, hP⟩ := id hY
    have hlen : (refs as).length = 2 * m := by rw [List.length_map, hP.len, Y.lines.len]
    refine ⟨_, rfl, _, rfl, _, rfl, ?_⟩
    unfold tNil
    refine fault_good hY h40 fun H1 s1 => .inl ⟨rfl, y, refs as, rfl, s1 _ _ ht, ?_⟩
    rw [show (refs as).length / 2 = m by omega]
    have short : ∀ (H2 : Hp) (p : Addr) (ns : List Nat), Same H1 H2 → H2 p = some (.tup (nats ns)) → ns.length ≤ 100 → (∀ n ∈ ns, n < 1000) → RWrong CS E H1 ns → ∀ (d : Addr), H2 d = none → E (.ref CS) (some d) (upd H2 d (.xd [("place", .ref p)])) := fun H2 p ns s2 hp _ _ hW d hd =>
      hW _ p d (s2.trans (Same.new hd)) ((Same.new hd) _ _ hp) upd_same
    rcases hl.to hv s1 with ⟨h1, h2⟩ | ⟨t, xs, rfl, hxs, hlx, hT, kg, kb⟩
    · refine ⟨v, Tv, m, false, rfl, hv.mono s1, .inl ⟨h1, fun H2 p s2 hp => ?_⟩⟩
      exact ⟨_, rfl, rfl, _, rfl, iteT ⟨_, rfl, _, rfl, .tup [] (SqT.of hp) (Nat.zero_le _) (fun n h => absurd h (by simp)), fun d hd => short H2 p [] s2 hp (Nat.zero_le _) (fun n h => absurd h (by simp)) h2 d hd⟩⟩
    · refine ⟨_, Tv, m, false, rfl, hv.mono s1, .inr ⟨t, xs, rfl, hxs, hlx, hT, fun a H2 s2 => ?_, fun i x hx ho ha H2 p s2 hp => ?_⟩⟩
      · exact ⟨_, rfl, rfl, _, rfl, iteF ⟨_, rfl, kg a _ s2⟩⟩
      · have hi : i < 40 := by
          have := (List.getElem?_eq_some_iff.mp hx).1
          omega
        have hp' : H2 p = some (.tup (nats [i])) := hp
        have sm : ∀ n ∈ [i], n < 1000 := fun n h => by
          rw [List.mem_singleton.mp h]
          omega
        exact ⟨_, rfl, rfl, _, rfl, iteT ⟨_, rfl, _, rfl, .tup [i] (SqT.of hp') (by show 1 ≤ 100; decide) sm, fun d hd => short H2 p [i] s2 hp' (by show 1 ≤ 100; decide) sm (kb i x hx ho ha) d hd⟩⟩
theorem ok_ro {f fN fR fF : Addr} {fd fdN fdR fdF : FuncData} (F : Fun K "rounds_of" "rounds_of" sRO f fd) (N : Cal K mg "need_setting" fN fdN ["yard", "thing"]) (GN : FnOk P w K mg base (L2.CX P w) 7 fN fdN ["yard", "thing"] (spNS CS))
    (Rb : Cal K mg "rounds_by_fars" fR fdR ["fars", "setting"]) (GR : FnOk P w K mg base CX0 4 fR fdR ["fars", "setting"] spRB) (Fa : Cal K mg "fars_of_lines" fF fdF ["lines"]) (GF : FnOk P w K mg base CX0 1 fF fdF ["lines"] spFars) : FnOk P w K mg base (L2.CX P w) 8 f fd ["yard", "setting"] (spRO CS) := by
  refine F.okX scRO (fun vs H Q E h => ?_) (fun cdv A outer s H vs Q E hr h => ?_)
  · obtain ⟨y, v, T, m, ps, rfl, _⟩ := h
    rfl
  · obtain ⟨y, v, Tv, m, ps, rfl, hY, h40, hv, hl⟩ := h
    have nd := scRO.nd
    have hr7 : Room 7 _ := hr
    have hr4 : Room 4 _ := hr.mono (by decide)
    have hr1 : Room 1 _ := hr.mono (by decide)
    refine ⟨_, pss_cons (ps_expr (pe_call GN hr7 rfl N.g N.kp N.b .nil (passes_call (takes_of rfl rfl rfl rfl) (fun _ _ _ _ h => h)) (pa_cons (pv 0) (pa_cons (pv 1) pa_nil))))
      (pss_one (ps_ret (pe_call GR hr4 rfl Rb.g Rb.kp Rb.b .nil pass0 (pa_cons (pe_call GF hr1 rfl Fa.g Fa.kp Fa.b .nil pass0 (pa_cons (pv 0) pa_nil)) (pa_cons (pv 1) pa_nil))))), ?_⟩
    obtain ⟨Y, as, ht, hP⟩ := id hY
    refine ⟨_, rfl, _, rfl, y, v, Tv, m, ps, rfl, hY, h40, hv, hl.mono fun H1 s1 ⟨t, ws, ev, hS, k⟩ => ?_⟩
    subst ev
    refine ⟨_, rfl, y, m, as, ps, rfl, s1 _ _ ht, hP.mono (sameT s1), Y.lines, by omega, fun H2 L s2 _ hL => ?_⟩
    exact ⟨_, rfl, L, t, far ps, m, ws, rfl, hL, hS.mono (sameT s2), far_inv Y.lines, by omega, fun H3 u bs rs s3 hu hR hr' => k H3 u bs rs (s2.trans s3) hu hR hr'⟩
end
end One
end P_Y4

section P_Y5
set_option linter.all false
set_option maxRecDepth 100000
set_option maxHeartbeats 8000000
namespace One
open PySem PySem.Spec PyProof.Rows L2
abbrev sRA : Stmt := top 31
abbrev nRA : List Str := ["yard", "setting", "end", "fars", "ends", "least", "one"]
theorem scRA : FnScope nRA ["yard", "setting", "end"] (defScope sRA) := ⟨rfl, rfl, rfl, by decide +kernel, rfl, by decide +kernel, by decide +kernel⟩
def spMR (CS : Addr) : Sp := fun vs H Q E => ∃ (y : Addr) (v : V) (T : String) (m : Nat) (ps : List (Nat × Nat)), vs = [.ref y, v] ∧ YAt H y m ps ∧ m ≤ 40 ∧ TV H v T ∧ LookW CS false v m H (fun H' => ∃ (t : Addr) (ws : List Nat), v = .ref t ∧ SetAt H' t m ws ∧
  ∀ (H'' : Hp) (rs : List (Nat × Nat)), Same H' H'' → Rounds (far ps) (wayL ws) m rs → Q (.int (rs.length : Nat)) H'') E
def spRA (CS CE : Addr) : Sp := fun vs H Q E => ∃ (y : Addr) (v e : V) (T Te : String) (m : Nat) (ps : List (Nat × Nat)), vs = [.ref y, v, e] ∧ YAt H y m ps ∧ m ≤ 40 ∧ TV H v T ∧ TV H e Te ∧ LookW CS false v m H (fun H' => ∃ (t : Addr) (ws : List Nat), v = .ref t ∧ SetAt H' t m ws ∧
  (belowV e (4 * m : Nat) = false → RWrong CE E H' []) ∧ ∀ (j : Nat), e = .int (j : Nat) → j < 4 * m → ∀ (H'' : Hp) (u : Addr) (s k : Nat), Same H' H'' → H'' u = some (.tup (nats (rnd (nextE (far ps) (wayL ws)) s k))) → s < 4 * m → Per (nextE (far ps) (wayL ws)) s k →
    (∀ x ∈ rnd (nextE (far ps) (wayL ws)) s k, s ≤ x ∧ s ≤ far ps x) → (j ∈ rnd (nextE (far ps) (wayL ws)) s k ∨ far ps j ∈ rnd (nextE (far ps) (wayL ws)) s k) → Q (.ref u) H'') E
def rMin2 : List V → Hp → VK → Prop := fun xs H Q => ∃ i j : Int, xs = [.int i, .int j] ∧ Q (.int (if j < i then j else i)) H
theorem min2b {X : Cx} (hc : X.calm = true) : CallR X (.builtin "min") rMin2 := call_min2 hc
theorem nats_ints (ns : List Nat) : nats ns = (ns.map fun x => ((x : Nat) : Int)).map V.int := by
  rw [List.map_map]
  rfl
section
variable {P : Program} {w : World} {K : PySem.W.Frag} {mg : Str → Option Value} {base : Heap} {C0 CS CE f2 : Addr} {x2 : Stmt}
theorem ok_mr {f fO : Addr} {fd fdO : FuncData} (F : Fun K "many_rounds" "many_rounds" sMR f fd) (T : TB mg) (O : Cal K mg "rounds_of" fO fdO ["yard", "setting"]) (GO : FnOk P w K mg base (L2.CX P w) 8 fO fdO ["yard", "setting"] (spRO CS)) : FnOk P w K mg base (L2.CX P w) 9 f fd ["yard", "setting"] (spMR CS) := by
  refine F.okX scMR (fun vs H Q E h => ?_) (fun cdv A outer s H vs Q E hr h => ?_)
  · obtain ⟨y, v, T, m, ps, rfl, _⟩ := h
    rfl
  · obtain ⟨y, v, Tv, m, ps, rfl, hY, h40, hv, hl⟩ := h
    have hr8 : Room 8 _ := hr
    refine ⟨_, pss_one (ps_ret (pe_callB call_len_seq (by rfl) T.len PySem.boot_len (pa_cons (pe_call GO hr8 rfl O.g O.kp O.b .nil (passes_call (takes_of rfl rfl rfl rfl) (fun _ _ _ _ h => h)) (pa_cons (pv 0) (pa_cons (pv 1) pa_nil))) pa_nil))), ?_⟩
    refine ⟨_, rfl, _, rfl, y, v, Tv, m, ps, rfl, hY, h40, hv, hl.mono fun H1 s1 ⟨t, ws, ev, hS, k⟩ => ⟨t, ws, ev, hS, fun H2 u as rs s2 hu hR hr' => ?_⟩⟩
    refine ⟨u, _, rfl, .inr (SqT.of hu), ?_⟩
    rw [List.length_map, hR.len]
    exact k H2 rs s2 hr'
theorem ok_ra {f fN fR fF fB : Addr} {fd fdN fdR fdF fdB : FuncData} (F : Fun K "round_at" "round_at" sRA f fd) (T : TB mg) (hmin : mg "min" = none) (T2 : OwnTxt P K x2 "place" CE f2) (O2 : OwnCls K mg "BadEnd" CE f2) (noS : mg "super" = none)
    (N : Cal K mg "need_setting" fN fdN ["yard", "thing"]) (GN : FnOk P w K mg base (L2.CX P w) 7 fN fdN ["yard", "thing"] (spNS CS)) (Rf : Cal K mg "round_from" fR fdR ["fars", "setting", "start"]) (GR : FnOk P w K mg base CX0 3 fR fdR ["fars", "setting", "start"] spRF)
    (Fa : Cal K mg "fars_of_lines" fF fdF ["lines"]) (GF : FnOk P w K mg base CX0 1 fF fdF ["lines"] spFars) (B : Cal K mg "is_below" fB fdB ["thing", "many"]) (GB : FnOk P w K mg base CX0 2 fB fdB ["thing", "many"] spIsBelow) : FnOk P w K mg base (L2.CX P w) 8 f fd ["yard", "setting", "end"] (spRA CS CE) := by
  refine F.okX scRA (fun vs H Q E h => ?_) (fun cdv A outer s H vs Q E hr h => ?_)
  · obtain ⟨y, v, e, T, Te, m, ps, rfl, _⟩ := h
    rfl
  · obtain ⟨y, v, e, Tv, Te, m, ps, rfl, hY, h40, hv, he, hl⟩ := h
    have nd := scRA.nd
    have hr7 : Room 7 _ := hr
    have hr3 : Room 3 _ := hr.mono (by decide)
    have hr2 : Room 2 _ := hr.mono (by decide)
    have hr1 : Room 1 _ := hr.mono (by decide)
    refine ⟨_, pss_cons (ps_expr (pe_call GN hr7 rfl N.g N.kp N.b .nil (passes_call (takes_of rfl rfl rfl rfl) (fun _ _ _ _ h => h)) (pa_cons (pv 0) (pa_cons (pv 1) pa_nil))))
      (pss_cons (ps_set (i := 3) nd rfl (Or.inr rfl) (pe_call GF hr1 rfl Fa.g Fa.kp Fa.b .nil pass0 (pa_cons (pv 0) pa_nil)))
      (pss_cons (ps_if (pt_not (pt_val (pe_call GB hr2 rfl B.g B.kp B.b .nil pass0 (pa_cons (pv 2) (pa_cons (pe_callB call_len_seq (by rfl) T.len PySem.boot_len (pa_cons (pv 3) pa_nil)) pa_nil))))) (pss_one (ps_raiseX rfl (Or.inl rfl) T2 O2 noS hr (takes_of rfl rfl rfl rfl) (pa_cons (pe_tup pa_nil) pa_nil) (by rfl))) pss_nil)
      (pss_cons (ps_set (i := 4) nd rfl (Or.inl rfl) (pe_call GR hr3 rfl Rf.g Rf.kp Rf.b .nil pass0 (pa_cons (pv 3) (pa_cons (pv 1) (pa_cons (pv 2) pa_nil)))))
      (pss_cons (ps_set (i := 5) nd rfl (Or.inl rfl) (pe_callB (cr_min rfl) (by rfl) hmin boot_min (pa_cons (pe_lc (own := [("one", 6)]) (g := gName 6) (tt := tYes) (te := tCB rMin2 (tCons (tVar 6) (tCons (tOp (rIxL K) (tVar 3) (tVar 6)) tNil))) rfl nd (pi_tup (pv 4)) (blkOk_by (N := nRA) (sc := defScope sRA) (by decide +kernel)) (fun _ _ _ _ _ => pg_name (i := 6) nd rfl (Or.inl rfl)) (fun _ _ _ _ _ => pts_nil) (fun _ _ _ _ _ => by exact pe_callB (min2b rfl) (by rfl) hmin boot_min (pa_cons (pv 6) (pa_cons (pe_ix ix_list (pv 3) (pv 6) (fun _ _ => rfl)) pa_nil)))) pa_nil)))
      (pss_one (ps_ret (pe_call GR hr3 rfl Rf.g Rf.kp Rf.b .nil pass0 (pa_cons (pv 3) (pa_cons (pv 1) (pa_cons (pv 5) pa_nil)))))))))), ?_⟩
    obtain ⟨Y, as, ht, hP⟩ := id hY
    refine ⟨_, rfl, _, rfl, y, v, Tv, m, ps, rfl, hY, h40, hv, hl.mono fun H1 s1 ⟨t, ws, ev, hS, kbad, k⟩ => ?_⟩
    subst ev
    have I := far_inv Y.lines
    have hW := hS.ways
    refine ⟨_, rfl, y, m, as, ps, rfl, s1 _ _ ht, hP.mono (sameT s1), Y.lines, by omega, fun H2 L s2 _ hL => ?_⟩
    have s12 := s1.trans s2
    refine ⟨_, rfl, _, rfl, L, _, rfl, .inl (SqL.of hL), e, _, Te, rfl, he.mono s12, ?_⟩
    rw [farL_len]
    refine ⟨_, rfl, ?_⟩
    cases hb : belowV e (4 * m : Nat) with
    | false =>
      refine iteT ⟨Nat.zero_le _, fun p hp => ⟨_, rfl, .tup [] (SqT.of upd_same) (Nat.zero_le _) (fun n h => absurd h (by simp)), fun d hd => ?_⟩⟩
      exact kbad hb _ p d (s2.trans ((Same.new hp).trans (Same.new hd))) ((Same.new hd) _ _ upd_same) upd_same
    | true =>
      obtain ⟨j, rfl, hj⟩ : ∃ j : Nat, e = .int (j : Nat) ∧ j < 4 * m := by
        cases e with
        | int i =>
          have hb : (decide (0 ≤ i) && decide (i < ((4 * m : Nat) : Int))) = true := hb
          simp only [Bool.and_eq_true, decide_eq_true_eq] at hb
          exact ⟨i.toNat, by rw [show ((i.toNat : Nat) : Int) = i by omega], by omega⟩
        | _ => exact nof hb
      refine iteF ⟨_, rfl, _, rfl, _, rfl, L, t, far ps, m, j, ws, rfl, hL, hS.mono (sameT s2), I, by omega, hj, fun H3 u kk s3 per hu => ?_⟩
      have s23 := s2.trans s3
      have hL3 := s3 _ _ hL
      have G := next_goes I hW
      refine ⟨_, rfl, u, rfl, ⟨_, SqT.of hu⟩, fun D hD => ?_⟩
      have sD := Same.new (o := .lst []) hD
      have rl : (nats (rnd (nextE (far ps) (wayL ws)) j kk)).length = kk := by rw [List.length_map, rnd_len]
      refine lc_it (walk_tup (K := K) (a := u) (xs := nats (rnd (nextE (far ps) (wayL ws)) j kk))) (fun i H6 => H6 D = some (.lst (nats (((rnd (nextE (far ps) (wayL ws)) j kk).take i).map fun x => min x (far ps x)))) ∧ Same H3 H6) ⟨upd_same, sD⟩ (fun i H6 _ h => SqT.of (h.2 _ _ hu)) ?_ ?_
      · rintro i x H6 H7 hi ⟨h6, s6⟩ ⟨rfl, hx⟩
        have hx : (nats (rnd (nextE (far ps) (wayL ws)) j kk))[i]? = some x := hx
        rw [rl] at hi
        have hir : i < (rnd (nextE (far ps) (wayL ws)) j kk).length := by rw [rnd_len]; exact hi
        rw [List.getElem?_map, List.getElem?_eq_getElem hir] at hx
        cases hx
        generalize hze : (rnd (nextE (far ps) (wayL ws)) j kk)[i] = z
        have hz : (rnd (nextE (far ps) (wayL ws)) j kk)[i]? = some z := by rw [List.getElem?_eq_getElem hir, hze]
        have zl : z < 4 * m := rnd_lt I hW hj (List.mem_of_getElem? hz)
        refine ⟨rfl, yes ⟨_, rfl, _, rfl, _, rfl, L, _, _, V.int (far ps z : Nat), rfl, rfl, SqL.of (s6 _ _ hL3), at_of (j := z) rfl (farL_at zl), _, _, rfl, _, h6, small1000 ?_, ?_, fun b o eo => ?_⟩⟩
        · rw [List.length_map, List.length_map, List.length_take]
          have := per.pos
          have hk : kk ≤ 4 * m := by
            have nd' := G.nodup hj kk per.first
            have := pigeon (4 * m) _ nd' fun x hx => rnd_lt I hW hj hx
            rw [rnd_len] at this
            exact this
          omega
        · rw [upd_same, List.take_succ, hz, Option.toList_some, List.map_append, nats_app]
          have em : (if ((far ps z : Nat) : Int) < ((z : Nat) : Int) then ((far ps z : Nat) : Int) else ((z : Nat) : Int)) = ((min z (far ps z) : Nat) : Int) := by
            split <;> omega
          rw [em]
          rfl
        · rw [upd_ne (ne_of_none eo hD)]
          exact s6 _ _ eo
      · rintro H6 ⟨h6, s6⟩
        rw [rl, List.take_of_length_le (by rw [rnd_len]; exact Nat.le_refl _)] at h6
        rw [nats_ints] at h6
        refine ⟨D, _, rfl, SqL.of h6, ?_, fun M hM hmin' => ?_⟩
        · rw [List.length_map, List.length_map, rnd_len]
          exact per.pos
        · obtain ⟨l, hl', rfl⟩ := List.mem_map.mp hM
          obtain ⟨z, hz, rfl⟩ := List.mem_map.mp hl'
          have zl : z < 4 * m := rnd_lt I hW hj hz
          have fl := I.lt z zl
          have ll : min z (far ps z) < 4 * m := by omega
          obtain ⟨k2, per2, hk2⟩ := G.per ll
          -- the least end of the lines
          have small : ∀ x ∈ rnd (nextE (far ps) (wayL ws)) j kk, min z (far ps z) ≤ x ∧ min z (far ps z) ≤ far ps x := fun x hx => by
            have := hmin' ((min x (far ps x) : Nat) : Int) (List.mem_map.mpr ⟨_, List.mem_map.mpr ⟨x, hx, rfl⟩, rfl⟩)
            omega
          obtain ⟨bper, bmem⟩ := far_round I hW hj per
          have cls : (∀ x ∈ rnd (nextE (far ps) (wayL ws)) (min z (far ps z)) k2, min z (far ps z) ≤ x ∧ min z (far ps z) ≤ far ps x) ∧ (j ∈ rnd (nextE (far ps) (wayL ws)) (min z (far ps z)) k2 ∨ far ps j ∈ rnd (nextE (far ps) (wayL ws)) (min z (far ps z)) k2) := by
            by_cases hc : z ≤ far ps z
            · have e1 : min z (far ps z) = z := by omega
              rw [e1] at small per2 ⊢
              refine ⟨fun x hx => small x (Per.same G zl hj per2 per (self_rnd per2) hz x hx), .inl (Per.same G hj zl per per2 hz (self_rnd per2) j (self_rnd per))⟩
            · have e1 : min z (far ps z) = far ps z := by omega
              rw [e1] at small per2 ⊢
              have hin : far ps z ∈ rnd (nextE (far ps) (wayL ws)) (far ps j) kk := (bmem _).mpr ⟨z, hz, rfl⟩
              refine ⟨fun x hx => ?_, .inr (Per.same G (I.lt j hj) fl bper per2 hin (self_rnd per2) _ (self_rnd bper))⟩
              obtain ⟨x2, hx2, ex⟩ := (bmem x).mp (Per.same G fl (I.lt j hj) per2 bper (self_rnd per2) hin x hx)
              obtain ⟨q1, q2⟩ := small x2 hx2
              have x2l : x2 < 4 * m := rnd_lt I hW hj hx2
              rw [ex] at q2
              have : far ps x = x2 := by rw [← ex, I.inv x2 x2l]
              rw [this]
              exact ⟨q2, q1⟩
          refine ⟨_, rfl, _, rfl, _, rfl, L, t, far ps, m, min z (far ps z), ws, rfl, s6 _ _ hL3, hS.mono (sameT (s23.trans s6)), I, by omega, ll, fun H8 u8 k8 s8 per8 hu8 => ?_⟩
          have ek : k8 = k2 := Per.one per8 per2
          subst ek
          exact k j rfl hj H8 u8 _ _ (s23.trans (s6.trans s8)) hu8 ll per8 cls.1 cls.2
end
end One
end P_Y5

section P_S1
set_option linter.all false
set_option maxRecDepth 100000
set_option maxHeartbeats 8000000
/-! Draws by turns: a dict of the cells, of what is left of each, a place. -/
namespace One
open PySem PySem.Spec PyProof.Rows L2
abbrev kC : Key := Sum.inr ("cells" : Str)
abbrev kF : Key := Sum.inr ("lefts" : Str)
abbrev kT : Key := Sum.inr ("at" : Str)
def mkL (c l : Addr) (k : Int) : List (Key × V) := [(kC, .ref c), (kF, .ref l), (kT, .int k)]
theorem nCF : ¬ (kC = kF) := by decide +kernel
theorem nCT : ¬ (kC = kT) := by decide +kernel
theorem nFT : ¬ (kF = kT) := by decide +kernel
section
variable (c l : Addr) (k : Int)
theorem mkL_C : valV (mkL c l k) kC = some (.ref c) := valV_pos rfl
theorem mkL_F : valV (mkL c l k) kF = some (.ref l) := (valV_neg nCF).trans (valV_pos rfl)
theorem mkL_T : valV (mkL c l k) kT = some (.int k) := (valV_neg nCT).trans ((valV_neg nFT).trans (valV_pos rfl))
theorem put_atL (p : List (Key × V)) (k : Key) (v : V) (h : (p.any fun kv => decide (kv.1 = k)) = true) : putK p k v = p.map (fun kv => if kv.1 = k then (kv.1, v) else kv) := by
  unfold putK
  rw [if_pos h]
theorem mkL_put (b : Int) : putK (mkL c l k) kT (.int b) = mkL c l b := by
  rw [put_atL _ _ _ (by rw [valV_any, mkL_T]; rfl)]
  simp only [mkL, List.map_cons, List.map_nil, if_neg nCT, if_neg nFT, if_true]
theorem mkL_make : mergeK [] [(kC, V.ref c), (kF, .ref l), (kT, .int k)] = mkL c l k := by
  have e1 : putK ([] : List (Key × V)) kC (.ref c) = [(kC, .ref c)] := putK_new _ valV_nil
  have e2 : putK [(kC, V.ref c)] kF (.ref l) = [(kC, .ref c), (kF, .ref l)] := putK_new _ (by rw [valV_neg nCF]; rfl)
  have e3 : putK [(kC, V.ref c), (kF, V.ref l)] kT (.int k) = [(kC, .ref c), (kF, .ref l), (kT, .int k)] := putK_new _ (by rw [valV_neg nCT, valV_neg nFT]; rfl)
  simp only [mergeK, List.foldl_cons, List.foldl_nil]
  rw [e1, e2, e3]
  rfl
end
section
variable {H : Hp} {p c l : Addr} {k b : Int}
theorem gCL (h : H p = some (.dK (mkL c l k))) : DGet H p (.str ("cells" : Str)) (some (.ref c)) := by
  have q := DGet.k (k := kC) h
  rw [mkL_C] at q
  exact q
theorem gFL (h : H p = some (.dK (mkL c l k))) : DGet H p (.str ("lefts" : Str)) (some (.ref l)) := by
  have q := DGet.k (k := kF) h
  rw [mkL_F] at q
  exact q
theorem gTL (h : H p = some (.dK (mkL c l k))) : DGet H p (.str ("at" : Str)) (some (.int k)) := by
  have q := DGet.k (k := kT) h
  rw [mkL_T] at q
  exact q
theorem pTL (h : H p = some (.dK (mkL c l k))) : DPut H p (.str ("at" : Str)) (.int b) (upd H p (.dK (mkL c l b))) := by
  have q := DPut.k (k := kT) (v := .int b) h (by show 3 < sizeLine; decide)
  rw [mkL_put] at q
  exact q
end
/-- the draws' dict at p, its cells at c, what is left of them at l, at most n draws so far -/
structure ML (H : Hp) (p c l : Addr) (n : Nat) : Prop where
  ex : ∃ (zs ds : List Int) (k : Int), H p = some (.dK (mkL c l k)) ∧ H c = some (.lst (zs.map V.int)) ∧ H l = some (.lst (ds.map V.int)) ∧ zs.length = ds.length ∧ 0 < zs.length ∧ zs.length ≤ 63 ∧ (∀ d ∈ ds, 0 ≤ d) ∧ 0 ≤ k ∧ k ≤ (n : Int)
  ne : c ≠ l
  nn : n ≤ 1000000
/-- all stays but the dict and what is left -/
def ExtL (p l : Addr) (H H' : Hp) : Prop := ∀ b o, b ≠ p → b ≠ l → H b = some o → H' b = some o
theorem ExtL.refl (p l : Addr) (H : Hp) : ExtL p l H H := fun _ _ _ _ e => e
theorem ExtL.trans {p l : Addr} {H H1 H2 : Hp} (h : ExtL p l H H1) (k : ExtL p l H1 H2) : ExtL p l H H2 := fun b o hb hl e => k b o hb hl (h b o hb hl e)
theorem ExtL.same {p l : Addr} {H H1 : Hp} (h : Same H H1) : ExtL p l H H1 := fun b o _ _ e => h b o e
theorem ML.keep {H H' : Hp} {p c l : Addr} {n : Nat} (M : ML H p c l n) (e : Same H H') : ML H' p c l n := by
  obtain ⟨zs, ds, k, h1, h2, h3, r⟩ := M.ex
  exact ⟨⟨zs, ds, k, e _ _ h1, e _ _ h2, e _ _ h3, r⟩, M.ne, M.nn⟩
theorem ML.lt {H : Hp} {p c l : Addr} {n k : Nat} (M : ML H p c l n) (h : n ≤ k) (hk : k ≤ 1000000) : ML H p c l k := by
  obtain ⟨zs, ds, q, h1, h2, h3, h4, h5, h6, h7, h8, h9⟩ := M.ex
  exact ⟨⟨zs, ds, q, h1, h2, h3, h4, h5, h6, h7, h8, by omega⟩, M.ne, hk⟩
theorem tupL {H H' : Hp} {p c l : Addr} {n : Nat} (M : ML H p c l n) (e : ExtL p l H H') : ∀ b xs, H b = some (.tup xs) → H' b = some (.tup xs) := fun b xs h => by
  obtain ⟨zs, ds, k, h1, h2, h3, _⟩ := M.ex
  exact e b _ (ne_of h h1 (by intro z; cases z)) (ne_of h h3 (by intro z; cases z)) h
abbrev sMX : Stmt := top 33
abbrev sDR : Stmt := top 35
abbrev nMX : List Str := ["cell", "k"]
abbrev nDR : List Str := ["state", "many", "at", "place", "left", "number"]
theorem scMX : FnScope nMX ["cell", "k"] (defScope sMX) := ⟨rfl, rfl, rfl, by decide +kernel, rfl, by decide +kernel, by decide +kernel⟩
theorem scDR : FnScope nDR ["state", "many"] (defScope sDR) := ⟨rfl, rfl, rfl, by decide +kernel, rfl, by decide +kernel, by decide +kernel⟩
def spMX : Sp := fun vs H Q _ => ∃ z k : Int, vs = [.int z, .int k] ∧ 0 ≤ k ∧ k ≤ 2000000 ∧ ∀ r : Int, 0 ≤ r → r < 2147483629 → Q (.int r) H
def spDR : Sp := fun vs H Q _ => ∃ (p c l : Addr) (n : Nat) (many : Int), vs = [.ref p, .int many] ∧ ML H p c l n ∧ n < 1000000 ∧ 0 < many ∧ many < 1073741824 ∧
  ∀ (H' : Hp) (r : Int), ML H' p c l (n + 1) → ExtL p l H H' → 0 ≤ r → r < many → Q (.int r) H'
theorem int_at {zs : List Int} {i : Int} (h0 : 0 ≤ i) (h1 : i < (zs.length : Int)) : ∃ (j : Nat) (z : Int), i = (j : Nat) ∧ j < zs.length ∧ zs[j]? = some z ∧ atI (zs.map V.int) i = some (V.int z) := by
  have hj : i.toNat < zs.length := by omega
  refine ⟨i.toNat, zs[i.toNat], by omega, hj, List.getElem?_eq_getElem hj, at_of (j := i.toNat) (by omega) ?_⟩
  rw [List.getElem?_map, List.getElem?_eq_getElem hj]
  rfl
section
variable {P : Program} {w : World} {K : PySem.W.Frag} {mg : Str → Option Value} {base : Heap}
theorem ok_mixed {f : Addr} {fd : FuncData} (F : Fun K "_law_mixed" "_law_mixed" sMX f fd) : FnOk P w K mg base CX0 1 f fd ["cell", "k"] spMX := by
  refine F.ok scMX (fun vs H Q E h => ?_) (fun cdv A outer s H vs Q E hr h => ?_)
  · obtain ⟨z, k, rfl, _⟩ := h
    rfl
  · obtain ⟨z, k, rfl, h0, h1, q⟩ := h
    have nd := scMX.nd
    refine ⟨_, pss_cons (ps_set (i := 0) nd rfl (Or.inl rfl) (pe_op op_mod (pv 0) pe_int))
      (pss_one (ps_ret (pe_op op_mod (pe_op op_mul (pe_op op_mod (pe_op op_add (pe_op op_add (pe_op op_mul (pv 0) (pe_op op_add pe_int (pe_op op_mul (pe_op op_mul pe_int (pv 1)) (pv 1)))) (pe_op op_mul pe_int (pv 1))) pe_int) pe_int) pe_int) pe_int))), ?_⟩
    have kk0 : 0 ≤ 2 * k * k := Int.mul_nonneg (by omega) h0
    have kk1 : 2 * k * k ≤ 4000000 * 2000000 := Int.mul_le_mul (by omega) h1 h0 (by decide)
    have m0 : 0 ≤ z % 2147483647 := Int.emod_nonneg _ (by decide)
    have m1 : z % 2147483647 < 2147483647 := Int.emod_lt_of_pos _ (by decide)
    refine ⟨_, rfl, _, _, rfl, rfl, (by show (0 : Int) < 2147483647; decide), ?_⟩
    refine ⟨_, rfl, _, rfl, _, _, rfl, rfl, .inl ⟨by decide, by decide⟩, _, rfl, _, _, rfl, rfl, .inr ⟨by omega, by omega⟩, _, _, rfl, rfl, _, _, rfl, rfl, .inl ⟨by show -(2 ^ 64) < z % 2147483647; omega, by show z % 2147483647 < 2 ^ 64; omega⟩, ?_⟩
    refine ⟨_, rfl, _, _, rfl, rfl, .inl ⟨by decide, by decide⟩, _, _, rfl, rfl, _, _, rfl, rfl, _, _, rfl, rfl, (by show (0 : Int) < 2147483647; decide), _, _, rfl, rfl, .inr ⟨by decide, by decide⟩, _, _, rfl, rfl, (by show (0 : Int) < 2147483629; decide), ?_⟩
    exact q _ (Int.emod_nonneg _ (by decide)) (Int.emod_lt_of_pos _ (by decide))
theorem ok_draw {f fM : Addr} {fd fdM : FuncData} (F : Fun K "_law_draw" "_law_draw" sDR f fd) (T : TB mg) (Mx : Cal K mg "_law_mixed" fM fdM ["cell", "k"]) (GM : FnOk P w K mg base CX0 1 fM fdM ["cell", "k"] spMX) : FnOk P w K mg base CX0 2 f fd ["state", "many"] spDR := by
  refine F.ok scDR (fun vs H Q E h => ?_) (fun cdv A outer s H vs Q E hr h => ?_)
  · obtain ⟨p, c, l, n, many, rfl, _⟩ := h
    rfl
  · obtain ⟨p, c, l, n, many, rfl, M, hn, h0, h1, kk⟩ := h
    obtain ⟨zs, ds, k, hp, hc, hl, hzd, hz0, hz63, hd0, hk0, hkn⟩ := M.ex
    have nd := scDR.nd
    have hu := hu_of hr
    have hr1 : Room 1 _ := hr
    refine ⟨_, pss_cons (ps_set (i := 2) nd rfl (Or.inl rfl) (pe_dget hu (pv 0) pe_str (fun _ _ => rfl)))
      (pss_cons (ps_dput hu (pv 0) pe_str (pe_op op_add (pv 2) pe_int) rfl)
      (pss_cons (ps_set (i := 3) nd rfl (Or.inl rfl) (pe_op op_mod (pv 2) (pe_callB call_len_seq (by rfl) T.len PySem.boot_len (pa_cons (pe_dget hu (pv 0) pe_str (fun _ _ => rfl)) pa_nil))))
      (pss_cons (ps_set (i := 4) nd rfl (Or.inl rfl) (pe_ix ix_list (pe_dget hu (pv 0) pe_str (fun _ _ => rfl)) (pv 3) (fun _ _ => rfl)))
      (pss_cons (ps_if (pt_cmpR op_gt (pv 4) pe_int (nomark _)) (pss_cons (ps_asg (pe_op op_fdiv (pv 4) (pv 1)) (pg_sub (pe_dget hu (pv 0) pe_str (fun _ _ => rfl)) (pv 3) set_list))
      (pss_one (ps_ret (pe_op op_mod (pv 4) (pv 1))))) pss_nil)
      (pss_cons (ps_set (i := 5) nd rfl (Or.inl rfl) (pe_call GM hr1 rfl Mx.g Mx.kp Mx.b .nil pass0 (pa_cons (pe_call GM hr1 rfl Mx.g Mx.kp Mx.b .nil pass0 (pa_cons (pe_ix ix_list (pe_dget hu (pv 0) pe_str (fun _ _ => rfl)) (pv 3) (fun _ _ => rfl)) (pa_cons (pv 2) pa_nil))) (pa_cons (pe_op op_add pe_int (pv 2)) pa_nil))))
      (pss_one (ps_ret (pe_op op_mod (pe_op op_fdiv (pe_op op_add (pe_op op_mul (pv 5) pe_int) (pe_call GM hr1 rfl Mx.g Mx.kp Mx.b .nil pass0 (pa_cons (pv 5) (pa_cons (pe_op op_add pe_int (pv 2)) pa_nil)))) pe_int) (pv 1))))))))), ?_⟩
    have npc : p ≠ c := ne_of hp hc (by intro z; cases z)
    have npl : p ≠ l := ne_of hp hl (by intro z; cases z)
    refine ⟨_, rfl, p, _, rfl, gTL hp, ?_⟩
    refine ⟨_, rfl, _, _, rfl, rfl, _, rfl, p, _, rfl, pTL hp, ?_⟩
    have hp1 : (upd H p (.dK (mkL c l (k + 1)))) p = some (.dK (mkL c l (k + 1))) := upd_same
    have hc1 : (upd H p (.dK (mkL c l (k + 1)))) c = some (.lst (zs.map V.int)) := (upd_ne (Ne.symm npc)).trans hc
    have hl1 : (upd H p (.dK (mkL c l (k + 1)))) l = some (.lst (ds.map V.int)) := (upd_ne (Ne.symm npl)).trans hl
    have e1 : ExtL p l H (upd H p (.dK (mkL c l (k + 1)))) := fun b o hb _ e => (upd_ne hb).trans e
    generalize upd H p (.dK (mkL c l (k + 1))) = H1 at hp1 hc1 hl1 e1
    have zl : (zs.map V.int).length = zs.length := List.length_map _
    refine ⟨_, rfl, _, rfl, p, _, rfl, gCL hp1, c, _, rfl, .inl (SqL.of hc1), _, _, rfl, rfl, (by show (0 : Int) < ((zs.map V.int).length : Nat); rw [zl]; omega), ?_⟩
    dsimp only
    rw [zl]
    have i0 : 0 ≤ k % ((zs.length : Nat) : Int) := Int.emod_nonneg _ (by omega)
    have i1 : k % ((zs.length : Nat) : Int) < ((zs.length : Nat) : Int) := Int.emod_lt_of_pos _ (by omega)
    generalize k % ((zs.length : Nat) : Int) = i at i0 i1
    obtain ⟨j, d, ej, hj, hd, ad⟩ := int_at (zs := ds) i0 (by rw [← hzd]; exact i1)
    obtain ⟨_, z, _, _, _, az⟩ := int_at (zs := zs) i0 i1
    subst ej
    refine ⟨_, rfl, p, _, rfl, gFL hp1, _, rfl, l, _, _, _, rfl, rfl, SqL.of hl1, ad, ?_⟩
    have fin : ∀ {H' : Hp} {ds' : List Int}, H' p = some (.dK (mkL c l (k + 1))) → H' c = some (.lst (zs.map V.int)) → H' l = some (.lst (ds'.map V.int)) → zs.length = ds'.length → (∀ d ∈ ds', 0 ≤ d) → ML H' p c l (n + 1) := fun {H' ds'} a1 a2 a3 a4 a5 => ⟨⟨zs, ds', k + 1, a1, a2, a3, a4, hz0, hz63, a5, by omega, by omega⟩, M.ne, by omega⟩
    have dn := hd0 d (List.mem_of_getElem? hd)
    refine ⟨_, rfl, _, _, rfl, rfl, _, rfl, ite2 (fun hb => ?_) (fun _ => ?_)⟩
    · have ix : ixN (ds.map V.int).length ((j : Nat) : Int) = some j := ix_nat (by rw [List.length_map]; exact hj)
      refine ⟨_, rfl, _, rfl, _, _, rfl, rfl, ⟨h0, h1⟩, _, rfl, p, _, rfl, gFL hp1, _, rfl, l, _, _, j, rfl, rfl, hl1, ix, ?_⟩
      have es : (ds.map V.int).set j (V.int (d / many)) = (ds.set j (d / many)).map V.int := (List.map_set).symm
      rw [es]
      have e2 : ExtL p l H (upd H1 l (.lst ((ds.set j (d / many)).map V.int))) := fun b o hb hl' e => (upd_ne hl').trans (e1 b o hb hl' e)
      refine ⟨_, rfl, _, rfl, _, _, rfl, rfl, h0, ?_⟩
      refine kk _ _ (fin (ds' := ds.set j (d / many)) ((upd_ne npl).trans hp1) ((upd_ne M.ne).trans hc1) upd_same (by rw [List.length_set]; exact hzd) fun x hx => ?_) e2 (Int.emod_nonneg _ (by omega)) (Int.emod_lt_of_pos _ h0)
      rcases List.mem_or_eq_of_mem_set hx with h | h
      · exact hd0 x h
      · rw [h]
        exact Int.ediv_nonneg dn (Int.le_of_lt h0)
    · refine ⟨_, rfl, p, _, rfl, gCL hp1, _, rfl, c, _, _, _, rfl, rfl, SqL.of hc1, az, _, rfl, z, k, rfl, hk0, by omega, fun r r0 r1 => ?_⟩
      refine ⟨_, rfl, _, _, rfl, rfl, r, 40 + k, rfl, by omega, by omega, fun g g0 g1 => ?_⟩
      refine ⟨_, rfl, _, _, rfl, rfl, .inr ⟨by decide, by decide⟩, _, rfl, _, rfl, _, _, rfl, rfl, g, 7 + k, rfl, by omega, by omega, fun q q0 q1 => ?_⟩
      refine ⟨_, _, rfl, rfl, _, _, rfl, rfl, ⟨by decide, by decide⟩, _, rfl, _, _, rfl, rfl, h0, ?_⟩
      exact kk _ _ (fin hp1 hc1 hl1 hzd hd0) e1 (Int.emod_nonneg _ (by omega)) (Int.emod_lt_of_pos _ h0)
end
end One
end P_S1

section P_S2
set_option linter.all false
set_option maxRecDepth 100000
set_option maxHeartbeats 8000000
namespace One
open PySem PySem.Spec PyProof.Rows L2
theorem dp_ints {K : PySem.W.Frag} {H : Hp} : ∀ ns : List Int, DpAll K H (ns.map V.int) (ns.map PyData.int)
  | [] => .nil
  | x :: r => .cons (.int x) (dp_ints r)
theorem ints_depth : ∀ ns : List Int, PyData.depthAll (ns.map PyData.int) = 0
  | [] => rfl
  | x :: r => by
    show max 0 (PyData.depthAll (r.map PyData.int)) = 0
    rw [ints_depth r]
    rfl
theorem ints_lay : ∀ ns : List Int, PyData.canLayAll0 (ns.map PyData.int) = true
  | [] => rfl
  | x :: r => by
    show (PyData.canLay0 (.int x) && PyData.canLayAll0 (r.map PyData.int)) = true
    rw [ints_lay r]
    rfl
theorem ints_shaped (ns : List Int) : SeqAt.shaped (.list (ns.map PyData.int)) = true := by
  unfold SeqAt.shaped
  have h1 : PyData.canLay0 (.list (ns.map PyData.int)) = true := ints_lay ns
  have h2 : PyData.depth (.list (ns.map PyData.int)) ≤ 64 := by
    show PyData.depthAll (ns.map PyData.int) + 1 ≤ 64
    rw [ints_depth]
    decide
  rw [h1, decide_eq_true h2]
  rfl
theorem nats_ne (ns : List Nat) : PyData.eqv (.list ((ns.map fun x => ((x : Nat) : Int)).map PyData.int)) (.list []) = ns.isEmpty := by
  cases ns <;> rfl
theorem ML.apart {H : Hp} {p a l q : Addr} {n : Nat} (M : ML H p a l n) (h : H q = none) : q ≠ p ∧ q ≠ l := by
  obtain ⟨zs, ds, k, h1, h2, h3, _⟩ := M.ex
  exact ⟨fun z => (by rw [z, h1] at h; cases h), fun z => (by rw [z, h3] at h; cases h)⟩
/-- a list made since is written -/
theorem ML.wrN {H0 H : Hp} {p a l q : Addr} {n0 n : Nat} {o : HO} (M0 : ML H0 p a l n0) (h0 : H0 q = none) (M : ML H p a l n) : ML (upd H q o) p a l n := by
  obtain ⟨zs, ds, k, g1, g2, g3, _⟩ := M0.ex
  obtain ⟨zs', ds', k', h1, h2, h3, r⟩ := M.ex
  exact ⟨⟨zs', ds', k', (upd_ne (ne_of_none g1 h0)).trans h1, (upd_ne (ne_of_none g2 h0)).trans h2, (upd_ne (ne_of_none g3 h0)).trans h3, r⟩, M.ne, M.nn⟩
theorem ExtL.wr {p l q : Addr} {H H' : Hp} {o : HO} (e : ExtL p l H H') (h : H q = none) : ExtL p l H (upd H' q o) := fun b u hb hl hu => by
  rw [upd_ne (ne_of_none hu h)]
  exact e b u hb hl hu
abbrev sOR : Stmt := top 36
abbrev nOR : List Str := ["state", "size", "left", "found"]
theorem scOR : FnScope nOR ["state", "size"] (defScope sOR) := ⟨rfl, rfl, rfl, by decide +kernel, rfl, by decide +kernel, by decide +kernel⟩
def spOR : Sp := fun vs H Q _ => ∃ (p a l : Addr) (n size : Nat), vs = [.ref p, .int (size : Nat)] ∧ ML H p a l n ∧ size ≤ 1000 ∧ n + size ≤ 1000000 ∧
  ∀ (H' : Hp) (b : Addr) (ms : List Nat), ML H' p a l (n + size) → ExtL p l H H' → H b = none → H' b = some (.lst (nats ms)) → ms.Perm (List.range size) → Q (.ref b) H'
section
variable {P : Program} {w : World} {K : PySem.W.Frag} {mg : Str → Option Value} {base : Heap}
theorem ok_order {f fN : Addr} {fd fdN : FuncData} (F : Fun K "_law_order" "_law_order" sOR f fd) (T : TB mg) (N : Cal K mg "_law_draw" fN fdN ["state", "many"]) (GN : FnOk P w K mg base CX0 2 fN fdN ["state", "many"] spDR) : FnOk P w K mg base CX0 3 f fd ["state", "size"] (spOR) := by
  refine F.ok scOR (fun vs H Q E h => ?_) (fun cdv A outer s H vs Q E hr h => ?_)
  · obtain ⟨p, a, l, n, size, rfl, _⟩ := h
    rfl
  · obtain ⟨p, a, l, n, size, rfl, M, h1000, hn, k⟩ := h
    obtain ⟨ns, ens, lns⟩ : ∃ ns, ns = List.range size ∧ ns.length = size := ⟨_, rfl, List.length_range⟩
    have nd := scOR.nd
    have hu2 : (A.deeper (envOfC "_law_order" (defScope sOR) s.heap.objs.size f cdv)).units + 64 < cLine := hr.units
    refine ⟨_, C8.pss_cut (ps_par (i := 2) (j := 3) (by rfl) nd rfl rfl (by decide) rfl rfl (pa_cons (pe_listRg (by rfl) (by rfl) T.list (prg_1 (by rfl) T.range (pv 1))) (pa_cons (pe_lst pa_nil) pa_nil)) (by rfl))
      (pss_cons (ps_while PassesOwn.never (pt_cmpR (op_neD (by exact hu2)) (pv 2) (pe_lst pa_nil) (nomark _))
        (pss_one (ps_expr (pe_bm PySem.F.plainAttrs_list PySem.F.slot_list_append PySem.F.type_list_append mt_append (pv 3) (pa_cons (pe_bm PySem.F.plainAttrs_list PySem.F.slot_list_pop PySem.F.type_list_pop mt_popAt (pv 2) (pa_cons (pe_call GN hr rfl N.g N.kp N.b .nil pass0 (pa_cons (pv 0) (pa_cons (pe_callB call_len_seq (by rfl) T.len PySem.boot_len (pa_cons (pv 2) pa_nil)) pa_nil))) pa_nil)) pa_nil)))))
      (pss_one (ps_ret (pv 3)))), ?_⟩
    refine ⟨fun σ H2 => ∃ (b c : Addr) (left done : List Nat) (n' : Nat), σ = [some (.ref p), some (.int (size : Nat)), some (.ref b), some (.ref c)] ∧ H b = none ∧ H c = none ∧ b ≠ c ∧ H2 b = some (.lst (nats left)) ∧ H2 c = some (.lst (nats done)) ∧ (left ++ done).Perm ns ∧ ML H2 p a l n' ∧ n' + left.length = n + ns.length ∧ ExtL p l H H2, ?_, ?_⟩
    · refine ⟨_, rfl, _, rfl, RgOk.of_le (by omega) (by omega) (by omega) (by omega), ?_⟩
      rw [nats_range, ← ens]
      refine fun b hb => ⟨Nat.zero_le _, fun c hc => ⟨_, _, rfl, ?_⟩⟩
      have s1 := Same.new (o := .lst (nats ns)) hb
      have s2 := Same.new (o := .lst []) hc
      have hbc : b ≠ c := ne_of_none upd_same hc
      exact ⟨b, c, ns, [], n, rfl, hb, s1.free hc, hbc, s2 _ _ upd_same, upd_same, by rw [List.append_nil], M.keep (s1.trans s2), rfl, ExtL.same (s1.trans s2)⟩
    · rintro σ0 H0 ⟨b, c, left0, done0, n0, rfl, hb, hc, hbc, hb0, hc0, hp0, M0, hn0, e0⟩
      unfold tSeq
      refine while_by (fun σ H2 => ∃ (left done : List Nat) (n' : Nat), σ = [some (.ref p), some (.int (size : Nat)), some (.ref b), some (.ref c)] ∧ H2 b = some (.lst (nats left)) ∧ H2 c = some (.lst (nats done)) ∧ (left ++ done).Perm ns ∧ ML H2 p a l n' ∧ n' + left.length = n + ns.length ∧ ExtL p l H H2)
        (fun σ H2 => match H2 b with
          | some (.lst xs) => xs.length
          | _ => 0) ⟨left0, done0, n0, rfl, hb0, hc0, hp0, M0, hn0, e0⟩ ?_ ?_
      · rintro σ H2 ⟨left, done, n', rfl, hb2, hc2, hp2, M2, hn2, e2⟩
        refine ⟨_, rfl, Nat.zero_le _, fun z hz => ?_⟩
        have sz := Same.new (o := .lst []) hz
        have hb3 := sz _ _ hb2
        have hc3 := sz _ _ hc2
        have M3 := M2.keep sz
        have e3 := e2.trans (ExtL.same sz)
        have ll : (left ++ done).length = ns.length := hp2.length_eq
        rw [List.length_append] at ll
        refine ⟨.list ((left.map fun x => ((x : Nat) : Int)).map PyData.int), .list [], (by
          refine .lst (SqL.of hb3) ?_
          rw [nats_ints]
          exact dp_ints _), .lst (SqL.of upd_same) .nil, ints_shaped _, rfl, _, rfl, ?_⟩
        rw [nats_ne]
        generalize hH3 : upd H2 z (.lst []) = H3 at hb3 hc3 M3 e3
        have mu : (match H2 b with
          | some (.lst xs) => xs.length
          | _ => 0) = left.length := by
          rw [hb2]
          exact List.length_map _
        cases left with
        | nil =>
          refine iteF ⟨_, rfl, k _ c done (M3.lt (by
            have : n' + ([] : List Nat).length = n + ns.length := hn2
            rw [List.length_nil] at this
            omega) (by omega)) e3 hc hc3 (ens ▸ hp2)⟩
        | cons x0 r0 =>
          have nlen : (nats (x0 :: r0)).length = (x0 :: r0).length := List.length_map _
          have hpos : 0 < (x0 :: r0).length := Nat.succ_pos _
          have nn : n' + (x0 :: r0).length = n + ns.length := hn2
          refine iteT ⟨_, rfl, .inl ⟨rfl, _, SqL.of hc3⟩, _, rfl, .inl ⟨rfl, _, SqL.of hb3⟩, _, rfl, _, rfl, b, _, rfl, .inl (SqL.of hb3), p, a, l, n', _, rfl, M3, by omega, by omega, by omega, fun H4 r M4 e4 q0 q1 => ?_⟩
          obtain ⟨j, rfl⟩ : ∃ j : Nat, r = (j : Nat) := ⟨r.toNat, by omega⟩
          rw [nlen] at q1
          have hj : j < (x0 :: r0).length := by omega
          obtain ⟨nbp, nbl⟩ := M.apart hb
          obtain ⟨ncp, ncl⟩ := M.apart hc
          have hb4 := e4 _ _ nbp nbl hb3
          have hc4 := e4 _ _ ncp ncl hc3
          obtain ⟨x, hx⟩ : ∃ x, (x0 :: r0)[j]? = some x := ⟨_, List.getElem?_eq_getElem hj⟩
          have hj' : seqIndex? ((j : Nat) : Int) (nats (x0 :: r0)).length = some j := seq_ix (by rw [nlen]; exact hj)
          refine ⟨b, _, _, j, _, rfl, rfl, hb4, by omega, by omega, hj', nats_at hx, ?_⟩
          rw [nats_erase]
          have M5 : ML (upd H4 b (.lst (nats ((x0 :: r0).eraseIdx j)))) p a l (n' + 1) := ML.wrN M hb M4
          have hc5 : (upd H4 b (.lst (nats ((x0 :: r0).eraseIdx j)))) c = some (.lst (nats done)) := (upd_ne (Ne.symm hbc)).trans hc4
          have e5 : ExtL p l H (upd H4 b (.lst (nats ((x0 :: r0).eraseIdx j)))) := (e3.trans e4).wr hb
          have hb5 : (upd H4 b (.lst (nats ((x0 :: r0).eraseIdx j)))) b = some (.lst (nats ((x0 :: r0).eraseIdx j))) := upd_same
          generalize upd H4 b (.lst (nats ((x0 :: r0).eraseIdx j))) = H5 at M5 hc5 e5 hb5
          refine ⟨c, _, _, rfl, rfl, hc5, small1000 (by rw [List.length_map]; omega), ?_⟩
          have hper := erase_perm hx
          have hle : ((x0 :: r0).eraseIdx j).length + 1 = (x0 :: r0).length := by
            have : (x0 :: r0).length = ((x0 :: r0).eraseIdx j).length + 1 := hper.length_eq
            omega
          refine ⟨⟨(x0 :: r0).eraseIdx j, done ++ [x], n' + 1, rfl, (upd_ne hbc).trans hb5, ?_, ?_, ML.wrN M hc M5, by omega, e5.wr hc⟩, ?_⟩
          · rw [upd_same, nats_app]
            rfl
          · refine List.Perm.trans ?_ hp2
            refine List.Perm.trans ?_ (List.Perm.append_right _ hper.symm)
            show ((x0 :: r0).eraseIdx j ++ (done ++ [x])).Perm (x :: ((x0 :: r0).eraseIdx j ++ done))
            rw [← List.append_assoc]
            exact List.perm_append_comm
          · rw [mu]
            show (match (upd H5 c (.lst (nats done ++ [V.int (x : Nat)]))) b with
              | some (.lst xs) => xs.length
              | _ => 0) < _
            rw [upd_ne hbc, hb5]
            show (nats ((x0 :: r0).eraseIdx j)).length < _
            rw [List.length_map]
            omega
      · intro σ H1 Q1 Q2 hq h
        obtain ⟨v, e1, e2, h⟩ := h
        refine ⟨v, e1, e2, fun z hz => ?_⟩
        obtain ⟨d, e, h1, h2, h3, h4, kk, h5, q⟩ := h z hz
        exact ⟨d, e, h1, h2, h3, h4, kk, h5, hq _ _ q⟩
end
end One
end P_S2

section P_S3
set_option linter.all false
set_option maxRecDepth 100000
set_option maxHeartbeats 8000000
namespace One
open PySem PySem.Spec PyProof.Rows L2
abbrev sBG : Stmt := top 34
abbrev nBG : List Str := ["script", "cells", "cell"]
theorem scBG : FnScope nBG ["script"] (defScope sBG) := ⟨rfl, rfl, rfl, by decide +kernel, rfl, by decide +kernel, by decide +kernel⟩
def spBG (K : PySem.W.Frag) : Sp := fun vs H Q _ => ∃ (a : Addr) (ns : List Int), vs = [.ref a] ∧ SqL K H a (ns.map V.int) ∧ ns.length ≤ 63 ∧
  ∀ (H' : Hp) (p c l : Addr), Same H H' → H p = none → H c = none → H l = none → ML H' p c l 0 → Q (.ref p) H'
def tIfI : TE := tIf (tTest (tOp (rI0 fun i j => .bl (decide (j ≤ i))) (tVar 2) (tOp (rI CPow fun i j => .int (i ^ j.toNat)) (tC (.int 10)) (tC (.int 18))))) (tVar 2) (tC (.int 0))
section
variable {P : Program} {w : World} {K : PySem.W.Frag} {mg : Str → Option Value} {base : Heap}
theorem ok_begin {f : Addr} {fd : FuncData} (F : Fun K "_law_begin" "_law_begin" sBG f fd) (T : TB mg) : FnOk P w K mg base CX0 1 f fd ["script"] (spBG K) := by
  refine F.ok scBG (fun vs H Q E h => ?_) (fun cdv A outer s H vs Q E hr h => ?_)
  · obtain ⟨a, ns, rfl, _⟩ := h
    rfl
  · obtain ⟨a, ns, rfl, hS, hl, k⟩ := h
    have nd := scBG.nd
    have hu : (A.deeper (envOfC "_law_begin" (defScope sBG) s.heap.objs.size f cdv)).units + 64 < cLine := hr.units
    refine ⟨_, pss_cons (ps_set (i := 1) nd rfl (Or.inl rfl) (pe_mid (pe_ifExp (pt_cmpR (op_neD (by exact hu)) (pv 0) (pe_lst pa_nil) (nomark _)) (pe_callTy call_list_of (by rfl) T.list (by decide +kernel) (pa_cons (pv 0) pa_nil) (by decide)) (pe_lst (pa_cons pe_int pa_nil)))))
      (pss_one (ps_ret (pe_disp (pps_cons pe_str (pv 1) (pps_cons pe_str (pe_lc (own := [("cell", 2)]) (g := (gName 2)) (tt := tYes) (te := (tIf (tTest (tOp (rI0 fun i j => .bl (decide (j ≤ i))) (tVar 2) (tOp (rI CPow fun i j => .int (i ^ j.toNat)) (tC (.int 10)) (tC (.int 18))))) (tVar 2) (tC (.int 0)))) rfl nd (pi_list (pv 1)) (blkOk_by (N := nBG) (sc := defScope sBG) (by decide +kernel)) (fun _ _ _ _ _ => pg_name (i := 2) nd rfl (Or.inl rfl)) (fun _ _ _ _ _ => pts_nil) (fun _ _ _ _ _ => by exact (pe_ifExp (pt_cmpR op_ge (pv 2) (pe_op op_pow pe_int pe_int) (nomark _)) (pv 2) pe_int))) (pps_cons pe_str pe_int pps_nil))) (by rfl) (by rfl) (fun z => by cases z) (by decide)))), ?_⟩
    refine ⟨fun v H1 => ∃ (c : Addr) (zs : List Int), v = .ref c ∧ H c = none ∧ H1 c = some (.lst (zs.map V.int)) ∧ 0 < zs.length ∧ zs.length ≤ 63 ∧ Same H H1, ?_, ?_⟩
    · refine ⟨_, rfl, Nat.zero_le _, fun l0 hl0 => ?_⟩
      have s0 := Same.new (o := .lst []) hl0
      have hS0 := s0.seq hS
      refine ⟨.list (ns.map PyData.int), .list [], .lst hS0 (dp_ints ns), .lst (SqL.of upd_same) .nil, ints_shaped ns, rfl, _, rfl, ?_⟩
      cases ns with
      | nil =>
        refine iteF ⟨by show 1 ≤ sizeLine; decide, fun c hc => ⟨c, [0], rfl, s0.free hc, upd_same, Nat.one_pos, by show 1 ≤ 63; decide, s0.trans (Same.new hc)⟩⟩
      | cons x r =>
        refine iteT ⟨_, rfl, a, _, rfl, .inl hS0, fun c hc => ⟨c, x :: r, rfl, s0.free hc, upd_same, Nat.succ_pos _, hl, s0.trans (Same.new hc)⟩⟩
    · rintro v H1 ⟨c, zs, rfl, hc0, hc, hz0, hz63, s1⟩
      refine fun p hp => ?_
      have sp := Same.new (o := .dK []) hp
      have hp1 : (upd H1 p (.dK [])) p = some (.dK []) := upd_same
      have hc1 := sp _ _ hc
      have s1p := s1.trans sp
      have hp0 := s1.free hp
      generalize upd H1 p (.dK []) = H2 at hp1 hc1 s1p
      refine ⟨_, rfl, _, rfl, c, rfl, ⟨_, SqL.of hc1⟩, fun D hD => ?_⟩
      have sD := Same.new (o := .lst []) hD
      refine lc_it (walk_list (K := K) (a := c) (xs := zs.map V.int)) (fun i H6 => ∃ ds : List Int, ds.length = i ∧ H6 D = some (.lst (ds.map V.int)) ∧ (∀ d ∈ ds, 0 ≤ d) ∧ Same H2 H6) ⟨[], rfl, upd_same, fun d h => absurd h (by simp), sD⟩ (fun i H6 _ ⟨_, _, _, _, s'⟩ => SqL.of (s' _ _ hc1)) ?_ ?_
      · rintro i x H6 H7 hi ⟨ds, ld, h6, d6, s6⟩ ⟨rfl, hx⟩
        have hx : (zs.map V.int)[i]? = some x := hx
        rw [List.length_map] at hi
        rw [List.getElem?_map, List.getElem?_eq_getElem hi] at hx
        cases hx
        generalize zs[i] = z
        have fin : ∀ d : Int, 0 ≤ d → ∃ acc, H7 D = some (.lst acc) ∧ acc.length < sizeLine ∧ ∃ ds' : List Int, ds'.length = i + 1 ∧ (upd H7 D (.lst (acc ++ [V.int d]))) D = some (.lst (ds'.map V.int)) ∧ (∀ d ∈ ds', 0 ≤ d) ∧ Same H2 (upd H7 D (.lst (acc ++ [V.int d]))) := fun d hd => by
          refine ⟨_, h6, small1000 (by rw [List.length_map]; omega), ds ++ [d], by rw [List.length_append, ld]; rfl, ?_, fun q hq => ?_, fun b o e => ?_⟩
          · rw [upd_same, List.map_append]
            rfl
          · rcases List.mem_append.mp hq with h | h
            · exact d6 q h
            · rw [List.mem_singleton.mp h]
              exact hd
          · rw [upd_ne (ne_of_none e hD)]
            exact s6 _ _ e
        refine ⟨rfl, yes ⟨_, rfl, _, _, rfl, rfl, ⟨by decide, by decide, by decide⟩, _, _, rfl, rfl, _, rfl, ite2 (fun hb => ?_) (fun _ => ?_)⟩⟩
        · have hz : (10 : Int) ^ (18 : Int).toNat ≤ z := of_decide_eq_true hb
          exact ⟨_, rfl, fin z (Int.le_trans (by decide) hz)⟩
        · exact fin 0 (Int.le_refl _)
      · rintro H6 ⟨ds, ld, h6, d6, s6⟩
        rw [List.length_map] at ld
        have hp6 := s6 _ _ hp1
        have hc6 := s6 _ _ hc1
        refine ⟨hp6, [(kC, .ref c), (kF, .ref D), (kT, .int 0)], rfl, by show 3 ≤ 15; decide, ?_⟩
        have ncp : c ≠ p := ne_of hc6 hp6 (by intro z; cases z)
        have nDp : D ≠ p := ne_of h6 hp6 (by intro z; cases z)
        have ncD : c ≠ D := ne_of_none hc1 hD
        have s7 : Same H (upd H6 p (.dK (mergeK [] [(kC, V.ref c), (kF, .ref D), (kT, .int 0)]))) := fun b o e => by
          rw [upd_ne (ne_of_none e hp0)]
          exact s6 _ _ (s1p _ _ e)
        exact k _ p c D s7 hp0 hc0 (s1p.free hD) ⟨⟨zs, ds, 0, by rw [upd_same, mkL_make], (upd_ne ncp).trans hc6, (upd_ne nDp).trans h6, ld.symm, hz0, hz63, d6, Int.le_refl _, Int.le_refl _⟩, ncD, by decide⟩
end
end One
end P_S3

section P_S4
set_option linter.all false
set_option maxRecDepth 100000
set_option maxHeartbeats 8000000
namespace One
open PySem PySem.Spec PyProof.Rows L2
abbrev sAC : Stmt := top 37
abbrev nAC : List Str := ["lines", "many", "one", "other", "base", "kept", "begin", "end", "start", "stop", "number", "line"]
theorem scAC : FnScope nAC ["lines", "many", "one", "other"] (defScope sAC) := ⟨rfl, rfl, rfl, by decide +kernel, rfl, by decide +kernel, by decide +kernel⟩
def spAC : Sp := fun vs H Q _ => ∃ (L : Addr) (as : List Addr) (ps : List (Nat × Nat)) (n i j : Nat) (a b : Nat × Nat), vs = [.ref L, .int (n : Nat), .int (i : Nat), .int (j : Nat)] ∧ H L = some (.lst (refs as)) ∧ PL H as ps ∧ ps.length ≤ 200 ∧ ps[i]? = some a ∧ ps[j]? = some b ∧
  ∀ (H' : Hp) (L' : Addr) (bs : List Addr), Same H H' → H L' = none → H' L' = some (.lst (refs bs)) → PL H' bs (putOn n ps i j a b) → Q (.ref L') H'
section
variable {P : Program} {w : World} {K : PySem.W.Frag} {mg : Str → Option Value} {base : Heap}
theorem ok_across {f : Addr} {fd : FuncData} (F : Fun K "_law_across" "_law_across" sAC f fd) (T : TB mg) : FnOk P w K mg base CX0 1 f fd ["lines", "many", "one", "other"] spAC := by
  refine F.ok scAC (fun vs H Q E h => ?_) (fun cdv A outer s H vs Q E hr h => ?_)
  · obtain ⟨L, as, ps, n, i, j, a, b, rfl, _⟩ := h
    rfl
  · obtain ⟨L, as, ps, n, i, j, a, b, rfl, hL, hP, h200, ha, hb, k⟩ := h
    have nd := scAC.nd
    refine ⟨_, pss_cons (ps_set (i := 4) nd rfl (Or.inl rfl) (pe_op op_mul pe_int (pv 1)))
      (pss_cons (ps_setLc (i := 5) (own := [("number", 10), ("line", 11)]) (g := (gTup K 2 (gCons (gName 10) (gCons (gName 11) gNil)))) (tt := (tAnd (tTest (tOp rNe (tVar 10) (tVar 2))) (tTest (tOp rNe (tVar 10) (tVar 3))))) (te := (tVar 11)) rfl nd rfl rfl (sw_true rfl rfl rfl (by decide +kernel)) (pi_enum (by rfl) T.enumerate (pa_cons (pv 0) pa_nil)) (blkOk_by (N := nAC) (sc := defScope sAC) (by decide +kernel)) (fun _ _ _ _ _ => pg_tup rfl (pgs_cons (pg_name (i := 10) nd rfl (Or.inl rfl)) (pgs_cons (pg_name (i := 11) nd rfl (Or.inl rfl)) pgs_nil))) (fun _ _ _ _ _ => pts_one (PW.pt (pw_and (pt_cmpR op_ne (pv 10) (pv 2) (nomark _)) (pw_and1 (pt_cmpR op_ne (pv 10) (pv 3) (nomark _)))))) (fun _ _ _ _ _ => by exact (pv 11)))
      (pss_cons (ps_asg (pe_ix ix_list (pv 0) (pv 2) (fun _ _ => rfl)) (pg_tup rfl (pgs_cons (pg_name (i := 6) nd rfl (Or.inl rfl)) (pgs_cons (pg_name (i := 7) nd rfl (Or.inl rfl)) pgs_nil))))
      (pss_cons (ps_asg (pe_ix ix_list (pv 0) (pv 3) (fun _ _ => rfl)) (pg_tup rfl (pgs_cons (pg_name (i := 8) nd rfl (Or.inl rfl)) (pgs_cons (pg_name (i := 9) nd rfl (Or.inl rfl)) pgs_nil))))
      (pss_cons (ps_if (pt_cmpR op_eq (pv 2) (pv 3) (nomark _)) (pss_one (ps_ret (pe_op op_catS (pv 5) (pe_lst (pa_cons (pe_tup (pa_cons (pv 6) (pa_cons (pv 4) pa_nil))) (pa_cons (pe_tup (pa_cons (pe_op op_add (pv 4) pe_int) (pa_cons (pe_op op_add (pv 4) pe_int) pa_nil))) (pa_cons (pe_tup (pa_cons (pv 7) (pa_cons (pe_op op_add (pv 4) pe_int) pa_nil))) pa_nil))))))) pss_nil)
      (pss_one (ps_ret (pe_op op_catS (pv 5) (pe_lst (pa_cons (pe_tup (pa_cons (pv 6) (pa_cons (pv 4) pa_nil))) (pa_cons (pe_tup (pa_cons (pv 7) (pa_cons (pe_op op_add (pv 4) pe_int) pa_nil))) (pa_cons (pe_tup (pa_cons (pv 8) (pa_cons (pe_op op_add (pv 4) pe_int) pa_nil))) (pa_cons (pe_tup (pa_cons (pv 9) (pa_cons (pe_op op_add (pv 4) pe_int) pa_nil))) pa_nil)))))))))))), ?_⟩
    have hal := hP.len
    refine ⟨_, rfl, _, _, rfl, rfl, .inl ⟨by decide, by decide⟩, ?_⟩
    refine ⟨_, rfl, L, _, rfl, SqL.of hL, fun D hD => ?_⟩
    have sD := Same.new (o := .lst []) hD
    refine lc_it (walk_enum (K := K) (a := L) (xs := refs as)) (fun k H6 => H6 D = some (.lst (refs (keepIx (notIJ i j) 0 (as.take k)))) ∧ Same H H6) ⟨upd_same, sD⟩ (fun k H6 _ h => SqL.of (h.2 _ _ hL)) ?_ ?_
    · rintro q x H6 H7 hk ⟨hD6, s6⟩ ⟨T', x', y', rfl, hT, rfl, ex, ey⟩
      cases ex
      have hk' : q < as.length := by rw [List.length_map] at hk; exact hk
      have ey : (refs as)[q]? = some y' := ey
      rw [List.getElem?_map, List.getElem?_eq_getElem hk'] at ey
      cases ey
      have s7 := Same.new (o := .tup [V.int (q : Nat), V.ref as[q]]) hT
      have hsn : keepIx (notIJ i j) 0 (as.take (q + 1)) = keepIx (notIJ i j) 0 (as.take q) ++ (if notIJ i j q then [as[q]] else []) := by
        rw [List.take_succ, List.getElem?_eq_getElem hk', Option.toList_some, keepIx_snoc, List.length_take, Nat.zero_add, Nat.min_eq_left (Nat.le_of_lt hk')]
      have hD7 := s7 _ _ hD6
      have s17 := s6.trans s7
      have dn : ∀ z : Nat, decide (V.int (q : Nat) = V.int (z : Nat)) = decide (q = z) := fun z => decide_eq_decide.mpr ⟨fun e => by
        have := V.int.inj e
        omega, fun e => by rw [e]⟩
      refine ⟨T', _, rfl, SqT.of upd_same, rfl, _, _, rfl, _, _, rfl, rfl, rfl, _, rfl, _, rfl, rfl, _, rfl, ?_⟩
      rw [dn]
      have yesk : notIJ i j q = true → ∃ acc, (upd H6 T' (.tup [V.int (q : Nat), V.ref as[q]])) D = some (.lst acc) ∧ acc.length < sizeLine ∧ (upd (upd H6 T' (.tup [V.int (q : Nat), V.ref as[q]])) D (.lst (acc ++ [V.ref as[q]]))) D = some (.lst (refs (keepIx (notIJ i j) 0 (as.take (q + 1))))) ∧ Same H (upd (upd H6 T' (.tup [V.int (q : Nat), V.ref as[q]])) D (.lst (acc ++ [V.ref as[q]]))) := fun hb => by
        refine ⟨_, hD7, small1000 ?_, ?_, fun b o e => ?_⟩
        · rw [List.length_map]
          have := keepIx_length_le (notIJ i j) 0 (as.take q)
          rw [List.length_take] at this
          omega
        · rw [upd_same, hsn, if_pos hb, refs_app]
          rfl
        · rw [upd_ne (ne_of_none e hD)]
          exact s17 _ _ e
      have nok : ¬ notIJ i j q = true → (upd H6 T' (.tup [V.int (q : Nat), V.ref as[q]])) D = some (.lst (refs (keepIx (notIJ i j) 0 (as.take (q + 1))))) ∧ Same H (upd H6 T' (.tup [V.int (q : Nat), V.ref as[q]])) := fun hb => by
        refine ⟨?_, s17⟩
        rw [hsn, if_neg hb, List.append_nil]
        exact hD7
      unfold notIJ at yesk nok
      cases h1 : decide (q = i) with
      | true =>
        rw [h1] at nok
        exact iteF (iteF (nok (by simp)))
      | false =>
        refine iteT ⟨_, rfl, _, rfl, rfl, _, rfl, ?_⟩
        rw [dn]
        cases h2 : decide (q = j) with
        | true =>
          rw [h1, h2] at nok
          exact iteF (nok (by simp))
        | false =>
          rw [h1, h2] at yesk
          exact iteT ⟨_, rfl, yesk (by simp)⟩
    · rintro H6 ⟨hD6, s6⟩
      have e6 : as.take (refs as).length = as := by rw [List.length_map, List.take_length]
      rw [e6] at hD6
      have hL6 := s6 _ _ hL
      have hP6 := hP.mono (sameT s6)
      have lk := keepIx_length_le (notIJ i j) 0 as
      obtain ⟨a1, ha1, pa1⟩ := hP6.get ha
      obtain ⟨b1, hb1, pb1⟩ := hP6.get hb
      have hK6 := hP6.keep (notIJ i j) 0
      refine ⟨_, rfl, _, rfl, L, _, _, V.ref a1, rfl, rfl, SqL.of hL6, ref_at ha1, a1, _, rfl, SqT.of pa1, rfl, _, _, rfl, _, _, rfl, rfl, ?_⟩
      refine ⟨_, rfl, _, rfl, L, _, _, V.ref b1, rfl, rfl, SqL.of hL6, ref_at hb1, b1, _, rfl, SqT.of pb1, rfl, _, _, rfl, _, _, rfl, rfl, ?_⟩
      refine ⟨_, rfl, _, rfl, rfl, _, rfl, ?_⟩
      have lK : (refs (keepIx (notIJ i j) 0 as)).length ≤ 200 := by
        rw [List.length_map]
        omega
      by_cases hij : i = j
      · rw [show decide (V.int (i : Nat) = V.int (j : Nat)) = true from decide_eq_true (by rw [hij])]
        refine iteT ⟨_, rfl, _, rfl, _, rfl, two_le, fun t1 ht1 => ?_⟩
        have u1 := Same.new (o := .tup [V.int (a.1 : Nat), V.int (4 * ((n : Nat) : Int))]) ht1
        refine ⟨_, rfl, _, _, rfl, rfl, _, rfl, _, _, rfl, rfl, two_le, fun t2 ht2 => ?_⟩
        have u2 := Same.new (o := .tup [V.int (4 * ((n : Nat) : Int) + 1), V.int (4 * ((n : Nat) : Int) + 2)]) ht2
        refine ⟨_, rfl, _, rfl, _, _, rfl, rfl, two_le, fun t3 ht3 => ?_⟩
        have u3 := Same.new (o := .tup [V.int (a.2 : Nat), V.int (4 * ((n : Nat) : Int) + 3)]) ht3
        refine ⟨(by show 3 ≤ sizeLine; decide), fun l9 hl9 => ?_⟩
        have u9 := Same.new (o := .lst [V.ref t1, V.ref t2, V.ref t3]) hl9
        have uA := u1.trans (u2.trans (u3.trans u9))
        refine ⟨D, l9, _, _, rfl, rfl, SqL.of (uA _ _ hD6), upd_same, Nat.le_of_lt (small1000 (by show _ + 3 ≤ 1000; omega)), fun lA hlA => ?_⟩
        have uB := Same.new (o := .lst (refs (keepIx (notIJ i j) 0 as) ++ [V.ref t1, V.ref t2, V.ref t3])) hlA
        refine k _ lA (keepIx (notIJ i j) 0 as ++ [t1, t2, t3]) (s6.trans (uA.trans uB)) ((s6.trans uA).free hlA) (by rw [upd_same, refs_app]; rfl) ?_
        unfold putOn fresh
        rw [if_pos hij]
        exact (hK6.mono (sameT (uA.trans uB))).app (.cons (PAt.of (uB _ _ (u9 _ _ (u3 _ _ (u2 _ _ upd_same)))) rfl (by omega)) (.cons (PAt.of (uB _ _ (u9 _ _ (u3 _ _ upd_same))) (by omega) (by omega)) (.cons (PAt.of (uB _ _ (u9 _ _ upd_same)) rfl (by omega)) .nil)))
      · rw [show decide (V.int (i : Nat) = V.int (j : Nat)) = false from decide_eq_false (fun z => hij (by
          have z := V.int.inj z
          omega))]
        refine iteF ⟨_, rfl, _, rfl, _, rfl, two_le, fun t1 ht1 => ?_⟩
        have u1 := Same.new (o := .tup [V.int (a.1 : Nat), V.int (4 * ((n : Nat) : Int))]) ht1
        refine ⟨_, rfl, _, rfl, _, _, rfl, rfl, two_le, fun t2 ht2 => ?_⟩
        have u2 := Same.new (o := .tup [V.int (a.2 : Nat), V.int (4 * ((n : Nat) : Int) + 2)]) ht2
        refine ⟨_, rfl, _, rfl, _, _, rfl, rfl, two_le, fun t3 ht3 => ?_⟩
        have u3 := Same.new (o := .tup [V.int (b.1 : Nat), V.int (4 * ((n : Nat) : Int) + 1)]) ht3
        refine ⟨_, rfl, _, rfl, _, _, rfl, rfl, two_le, fun t4 ht4 => ?_⟩
        have u4 := Same.new (o := .tup [V.int (b.2 : Nat), V.int (4 * ((n : Nat) : Int) + 3)]) ht4
        refine ⟨(by show 4 ≤ sizeLine; decide), fun l9 hl9 => ?_⟩
        have u9 := Same.new (o := .lst [V.ref t1, V.ref t2, V.ref t3, V.ref t4]) hl9
        have uA := u1.trans (u2.trans (u3.trans (u4.trans u9)))
        refine ⟨D, l9, _, _, rfl, rfl, SqL.of (uA _ _ hD6), upd_same, Nat.le_of_lt (small1000 (by show _ + 4 ≤ 1000; omega)), fun lA hlA => ?_⟩
        have uB := Same.new (o := .lst (refs (keepIx (notIJ i j) 0 as) ++ [V.ref t1, V.ref t2, V.ref t3, V.ref t4])) hlA
        refine k _ lA (keepIx (notIJ i j) 0 as ++ [t1, t2, t3, t4]) (s6.trans (uA.trans uB)) ((s6.trans uA).free hlA) (by rw [upd_same, refs_app]; rfl) ?_
        unfold putOn fresh
        rw [if_neg hij]
        exact (hK6.mono (sameT (uA.trans uB))).app (.cons (PAt.of (uB _ _ (u9 _ _ (u4 _ _ (u3 _ _ (u2 _ _ upd_same))))) rfl (by omega)) (.cons (PAt.of (uB _ _ (u9 _ _ (u4 _ _ (u3 _ _ upd_same)))) rfl (by omega)) (.cons (PAt.of (uB _ _ (u9 _ _ (u4 _ _ upd_same))) rfl (by omega)) (.cons (PAt.of (uB _ _ (u9 _ _ upd_same)) rfl (by omega)) .nil))))
end
end One
end P_S4

section P_S5
set_option linter.all false
set_option maxRecDepth 100000
set_option maxHeartbeats 8000000
namespace One
open PySem PySem.Spec PyProof.Rows L2
theorem blocks_at : ∀ {l : List (Nat × List Nat)}, (∀ b ∈ l, b.2.length = 4) → ∀ {i r c : Nat} {ps : List Nat}, l[i]? = some (c, ps) → r < 4 → (blocks l).getD (4 * i + r) 0 = 4 * c + ps.getD r 0
  | [], _, i, r, c, ps, h, _ => by simp at h
  | b :: l, hb, 0, r, c, ps, h, hr => by
    cases Option.some.inj h
    have h4 : ps.length = 4 := hb (c, ps) (List.mem_cons_self ..)
    show (ps.map (fun p => 4 * c + p) ++ blocks l).getD (4 * 0 + r) 0 = _
    rw [Nat.mul_zero, Nat.zero_add, List.getD_eq_getElem?_getD, List.getElem?_append_left (by rw [List.length_map]; omega), List.getElem?_map, List.getElem?_eq_getElem (by omega), List.getD_eq_getElem?_getD, List.getElem?_eq_getElem (by omega)]
    rfl
  | b :: l, hb, i + 1, r, c, ps, h, hr => by
    have h4 : b.2.length = 4 := hb b (List.mem_cons_self ..)
    have ih := blocks_at (l := l) (fun x m => hb x (List.mem_cons_of_mem _ m)) (i := i) (r := r) (c := c) (ps := ps) (by simpa using h) hr
    show (b.2.map (fun p => 4 * b.1 + p) ++ blocks l).getD (4 * (i + 1) + r) 0 = _
    rw [List.getD_eq_getElem?_getD, List.getElem?_append_right (by rw [List.length_map]; omega), List.length_map, h4, show 4 * (i + 1) + r - 4 = 4 * i + r by omega, ← List.getD_eq_getElem?_getD]
    exact ih
/-- lists of numbers, none of them the draws' -/
inductive NLs (p l : Addr) (H : Hp) : List Addr → List (List Nat) → Prop
  | nil : NLs p l H [] []
  | cons {a q as qs} : H a = some (.lst (nats q)) → a ≠ p → a ≠ l → NLs p l H as qs → NLs p l H (a :: as) (q :: qs)
theorem NLs.len {p l : Addr} {H : Hp} {as : List Addr} {qs : List (List Nat)} (h : NLs p l H as qs) : as.length = qs.length := by
  induction h with
  | nil => rfl
  | cons _ _ _ _ ih => simp [ih]
theorem NLs.ext {p l : Addr} {H H' : Hp} {as : List Addr} {qs : List (List Nat)} (h : NLs p l H as qs) (e : ExtL p l H H') : NLs p l H' as qs := by
  induction h with
  | nil => exact .nil
  | cons h1 h2 h3 _ ih => exact .cons (e _ _ h2 h3 h1) h2 h3 ih
theorem NLs.keepN {p l D : Addr} {H : Hp} {o : HO} {as : List Addr} {qs : List (List Nat)} (h : NLs p l H as qs) (hD : D ∉ as) : NLs p l (upd H D o) as qs := by
  induction h with
  | nil => exact .nil
  | cons h1 h2 h3 _ ih => exact .cons ((upd_ne fun z => hD (by rw [z]; exact List.mem_cons_self ..)).trans h1) h2 h3 (ih fun m => hD (List.mem_cons_of_mem _ m))
theorem NLs.app {p l : Addr} {H : Hp} {as bs : List Addr} {qs rs : List (List Nat)} (h : NLs p l H as qs) (k : NLs p l H bs rs) : NLs p l H (as ++ bs) (qs ++ rs) := by
  induction h with
  | nil => exact k
  | cons h1 h2 h3 _ ih => exact .cons h1 h2 h3 ih
theorem NLs.get {p l : Addr} {H : Hp} {as : List Addr} {qs : List (List Nat)} (h : NLs p l H as qs) : ∀ {i : Nat} {q : List Nat}, qs[i]? = some q → ∃ a, as[i]? = some a ∧ H a = some (.lst (nats q)) := by
  induction h with
  | nil => intro i q e; simp at e
  | cons h1 _ _ _ ih =>
    intro i q e
    cases i with
    | zero =>
      cases Option.some.inj e
      exact ⟨_, rfl, h1⟩
    | succ i => exact ih (i := i) (by simpa using e)
theorem ends_of : ∀ {ps : List (Nat × Nat)} {q : Nat × Nat}, q ∈ ps → q.1 ∈ ends ps ∧ q.2 ∈ ends ps
  | [], q, h => absurd h (by simp)
  | r :: ps, q, h => by
    rcases List.mem_cons.mp h with rfl | h
    · exact ⟨by simp [ends], by simp [ends]⟩
    · obtain ⟨a, b⟩ := ends_of h
      exact ⟨by simp [ends, a], by simp [ends, b]⟩
abbrev sYD : Stmt := top 38
abbrev nYD : List Str := ["state", "many", "lines", "number", "one", "other", "calls", "places", "found", "line", "both", "end"]
theorem scYD : FnScope nYD ["state", "many"] (defScope sYD) := ⟨rfl, rfl, rfl, by decide +kernel, rfl, by decide +kernel, by decide +kernel⟩
def spYD : Sp := fun vs H Q _ => ∃ (p a l : Addr) (n many : Nat), vs = [.ref p, .int (many : Nat)] ∧ ML H p a l n ∧ n ≤ 900000 ∧ 0 < many ∧ many ≤ 40 ∧
  ∀ (H' : Hp) (t : Addr) (ps : List (Nat × Nat)), ML H' p a l (n + 7 * many) → ExtL p l H H' → YAt H' t many ps → Q (.ref t) H'
theorem min_low {x y : Nat} {m : Int} (hm : m ∈ [((x : Nat) : Int), ((y : Nat) : Int)]) (hle : ∀ z ∈ [((x : Nat) : Int), ((y : Nat) : Int)], m ≤ z) : m = (((low x y).1 : Nat) : Int) := by
  have h1 := hle ((x : Nat) : Int) (by simp)
  have h2 := hle ((y : Nat) : Int) (by simp)
  simp only [List.mem_cons, List.not_mem_nil, or_false] at hm
  unfold low
  split <;> (simp only; omega)
theorem max_low {x y : Nat} {m : Int} (hm : m ∈ [((x : Nat) : Int), ((y : Nat) : Int)]) (hle : ∀ z ∈ [((x : Nat) : Int), ((y : Nat) : Int)], z ≤ m) : m = (((low x y).2 : Nat) : Int) := by
  have h1 := hle ((x : Nat) : Int) (by simp)
  have h2 := hle ((y : Nat) : Int) (by simp)
  simp only [List.mem_cons, List.not_mem_nil, or_false] at hm
  unfold low
  split <;> (simp only; omega)
section
variable {P : Program} {w : World} {K : PySem.W.Frag} {mg : Str → Option Value} {base : Heap}
theorem ok_yard {f fD fO fA : Addr} {fd fdD fdO fdA : FuncData} (F : Fun K "_law_yard" "_law_yard" sYD f fd) (T : TB mg) (hmin : mg "min" = none) (hmax : mg "max" = none) (D : Cal K mg "_law_draw" fD fdD ["state", "many"]) (GD : FnOk P w K mg base CX0 2 fD fdD ["state", "many"] spDR)
    (O : Cal K mg "_law_order" fO fdO ["state", "size"]) (GO : FnOk P w K mg base CX0 3 fO fdO ["state", "size"] spOR) (Ac : Cal K mg "_law_across" fA fdA ["lines", "many", "one", "other"]) (GA : FnOk P w K mg base CX0 1 fA fdA ["lines", "many", "one", "other"] spAC) : FnOk P w K mg base CX0 4 f fd ["state", "many"] spYD := by
  refine F.ok scYD (fun vs H Q E h => ?_) (fun cdv A outer s H vs Q E hr h => ?_)
  · obtain ⟨p, a, l, n, many, rfl, _⟩ := h
    rfl
  · obtain ⟨p, a, l, n, many, rfl, M, hn, h0, h40, k⟩ := h
    have nd := scYD.nd
    have hr3 : Room 3 _ := hr
    have hr2 : Room 2 _ := hr.mono (by decide)
    have hr1 : Room 1 _ := hr.mono (by decide)
    refine ⟨_, pss_cons (ps_set (i := 2) nd rfl (Or.inl rfl) (pe_lst (pa_cons (pe_tup (pa_cons pe_int (pa_cons pe_int pa_nil))) (pa_cons (pe_tup (pa_cons pe_int (pa_cons pe_int pa_nil))) pa_nil))))
      (pss_cons (ps_for PassesOwn.never rfl (pi_range2 (by rfl) T.range (pa_cons pe_int (pa_cons (pv 1) pa_nil))) (pg_name (i := 3) nd rfl (Or.inl rfl))
        (pss_cons (ps_par (i := 4) (j := 5) (by rfl) nd rfl rfl (by decide) rfl rfl (pa_cons (pe_call GD hr2 rfl D.g D.kp D.b .nil pass0 (pa_cons (pv 0) (pa_cons (pe_op op_mul pe_int (pv 3)) pa_nil))) (pa_cons (pe_call GD hr2 rfl D.g D.kp D.b .nil pass0 (pa_cons (pv 0) (pa_cons (pe_op op_mul pe_int (pv 3)) pa_nil))) pa_nil)) (by rfl))
      (pss_one (ps_set (i := 2) nd rfl (Or.inl rfl) (pe_call GA hr1 rfl Ac.g Ac.kp Ac.b .nil pass0 (pa_cons (pv 2) (pa_cons (pv 3) (pa_cons (pv 4) (pa_cons (pv 5) pa_nil)))))))))
      (pss_cons (ps_asg (pe_tup (pa_cons (pe_call GO hr3 rfl O.g O.kp O.b .nil pass0 (pa_cons (pv 0) (pa_cons (pv 1) pa_nil))) (pa_cons (pe_lc (own := [("number", 3)]) (g := (gName 3)) (tt := tYes) (te := (tCall spOR [] E0 (tCons (tVar 0) (tCons (tC (.int 4)) tNil)))) rfl nd (pi_range1 (by rfl) T.range (pa_cons (pv 1) pa_nil)) (blkOk_by (N := nYD) (sc := defScope sYD) (by decide +kernel)) (fun _ _ _ _ _ => pg_name (i := 3) nd rfl (Or.inl rfl)) (fun _ _ _ _ _ => pts_nil) (fun _ _ _ _ _ => by exact (pe_call GO hr3 rfl O.g O.kp O.b .nil pass0 (pa_cons (pv 0) (pa_cons pe_int pa_nil))))) pa_nil))) (pg_tup rfl (pgs_cons (pg_name (i := 6) nd rfl (Or.inr rfl)) (pgs_cons (pg_name (i := 7) nd rfl (Or.inr rfl)) pgs_nil))))
      (pss_cons (ps_set (i := 8) nd rfl (Or.inl rfl) (pe_lst pa_nil))
      (pss_cons (ps_for PassesOwn.never rfl (pi_list (pv 2)) (pg_name (i := 9) nd rfl (Or.inl rfl))
        (pss_cons (ps_setLc (i := 10) (own := [("end", 11)]) (g := (gName 11)) (tt := tYes) (te := (tOp (rI0 fun i j => .int (i + j)) (tOp (rI CMul fun i j => .int (i * j)) (tC (.int 4)) (tOp (rIxL K) (tVar 6) (tOp (rI CDiv fun i j => .int (i / j)) (tVar 11) (tC (.int 4))))) (tOp (rIxL K) (tOp (rIxL K) (tVar 7) (tOp (rI CDiv fun i j => .int (i / j)) (tVar 11) (tC (.int 4)))) (tOp (rI (fun _ j => 0 < j) fun i j => .int (i % j)) (tVar 11) (tC (.int 4)))))) rfl nd rfl rfl (sw_true rfl rfl rfl (by decide +kernel)) (pi_tup (pv 9)) (blkOk_by (N := nYD) (sc := defScope sYD) (by decide +kernel)) (fun _ _ _ _ _ => pg_name (i := 11) nd rfl (Or.inl rfl)) (fun _ _ _ _ _ => pts_nil) (fun _ _ _ _ _ => by exact (pe_op op_add (pe_op op_mul pe_int (pe_ix ix_list (pv 6) (pe_op op_fdiv (pv 11) pe_int) (fun _ _ => rfl))) (pe_ix ix_list (pe_ix ix_list (pv 7) (pe_op op_fdiv (pv 11) pe_int) (fun _ _ => rfl)) (pe_op op_mod (pv 11) pe_int) (fun _ _ => rfl)))))
      (pss_one (ps_expr (pe_bm PySem.F.plainAttrs_list PySem.F.slot_list_append PySem.F.type_list_append mt_append (pv 8) (pa_cons (pe_tup (pa_cons (pe_callB (cr_min rfl) (by rfl) hmin boot_min (pa_cons (pv 10) pa_nil)) (pa_cons (pe_callB (cr_max rfl) (by rfl) hmax boot_max (pa_cons (pv 10) pa_nil)) pa_nil))) pa_nil))))))
      (pss_one (ps_ret (pe_tupleOf (by rfl) T.tuple (pe_callB cr_sortedPO (by rfl) T.sorted boot_sorted (pa_cons (pv 8) pa_nil))))))))), ?_⟩
    refine ⟨two_le, fun t1 ht1 => ⟨two_le, fun t2 ht2 => ⟨two_le, fun L0 hL0 => ?_⟩⟩⟩
    obtain ⟨H1, eH1, s1, a1, b1, c1⟩ := made_two ht1 ht2 hL0
    have fL0 : H L0 = none := ((Same.new ht1).trans (Same.new ht2)).free hL0
    rw [← eH1]
    obtain ⟨nLp, nLl⟩ := M.apart fL0
    refine ⟨_, rfl, 1, _, rfl, ⟨by decide, by decide, by omega, by omega⟩, ?_⟩
    rw [show (((many : Nat) : Int) - 1).toNat = many - 1 by omega]
    refine for_range (lo := 1) (n := many - 1) (fun i σ H' => ∃ (v3 v4 v5 : Option V) (L : Addr) (as : List Addr) (ps : List (Nat × Nat)), σ = [some (.ref p), some (.int (many : Nat)), some (.ref L), v3, v4, v5, none, none, none, none, none, none] ∧ H' L = some (.lst (refs as)) ∧ L ≠ p ∧ L ≠ l ∧ PL H' as ps ∧ Grown (1 + i) ps ∧ ML H' p a l (n + 2 * i) ∧ ExtL p l H H')
      ⟨none, none, none, L0, [t1, t2], [(0, 1), (2, 3)], rfl, a1, nLp, nLl, .cons b1 (.cons c1 .nil), grown_one (by decide), M.keep s1, ExtL.same s1⟩ ?_ ?_
    · rintro i σ H2 hi ⟨v3, v4, v5, L, as, ps, rfl, hL, nLp, nLl, hP, G, M2, e2⟩
      rw [show (1 : Int) + ((i : Nat) : Int) = ((1 + i : Nat) : Int) by omega]
      have lps : ps.length = 2 * (1 + i) := G.lines.len
      refine ⟨_, rfl, _, rfl, _, _, rfl, rfl, .inl ⟨by decide, by decide⟩, p, a, l, _, _, rfl, M2, by omega, by omega, by omega, fun H3 q1 M3 e3 q10 q11 => ?_⟩
      refine ⟨_, rfl, _, rfl, _, _, rfl, rfl, .inl ⟨by decide, by decide⟩, p, a, l, _, _, rfl, M3, by omega, by omega, by omega, fun H4 q2 M4 e4 q20 q21 => ?_⟩
      obtain ⟨i1, rfl⟩ : ∃ j : Nat, q1 = (j : Nat) := ⟨q1.toNat, by omega⟩
      obtain ⟨i2, rfl⟩ : ∃ j : Nat, q2 = (j : Nat) := ⟨q2.toNat, by omega⟩
      have e24 := e3.trans e4
      obtain ⟨A1, hA⟩ : ∃ A1, ps[i1]? = some A1 := ⟨_, List.getElem?_eq_getElem (by omega)⟩
      obtain ⟨B1, hB⟩ : ∃ B1, ps[i2]? = some B1 := ⟨_, List.getElem?_eq_getElem (by omega)⟩
      have hP4 := hP.mono (tupL M2 e24)
      refine ⟨_, _, rfl, _, rfl, _, rfl, _, rfl, _, rfl, L, as, ps, 1 + i, i1, i2, A1, B1, rfl, e24 _ _ nLp nLl hL, hP4, by omega, hA, hB, fun H5 L5 bs s5 nL5 hL5 hP5 => ?_⟩
      obtain ⟨m1, m2⟩ := M4.apart nL5
      exact ⟨_, _, _, L5, bs, _, rfl, hL5, m1, m2, hP5, by rw [show 1 + (i + 1) = (1 + i) + 1 by omega]; exact G.put hA hB, (M4.keep s5).lt (by omega) (by omega), (e2.trans e24).trans (ExtL.same s5)⟩
    · rintro σ H2 ⟨v3, v4, v5, L, as, ps, rfl, hL, nLp, nLl, hP, G, M2, e2⟩
      rw [show 1 + (many - 1) = many by omega] at G
      have M2 := M2.lt (show n + 2 * (many - 1) ≤ n + 2 * many by omega) (by omega)
      refine ⟨_, rfl, _, rfl, p, a, l, _, many, rfl, M2, by omega, by omega, fun H3 cA cs M3 e3 hcn hc hcp => ?_⟩
      obtain ⟨ncp, ncl⟩ := M2.apart hcn
      refine ⟨_, rfl, _, rfl, by omega, by omega, fun Pl hPl => ?_⟩
      rw [show ((many : Nat) : Int).toNat = many by omega]
      have sP := Same.new (o := .lst []) hPl
      obtain ⟨nPp, nPl⟩ := M3.apart hPl
      refine lc_it (walk_range (lo := 0) (n := many)) (fun q H6 => ∃ (bs : List Addr) (qs : List (List Nat)), H6 Pl = some (.lst (refs bs)) ∧ Pl ∉ bs ∧ NLs p l H6 bs qs ∧ qs.length = q ∧ (∀ x ∈ qs, x.Perm [0, 1, 2, 3]) ∧ ML H6 p a l (n + 3 * many + 4 * q) ∧ ExtL p l H3 H6)
        ⟨[], [], upd_same, by simp, .nil, rfl, fun x h => absurd h (by simp), (M3.keep sP).lt (by omega) (by omega), ExtL.same sP⟩ (fun _ _ _ _ => trivial) ?_ ?_
      · rintro q v H6 H7 hq ⟨bs, qs, h6, nin, hLL, lq, hqp, M6, e6⟩ ⟨rfl, rfl⟩
        refine ⟨rfl, yes ⟨_, rfl, p, a, l, _, 4, rfl, M6, by decide, by omega, fun H8 b q8 M8 e8 hbn hb hbp => ?_⟩⟩
        obtain ⟨nbp, nbl⟩ := M6.apart hbn
        have h8 := e8 _ _ nPp nPl h6
        have nbP : b ≠ Pl := fun z => by
          rw [z, h6] at hbn
          cases hbn
        refine ⟨_, h8, small1000 (by rw [List.length_map, hLL.len]; omega), bs ++ [b], qs ++ [q8], ?_, ?_, ?_, ?_, ?_, ?_, ?_⟩
        · rw [upd_same, refs_app]
          rfl
        · intro m
          rcases List.mem_append.mp m with m | m
          · exact nin m
          · exact nbP (List.mem_singleton.mp m).symm
        · exact ((hLL.ext e8).keepN nin).app (.cons ((upd_ne nbP).trans hb) nbp nbl .nil)
        · rw [List.length_append, lq]
          rfl
        · intro x hx
          rcases List.mem_append.mp hx with hx | hx
          · exact hqp x hx
          · rw [List.mem_singleton.mp hx]
            exact hbp
        · exact (ML.wrN M3 hPl M8).lt (by omega) (by omega)
        · exact (e6.trans e8).wr hPl
      · rintro H6 ⟨bs, qs, h6, nin, hLL, lq, hqp, M6, e6⟩
        refine ⟨two_le, fun u hu => ?_⟩
        have su := Same.new (o := .tup [V.ref cA, V.ref Pl]) hu
        have e26 := e3.trans e6
        have hL6 := su _ _ (e26 _ _ nLp nLl hL)
        have hP6 := (hP.mono (tupL M2 e26)).mono (sameT su)
        have hc6 := su _ _ (e6 _ _ ncp ncl hc)
        have hPl6 := su _ _ h6
        have hLL6 := hLL.ext (ExtL.same su)
        have M6' := M6.keep su
        have e06 := (e2.trans e26).trans (ExtL.same su)
        refine ⟨u, _, rfl, SqT.of upd_same, rfl, _, _, rfl, _, _, rfl, rfl, ?_⟩
        generalize upd H6 u (.tup [V.ref cA, V.ref Pl]) = H7 at hL6 hP6 hc6 hPl6 hLL6 M6' e06
        -- the names of the ends
        have lcs : cs.length = many := by rw [hcp.length_eq, List.length_range]
        obtain ⟨bl, ebl⟩ : ∃ bl, bl = cs.zip qs := ⟨_, rfl⟩
        have lbl : bl.length = many := by rw [ebl, List.length_zip]; omega
        have bl2 : ∀ b ∈ bl, b.2.Perm [0, 1, 2, 3] := fun b hb => by
          rw [ebl] at hb
          exact hqp _ (List.of_mem_zip hb).2
        have bl1 : bl.map Prod.fst = cs := by rw [ebl, List.map_fst_zip (by omega)]
        have cal : Called many (blocks bl) := called_of_blocks (by rw [bl1]; exact hcp) bl2
        have name : ∀ e, e < 4 * many → ∃ (c0 : Nat) (q0 : List Nat) (r0 : Nat), cs[e / 4]? = some c0 ∧ qs[e / 4]? = some q0 ∧ q0[e % 4]? = some r0 ∧ (blocks bl).getD e 0 = 4 * c0 + r0 := fun e he => by
          have h1 : e / 4 < cs.length := by omega
          have h2 : e / 4 < qs.length := by omega
          have hz : bl[e / 4]? = some (cs[e / 4], qs[e / 4]) := by
            rw [ebl, List.getElem?_eq_getElem (by rw [List.length_zip]; omega), List.getElem_zip]
          have l4 : ∀ b ∈ bl, b.2.length = 4 := fun b hb => (bl2 b hb).length_eq
          have := blocks_at l4 hz (Nat.mod_lt e (by decide : 0 < 4))
          rw [Nat.div_add_mod] at this
          have q4 : (qs[e / 4]).length = 4 := (hqp _ (List.getElem_mem h2)).length_eq
          have hr4 : e % 4 < (qs[e / 4]).length := by omega
          refine ⟨cs[e / 4], qs[e / 4], (qs[e / 4])[e % 4], List.getElem?_eq_getElem h1, List.getElem?_eq_getElem h2, List.getElem?_eq_getElem hr4, ?_⟩
          rw [this, List.getD_eq_getElem?_getD, List.getElem?_eq_getElem hr4]
          rfl
        refine ⟨Nat.zero_le _, fun Fd hFd => ?_⟩
        have sF := Same.new (o := .lst []) hFd
        refine ⟨_, rfl, L, rfl, ⟨_, SqL.of (sF _ _ hL6)⟩, ?_⟩
        have lps : ps.length = 2 * many := G.lines.len
        refine for_it (walk_list (K := K) (a := L) (xs := refs as)) (fun q σ H' => ∃ (v9 v10 : Option V) (ds : List Addr), σ = [some (.ref p), some (.int (many : Nat)), some (.ref L), v3, v4, v5, some (.ref cA), some (.ref Pl), some (.ref Fd), v9, v10, none] ∧ H' Fd = some (.lst (refs ds)) ∧ PL H' ds ((ps.take q).map (callL (blocks bl))) ∧ Same H7 H')
          ⟨none, none, [], rfl, upd_same, .nil, sF⟩ (fun q σ H' _ ⟨_, _, _, _, _, _, s'⟩ => SqL.of (s' _ _ hL6)) ?_ ?_
        · rintro q v σ H8 H9 hq ⟨v9, v10, ds, rfl, hF8, hD8, s8⟩ ⟨rfl, hv⟩
          have hv : (refs as)[q]? = some v := hv
          have e1 : (refs as).length = ps.length := by rw [List.length_map, hP.len]
          rw [e1] at hq
          obtain ⟨c, hcq⟩ : ∃ c, as[q]? = some c := ⟨_, List.getElem?_eq_getElem (by rw [hP.len]; exact hq)⟩
          rw [List.getElem?_map, hcq] at hv
          cases hv
          obtain ⟨pr, hpr, pc⟩ := hP6.got hcq
          have hmem := List.mem_of_getElem? hpr
          obtain ⟨lx, ly⟩ : pr.1 < 4 * many ∧ pr.2 < 4 * many := ⟨G.lines.lt _ (ends_of hmem).1, G.lines.lt _ (ends_of hmem).2⟩
          have pc9 := s8 _ _ pc
          refine ⟨_, rfl, c, rfl, ⟨_, SqT.of pc9⟩, fun D0 hD0 => ?_⟩
          have sD := Same.new (o := .lst []) hD0
          have nm : ∀ e, e < 4 * many → ∀ H6, Same H9 H6 → ∃ (c0 : Nat) (q0 : List Nat) (r0 : Nat) (b0 : Addr), H6 cA = some (.lst (nats cs)) ∧ cs[e / 4]? = some c0 ∧ H6 Pl = some (.lst (refs bs)) ∧ bs[e / 4]? = some b0 ∧ H6 b0 = some (.lst (nats q0)) ∧ q0[e % 4]? = some r0 ∧ (blocks bl).getD e 0 = 4 * c0 + r0 := fun e he H6 s6 => by
            obtain ⟨c0, q0, r0, g1, g2, g3, g4⟩ := name e he
            obtain ⟨b0, g5, g6⟩ := hLL6.get g2
            exact ⟨c0, q0, r0, b0, s6 _ _ (s8 _ _ hc6), g1, s6 _ _ (s8 _ _ hPl6), g5, s6 _ _ (s8 _ _ g6), g3, g4⟩
          refine lc_it (walk_tup (K := K) (a := c) (xs := [V.int (pr.1 : Nat), V.int (pr.2 : Nat)])) (fun j H6 => H6 D0 = some (.lst (nats (([pr.1, pr.2].take j).map fun e => (blocks bl).getD e 0))) ∧ Same H9 H6) ⟨upd_same, sD⟩ (fun j H6 _ h => SqT.of (h.2 _ _ pc9)) ?_ ?_
          · rintro j x H6 HX hj ⟨h6, s6⟩ ⟨rfl, hx⟩
            have hj : j < 2 := hj
            obtain ⟨e, he, ee, ej⟩ : ∃ e : Nat, e < 4 * many ∧ x = V.int (e : Nat) ∧ [pr.1, pr.2][j]? = some e := by
              have hx : [V.int (pr.1 : Nat), V.int (pr.2 : Nat)][j]? = some x := hx
              have hc : j = 0 ∨ j = 1 := by omega
              rcases hc with rfl | rfl
              · cases hx
                exact ⟨pr.1, lx, rfl, rfl⟩
              · cases hx
                exact ⟨pr.2, ly, rfl, rfl⟩
            subst ee
            obtain ⟨c0, q0, r0, b0, g0, g1, g2, g3, g4, g5, g6⟩ := nm e he _ s6
            have d4 : ((e : Nat) : Int) / 4 = ((e / 4 : Nat) : Int) := by omega
            have m4 : ((e : Nat) : Int) % 4 = ((e % 4 : Nat) : Int) := by omega
            refine ⟨rfl, yes ⟨_, rfl, _, rfl, _, _, rfl, rfl, ⟨by decide, by decide⟩, cA, _, _, V.int (c0 : Nat), rfl, rfl, SqL.of g0, at_of (j := e / 4) d4 (nats_at g1), _, _, rfl, rfl, .inl ⟨by decide, by decide⟩, ?_⟩⟩
            refine ⟨_, rfl, _, rfl, _, _, rfl, rfl, ⟨by decide, by decide⟩, Pl, _, _, V.ref b0, rfl, rfl, SqL.of g2, at_of (j := e / 4) d4 (by rw [List.getElem?_map, g3]; rfl), _, rfl, _, _, rfl, rfl, (by show (0 : Int) < 4; decide), b0, _, _, V.int (r0 : Nat), rfl, rfl, SqL.of g4, at_of (j := e % 4) m4 (nats_at g5), _, _, rfl, rfl, _, h6, small1000 ?_, ?_, fun b o eo => ?_⟩
            · rw [List.length_map, List.length_map, List.length_take]
              show min j 2 ≤ 1000
              omega
            · rw [upd_same, List.take_succ, ej, Option.toList_some, List.map_append, nats_app]
              show some (HO.lst (_ ++ [V.int (4 * ((c0 : Nat) : Int) + ((r0 : Nat) : Int))])) = some (HO.lst (_ ++ [V.int (((blocks bl).getD e 0 : Nat) : Int)]))
              rw [g6, show ((4 * c0 + r0 : Nat) : Int) = 4 * ((c0 : Nat) : Int) + ((r0 : Nat) : Int) by omega]
            · rw [upd_ne (ne_of_none eo hD0)]
              exact s6 _ _ eo
          · rintro H6 ⟨h6, s6⟩
            have h6 : H6 D0 = some (.lst ([(((blocks bl).getD pr.1 0 : Nat) : Int), (((blocks bl).getD pr.2 0 : Nat) : Int)].map V.int)) := h6
            have hF6 := s6 _ _ hF8
            refine ⟨_, rfl, .inl ⟨rfl, _, SqL.of hF6⟩, _, rfl, D0, _, rfl, SqL.of h6, Nat.succ_pos _, fun m1 hm1 hle1 => ⟨_, rfl, D0, _, rfl, SqL.of h6, Nat.succ_pos _, fun m2 hm2 hle2 => ⟨two_le, fun t hT => ?_⟩⟩⟩
            rw [min_low hm1 hle1, max_low hm2 hle2]
            have sT := Same.new (o := .tup [V.int (((low ((blocks bl).getD pr.1 0) ((blocks bl).getD pr.2 0)).1 : Nat) : Int), V.int (((low ((blocks bl).getD pr.1 0) ((blocks bl).getD pr.2 0)).2 : Nat) : Int)]) hT
            have hF7 := sT _ _ hF6
            have ldq : ds.length = q := by
              rw [hD8.len, List.length_map, List.length_take]
              omega
            have s69 := s6.trans sT
            have hD9 := hD8.mono (sameT s69)
            have hFd0 : H7 Fd = none := hFd
            refine ⟨Fd, _, _, rfl, rfl, hF7, small1000 (by rw [List.length_map]; omega), ?_⟩
            have hT7 : (upd H6 t (.tup [V.int (((low ((blocks bl).getD pr.1 0) ((blocks bl).getD pr.2 0)).1 : Nat) : Int), V.int (((low ((blocks bl).getD pr.1 0) ((blocks bl).getD pr.2 0)).2 : Nat) : Int)])) t = some (.tup [V.int (((low ((blocks bl).getD pr.1 0) ((blocks bl).getD pr.2 0)).1 : Nat) : Int), V.int (((low ((blocks bl).getD pr.1 0) ((blocks bl).getD pr.2 0)).2 : Nat) : Int)]) := upd_same
            have sB := s8.trans s69
            generalize upd H6 t (.tup [V.int (((low ((blocks bl).getD pr.1 0) ((blocks bl).getD pr.2 0)).1 : Nat) : Int), V.int (((low ((blocks bl).getD pr.1 0) ((blocks bl).getD pr.2 0)).2 : Nat) : Int)]) = HT at hF7 hD9 hT7 sB
            have k9 : ∀ b xs, HT b = some (.tup xs) → (upd HT Fd (.lst (refs ds ++ [V.ref t]))) b = some (.tup xs) := fun b xs h => (upd_ne (ne_of h hF7 (by intro z; cases z))).trans h
            refine ⟨_, _, ds ++ [t], rfl, by rw [upd_same, refs_app]; rfl, ?_, fun b o eo => ?_⟩
            · rw [List.take_succ, hpr, Option.toList_some, List.map_append]
              exact (hD9.mono k9).app (.cons (k9 _ _ hT7) .nil)
            · rw [upd_ne (ne_of_none eo hFd0)]
              exact sB _ _ eo
        · rintro σ H8 ⟨v9, v10, ds, rfl, hF8, hD8, s8⟩
          have e1 : (refs as).length = ps.length := by rw [List.length_map, hP.len]
          rw [e1, List.take_length] at hD8
          refine ⟨_, rfl, ?_⟩
          show rSortedPO K [V.ref Fd] H8 (fun x H1 => kTup K x H1 Q)
          refine rd_sorted (SqL.of hF8) hD8 fun gs ms l2 hC hperm hle hl2 => ?_
          have s9 := Same.new (o := .lst (refs gs)) hl2
          refine .inl ⟨l2, _, rfl, SqL.of upd_same, fun u2 hu2 => ?_⟩
          have s10 := Same.new (o := .tup (refs gs)) hu2
          have sA := s8.trans (s9.trans s10)
          exact k _ u2 ms ((M6'.keep sA).lt (by omega) (by omega)) (e06.trans (ExtL.same sA)) ⟨called_yard G cal hperm hle, gs, upd_same, hC.mono (sameT (s9.trans s10))⟩
end
end One
end P_S5

section P_S6
set_option linter.all false
set_option maxRecDepth 100000
set_option maxHeartbeats 8000000
namespace One
open PySem PySem.Spec PyProof.Rows L2
abbrev sSZ : Stmt := top 39
abbrev nSZ : List Str := ["state", "most", "some"]
theorem scSZ : FnScope nSZ ["state", "most"] (defScope sSZ) := ⟨rfl, rfl, rfl, by decide +kernel, rfl, by decide +kernel, by decide +kernel⟩
def spSZ : Sp := fun vs H Q _ => ∃ (p a l : Addr) (n most : Nat), vs = [.ref p, .int (most : Nat)] ∧ ML H p a l n ∧ n ≤ 900000 ∧ 3 ≤ most ∧ most ≤ 40 ∧
  ∀ (H' : Hp) (r : Nat), ML H' p a l (n + 4) → ExtL p l H H' → 0 < r → r ≤ most → Q (.int (r : Nat)) H'
section
variable {P : Program} {w : World} {K : PySem.W.Frag} {mg : Str → Option Value} {base : Heap}
theorem ok_size {f fD : Addr} {fd fdD : FuncData} (F : Fun K "_law_size" "_law_size" sSZ f fd) (hmin : mg "min" = none) (D : Cal K mg "_law_draw" fD fdD ["state", "many"]) (GD : FnOk P w K mg base CX0 2 fD fdD ["state", "many"] spDR) : FnOk P w K mg base CX0 3 f fd ["state", "most"] spSZ := by
  refine F.ok scSZ (fun vs H Q E h => ?_) (fun cdv A outer s H vs Q E hr h => ?_)
  · obtain ⟨p, a, l, n, most, rfl, _⟩ := h
    rfl
  · obtain ⟨p, a, l, n, most, rfl, M, hn, h3, h40, k⟩ := h
    have nd := scSZ.nd
    have hr2 : Room 2 _ := hr
    refine ⟨_, pss_cons (ps_set (i := 2) nd rfl (Or.inl rfl) (pe_lst (pa_cons (pe_op op_add pe_int (pe_call GD hr2 rfl D.g D.kp D.b .nil pass0 (pa_cons (pv 0) (pa_cons pe_int pa_nil)))) (pa_cons (pe_callB (call_min2 rfl) (by rfl) hmin boot_min (pa_cons (pv 1) (pa_cons (pe_op op_add pe_int (pe_call GD hr2 rfl D.g D.kp D.b .nil pass0 (pa_cons (pv 0) (pa_cons pe_int pa_nil)))) pa_nil))) (pa_cons (pe_op op_add pe_int (pe_call GD hr2 rfl D.g D.kp D.b .nil pass0 (pa_cons (pv 0) (pa_cons (pv 1) pa_nil)))) pa_nil)))))
      (pss_one (ps_ret (pe_ix ix_list (pv 2) (pe_call GD hr2 rfl D.g D.kp D.b .nil pass0 (pa_cons (pv 0) (pa_cons pe_int pa_nil))) (fun _ _ => rfl)))), ?_⟩
    refine ⟨_, rfl, p, a, l, n, 3, rfl, M, by omega, by decide, by decide, fun H1 q1 M1 e1 a0 a1 => ⟨_, _, rfl, rfl, ?_⟩⟩
    refine ⟨_, rfl, _, rfl, p, a, l, _, 7, rfl, M1, by omega, by decide, by decide, fun H2 q2 M2 e2 b0 b1 => ⟨_, _, rfl, rfl, _, _, rfl, ?_⟩⟩
    refine ⟨_, rfl, _, rfl, p, a, l, _, _, rfl, M2, by omega, by omega, by omega, fun H3 q3 M3 e3 c0 c1 => ⟨_, _, rfl, rfl, (by show 3 ≤ sizeLine; decide), fun L hL => ?_⟩⟩
    obtain ⟨nLp, nLl⟩ := M3.apart hL
    have sL := Same.new (o := .lst [V.int (1 + q1), V.int (if 2 + q2 < ((most : Nat) : Int) then 2 + q2 else ((most : Nat) : Int)), V.int (1 + q3)]) hL
    refine ⟨_, rfl, _, rfl, p, a, l, _, 3, rfl, M3.keep sL, by omega, by decide, by decide, fun H4 q4 M4 e4 d0 d1 => ?_⟩
    have hL4 := e4 _ _ nLp nLl (upd_same (H := H3) (a := L) (o := .lst [V.int (1 + q1), V.int (if 2 + q2 < ((most : Nat) : Int) then 2 + q2 else ((most : Nat) : Int)), V.int (1 + q3)]))
    have eA := e1.trans (e2.trans (e3.trans ((ExtL.same sL).trans e4)))
    have M4 : ML H4 p a l (n + 4) := M4
    have fin : ∀ z : Int, 0 < z → z ≤ (most : Int) → Q (.int z) H4 := fun z z0 z1 => by
      have := k H4 z.toNat M4 eA (by omega) (by omega)
      rw [show ((z.toNat : Nat) : Int) = z by omega] at this
      exact this
    have hc : q4 = 0 ∨ q4 = 1 ∨ q4 = 2 := by omega
    rcases hc with rfl | rfl | rfl
    · exact ⟨L, _, _, _, rfl, rfl, SqL.of hL4, rfl, fin _ (by omega) (by omega)⟩
    · exact ⟨L, _, _, _, rfl, rfl, SqL.of hL4, rfl, fin _ (by split <;> omega) (by split <;> omega)⟩
    · exact ⟨L, _, _, _, rfl, rfl, SqL.of hL4, rfl, fin _ (by omega) (by omega)⟩
end
end One
end P_S6

section P_S7
set_option linter.all false
set_option maxRecDepth 100000
set_option maxHeartbeats 8000000
namespace One
open PySem PySem.Spec PyProof.Rows L2
/-- a dict from ends to ends -/
def fkv (F : Nat → Nat) (es : List Nat) : List (Key × V) := es.map fun e => (Sum.inl ((e : Nat) : Int), V.int (F e : Nat))
theorem fkv_snoc (F : Nat → Nat) (es : List Nat) (e : Nat) : fkv F (es ++ [e]) = fkv F es ++ [(Sum.inl ((e : Nat) : Int), V.int (F e : Nat))] := by
  unfold fkv
  rw [List.map_append]
  rfl
theorem fkv_in {F : Nat → Nat} : ∀ {es : List Nat} {e : Nat}, e ∈ es → valV (fkv F es) (Sum.inl ((e : Nat) : Int)) = some (.int (F e : Nat))
  | [], e, h => absurd h (by simp)
  | x :: es, e, h => by
    by_cases q : x = e
    · subst q
      exact valV_pos rfl
    · have m : e ∈ es := (List.mem_cons.mp h).resolve_left fun z => q z.symm
      have ne : ¬ ((Sum.inl ((x : Nat) : Int) : Key) = Sum.inl ((e : Nat) : Int)) := fun z => q (by have := Sum.inl.inj z; omega)
      exact (valV_neg (p := ((Sum.inl ((x : Nat) : Int) : Key), V.int (F x : Nat))) ne).trans (fkv_in m)
theorem fkv_out {F : Nat → Nat} : ∀ {es : List Nat} {e : Nat}, e ∉ es → valV (fkv F es) (Sum.inl ((e : Nat) : Int)) = none
  | [], e, _ => valV_nil
  | x :: es, e, h => by
    have ne : ¬ ((Sum.inl ((x : Nat) : Int) : Key) = Sum.inl ((e : Nat) : Int)) := fun z => h (by
      have := Sum.inl.inj z
      rw [show x = e by omega]
      exact List.mem_cons_self ..)
    exact (valV_neg (p := ((Sum.inl ((x : Nat) : Int) : Key), V.int (F x : Nat))) ne).trans (fkv_out fun m => h (List.mem_cons_of_mem _ m))
theorem fkv_put {F : Nat → Nat} {es : List Nat} {e y : Nat} (h : e ∉ es) (hy : y = F e) : putK (fkv F es) (Sum.inl ((e : Nat) : Int)) (.int (y : Nat)) = fkv F (es ++ [e]) := by
  rw [putK_new _ (fkv_out h), fkv_snoc, hy]
theorem ends_take {ps : List (Nat × Nat)} {i : Nat} {p : Nat × Nat} (h : ps[i]? = some p) : ends (ps.take (i + 1)) = ends (ps.take i) ++ [p.1, p.2] := by
  rw [List.take_succ, h, Option.toList_some, ends_append]
  rfl
abbrev sFA : Stmt := top 40
abbrev nFA : List Str := ["yard", "found", "one", "other"]
theorem scFA : FnScope nFA ["yard"] (defScope sFA) := ⟨rfl, rfl, rfl, by decide +kernel, rfl, by decide +kernel, by decide +kernel⟩
def spFA : Sp := fun vs H Q _ => ∃ (t : Addr) (n : Nat) (as : List Addr) (ps : List (Nat × Nat)), vs = [.ref t] ∧ H t = some (.tup (refs as)) ∧ PL H as ps ∧ Lines n ps ∧ n ≤ 100 ∧
  ∀ (H' : Hp) (D : Addr), Same H H' → H D = none → H' D = some (.dK (fkv (far ps) (ends ps))) → Q (.ref D) H'
section
variable {P : Program} {w : World} {K : PySem.W.Frag} {mg : Str → Option Value} {base : Heap}
theorem ok_far {f : Addr} {fd : FuncData} (F : Fun K "_law_far" "_law_far" sFA f fd) : FnOk P w K mg base CX0 1 f fd ["yard"] spFA := by
  refine F.ok scFA (fun vs H Q E h => ?_) (fun cdv A outer s H vs Q E hr h => ?_)
  · obtain ⟨t, n, as, ps, rfl, _⟩ := h
    rfl
  · obtain ⟨t, n, as, ps, rfl, ht, hP, L, hn, k⟩ := h
    have nd := scFA.nd
    have hu := hu_of hr
    refine ⟨_, pss_cons (ps_set (i := 1) nd rfl (Or.inl rfl) pe_dnewK)
      (pss_cons (ps_for PassesOwn.never rfl (pi_tup (pv 0)) (pg_tup rfl (pgs_cons (pg_name (i := 2) nd rfl (Or.inl rfl)) (pgs_cons (pg_name (i := 3) nd rfl (Or.inl rfl)) pgs_nil)))
        (pss_cons (ps_dput hu (pv 1) (pv 2) (pv 3) rfl)
      (pss_one (ps_dput hu (pv 1) (pv 3) (pv 2) rfl))))
      (pss_one (ps_ret (pv 1)))), ?_⟩
    refine fun D hD => ?_
    have sD := Same.new (o := .dK []) hD
    refine ⟨_, rfl, t, rfl, ⟨_, SqT.of (sD _ _ ht)⟩, ?_⟩
    refine for_it (walk_tup (K := K) (a := t) (xs := refs as)) (fun i σ H' => ∃ v2 v3 : Option V, σ = [some (.ref t), some (.ref D), v2, v3] ∧ H' D = some (.dK (fkv (far ps) (ends (ps.take i)))) ∧ Same H H') ⟨none, none, rfl, upd_same, sD⟩ (fun i σ H' _ ⟨_, _, _, _, s'⟩ => SqT.of (s' _ _ ht)) ?_ ?_
    · rintro i v σ H6 H7 hi ⟨v2, v3, rfl, h6, s6⟩ ⟨rfl, hv⟩
      have hv : (refs as)[i]? = some v := hv
      rw [List.length_map] at hi
      rw [List.getElem?_map, List.getElem?_eq_getElem hi] at hv
      cases hv
      obtain ⟨p, hp, pc⟩ := hP.got (List.getElem?_eq_getElem hi)
      have et := ends_take hp
      have ndt : (ends (ps.take (i + 1))).Nodup := by
        have e : ends ps = ends (ps.take (i + 1)) ++ ends (ps.drop (i + 1)) := by rw [← ends_append, List.take_append_drop]
        have := L.nd
        rw [e] at this
        exact (List.nodup_append.mp this).1
      rw [et] at ndt
      obtain ⟨_, nd2, nd3⟩ := List.nodup_append.mp ndt
      have n1 : p.1 ∉ ends (ps.take i) := fun m => nd3 _ m _ (by simp) rfl
      have n2 : p.2 ∉ ends (ps.take i) := fun m => nd3 _ m _ (by simp) rfl
      have n12 : p.2 ≠ p.1 := fun z => by
        rw [z] at nd2
        simp at nd2
      obtain ⟨f1, f2⟩ := far_of L.nd (List.mem_of_getElem? hp)
      have len : ∀ es : List Nat, es.length ≤ 500 → (fkv (far ps) es).length < sizeLine := fun es h => by
        unfold fkv
        rw [List.length_map]
        exact small1000 (by omega)
      have le : (ends (ps.take i)).length ≤ 400 := by
        have nd' : (ends (ps.take i)).Nodup := (List.nodup_append.mp ndt).1
        have := pigeon (4 * n) _ nd' fun x hx => L.lt x (by
          have e : ends ps = ends (ps.take i) ++ ends (ps.drop i) := by rw [← ends_append, List.take_append_drop]
          rw [e]
          exact List.mem_append_left _ hx)
        omega
      refine ⟨_, _, rfl, SqT.of (s6 _ _ pc), rfl, _, _, rfl, _, _, rfl, rfl, ?_⟩
      have p1 := DPut.k (k := Sum.inl ((p.1 : Nat) : Int)) (v := .int (p.2 : Nat)) h6 (len _ (by omega))
      rw [fkv_put n1 f1.symm] at p1
      refine ⟨_, rfl, _, rfl, _, rfl, D, _, rfl, p1, ?_⟩
      have h7 : (upd H7 D (.dK (fkv (far ps) (ends (ps.take i) ++ [p.1])))) D = some (.dK (fkv (far ps) (ends (ps.take i) ++ [p.1]))) := upd_same
      have p2 := DPut.k (k := Sum.inl ((p.2 : Nat) : Int)) (v := .int (p.1 : Nat)) h7 (len _ (by rw [List.length_append]; show _ + 1 ≤ 500; omega))
      rw [fkv_put (fun m => by
        rcases List.mem_append.mp m with m | m
        · exact n2 m
        · exact n12 (List.mem_singleton.mp m)) f2.symm] at p2
      refine ⟨_, rfl, _, rfl, _, rfl, D, _, rfl, p2, ?_⟩
      refine ⟨_, _, rfl, ?_, fun b o e => ?_⟩
      · rw [upd_same, et, List.append_assoc]
        rfl
      · rw [upd_ne (ne_of_none e hD), upd_ne (ne_of_none e hD)]
        exact s6 _ _ e
    · rintro σ H6 ⟨v2, v3, rfl, h6, s6⟩
      rw [List.length_map, hP.len, List.take_length] at h6
      exact ⟨_, rfl, k _ D s6 hD h6⟩
end
end One
end P_S7

section P_S8
set_option linter.all false
set_option maxRecDepth 100000
set_option maxHeartbeats 8000000
namespace One
open PySem PySem.Spec PyProof.Rows L2
theorem fkv_get {H : Hp} {D : Addr} {n e : Nat} {ps : List (Nat × Nat)} (L : Lines n ps) (h : H D = some (.dK (fkv (far ps) (ends ps)))) (he : e < 4 * n) : DGet H D (.int ((e : Nat) : Int)) (some (.int (far ps e : Nat))) := by
  have q := DGet.k (k := Sum.inl ((e : Nat) : Int)) h
  rw [fkv_in (ends_full L he)] at q
  exact q
/-- where one comes to behind so many steps from the first end of a crossing -/
def goalK (F W : Nat → Nat) (c k : Nat) : Nat := F (iter (nextE F W) k (4 * c))
theorem goal_next (F W : Nat → Nat) (c k : Nat) : goalK F W c (k + 1) = F (goalK F W c k ^^^ (W (goalK F W c k / 4) + 1)) := rfl
/-- the first of its four ends to which one comes -/
structure OutAt (F W : Nat → Nat) (c j : Nat) : Prop where
  here : goalK F W c j / 4 = c
  first : ∀ i, i < j → goalK F W c i / 4 ≠ c
theorem out_some {F W : Nat → Nat} {n c : Nat} (I : Inv2 F n) (hW : ∀ c, c < n → W c < 3) (hc : c < n) : ∃ j, OutAt F W c j := by
  have G := next_goes I hW
  obtain ⟨kk, per, _⟩ := G.per (s := 4 * c) (by omega)
  have pos := per.pos
  have last : goalK F W c (kk - 1) / 4 = c := by
    have b := per.back
    rw [show kk = (kk - 1) + 1 by omega] at b
    have l := I.lt _ (G.iter_lt (show 4 * c < 4 * n by omega) (kk - 1))
    have blk : (goalK F W c (kk - 1) ^^^ (W (goalK F W c (kk - 1) / 4) + 1)) / 4 = goalK F W c (kk - 1) / 4 := mate_block (hW _ (by show F _ / 4 < n; omega))
    have b : goalK F W c (kk - 1) ^^^ (W (goalK F W c (kk - 1) / 4) + 1) = 4 * c := b
    rw [b] at blk
    omega
  have least : ∀ k, goalK F W c k / 4 = c → ∃ j, OutAt F W c j := by
    intro k
    induction k using Nat.strongRecOn with
    | ind k ih =>
      intro h
      by_cases q : ∃ i, i < k ∧ goalK F W c i / 4 = c
      · obtain ⟨i, hi, e⟩ := q
        exact ih i hi e
      · exact ⟨k, h, fun i hi e => q ⟨i, hi, e⟩⟩
  exact least _ last
theorem goal_ne {F W : Nat → Nat} {n c j : Nat} (I : Inv2 F n) (hW : ∀ c, c < n → W c < 3) (hc : c < n) : goalK F W c j ≠ 4 * c := fun h => by
  have G := next_goes I hW
  have l := G.iter_lt (show 4 * c < 4 * n by omega) j
  have h' : F (iter (nextE F W) j (4 * c)) = 4 * c := h
  have : iter (nextE F W) j (4 * c) = F (4 * c) := by
    have q := I.inv _ l
    rw [h'] at q
    exact q.symm
  exact no_far I hW (by omega) j this
abbrev sOU : Stmt := top 41
abbrev nOU : List Str := ["fars", "setting", "crossing", "goal"]
theorem scOU : FnScope nOU ["fars", "setting", "crossing"] (defScope sOU) := ⟨rfl, rfl, rfl, by decide +kernel, rfl, by decide +kernel, by decide +kernel⟩
def spOU : Sp := fun vs H Q _ => ∃ (D S : Addr) (n c : Nat) (ps : List (Nat × Nat)) (ws : List Nat), vs = [.ref D, .ref S, .int (c : Nat)] ∧ Lines n ps ∧ H D = some (.dK (fkv (far ps) (ends ps))) ∧ H S = some (.lst (nats ws)) ∧ ws.length = n ∧ (∀ x ∈ ws, x < 3) ∧ c < n ∧
  ∀ (j o : Nat), OutAt (far ps) (wayL ws) c j → o < 3 → goalK (far ps) (wayL ws) c j = 4 * c + o + 1 → Q (.int (o : Nat)) H
section
variable {P : Program} {w : World} {K : PySem.W.Frag} {mg : Str → Option Value} {base : Heap}
theorem ok_outer {f : Addr} {fd : FuncData} (F : Fun K "_law_outer" "_law_outer" sOU f fd) : FnOk P w K mg base CX0 1 f fd ["fars", "setting", "crossing"] spOU := by
  refine F.ok scOU (fun vs H Q E h => ?_) (fun cdv A outer s H vs Q E hr h => ?_)
  · obtain ⟨D, S, n, c, ps, ws, rfl, _⟩ := h
    rfl
  · obtain ⟨D, S, n, c, ps, ws, rfl, L, hD, hS, hl, hw, hc, k⟩ := h
    have nd := scOU.nd
    have hu := hu_of hr
    refine ⟨_, C8.pss_cut (ps_set (i := 3) nd rfl (Or.inl rfl) (pe_dget hu (pv 0) (pe_op op_mul pe_int (pv 2)) (fun _ _ => rfl)))
      (pss_cons (ps_while PassesOwn.never (pt_cmpR op_ne (pe_op op_fdiv (pv 3) pe_int) (pv 2) (nomark _))
        (pss_one (ps_set (i := 3) nd rfl (Or.inl rfl) (pe_dget hu (pv 0) (pe_op op_xor (pv 3) (pe_op op_add (pe_ix ix_list (pv 1) (pe_op op_fdiv (pv 3) pe_int) (fun _ _ => rfl)) pe_int)) (fun _ _ => rfl)))))
      (pss_one (ps_ret (pe_op op_sub (pe_op op_mod (pv 3) pe_int) pe_int)))), ?_⟩
    have I := far_inv L
    have hWl : ∀ x, x < n → wayL ws x < 3 ∧ ws[x]? = some (wayL ws x) := fun x hx => by
      have hl' : x < ws.length := by omega
      unfold wayL
      rw [List.getD_eq_getElem?_getD, List.getElem?_eq_getElem hl']
      exact ⟨hw _ (List.getElem_mem hl'), rfl⟩
    have hW : ∀ x, x < n → wayL ws x < 3 := fun x hx => (hWl x hx).1
    have G := next_goes I hW
    obtain ⟨j, O⟩ := out_some I hW hc
    have gl : ∀ i, goalK (far ps) (wayL ws) c i < 4 * n := fun i => I.lt _ (G.iter_lt (by omega) i)
    refine ⟨fun σ H2 => σ = [some (.ref D), some (.ref S), some (.int (c : Nat)), some (.int (goalK (far ps) (wayL ws) c 0 : Nat))] ∧ H2 = H, ?_, ?_⟩
    · have q := fkv_get L hD (show 4 * c < 4 * n by omega)
      rw [show ((4 * c : Nat) : Int) = 4 * ((c : Nat) : Int) by omega] at q
      exact ⟨_, rfl, _, rfl, _, _, rfl, rfl, .inl ⟨by decide, by decide⟩, D, _, rfl, q, rfl, rfl⟩
    · rintro σ0 H0 ⟨rfl, rfl⟩
      unfold tSeq
      refine ⟨fun m σ H2 => ∃ i, i + m = j ∧ σ = [some (.ref D), some (.ref S), some (.int (c : Nat)), some (.int (goalK (far ps) (wayL ws) c i : Nat))] ∧ H2 = H0, ⟨j, 0, Nat.zero_add _, rfl, rfl⟩, ?_⟩
      rintro m σ H2 ⟨i, him, rfl, rfl⟩
      have d4 : ((goalK (far ps) (wayL ws) c i : Nat) : Int) / 4 = ((goalK (far ps) (wayL ws) c i / 4 : Nat) : Int) := by omega
      have hg := gl i
      refine ⟨_, rfl, _, _, rfl, rfl, ⟨by decide, by decide⟩, _, rfl, rfl, _, rfl, ?_⟩
      refine ite2 (fun hb => ?_) (fun hb => ?_)
      rotate_left
      · have hb : ¬ (!decide (V.int (((goalK (far ps) (wayL ws) c i : Nat) : Int) / 4) = V.int (c : Nat))) = true := hb
        rw [d4] at hb
        have hq : goalK (far ps) (wayL ws) c i / 4 = c := Classical.byContradiction fun q => hb (by
          rw [decide_eq_false (fun z => q (by have := V.int.inj z; omega))]
          rfl)
        have ij : i = j := by
          rcases Nat.lt_or_ge i j with h | h
          · exact absurd hq (O.first i h)
          · omega
        subst ij
        refine ⟨_, rfl, _, _, rfl, rfl, (by show (0 : Int) < 4; decide), _, _, rfl, rfl, ?_⟩
        have ne := goal_ne (j := i) I hW hc
        obtain ⟨o, ho, eo⟩ : ∃ o, o < 3 ∧ goalK (far ps) (wayL ws) c i = 4 * c + o + 1 := ⟨goalK (far ps) (wayL ws) c i - 4 * c - 1, by omega, by omega⟩
        have := k i o O ho eo
        show Q (.int (((goalK (far ps) (wayL ws) c i : Nat) : Int) % 4 - 1)) H2
        rw [show ((goalK (far ps) (wayL ws) c i : Nat) : Int) % 4 - 1 = ((o : Nat) : Int) by omega]
        exact this
      · have hb : (!decide (V.int (((goalK (far ps) (wayL ws) c i : Nat) : Int) / 4) = V.int (c : Nat))) = true := hb
        rw [d4] at hb
        have hq : ¬ goalK (far ps) (wayL ws) c i / 4 = c := fun q => by
          rw [q, decide_eq_true rfl] at hb
          cases hb
        have ij : i < j := by
          rcases Nat.lt_or_ge i j with h | h
          · exact h
          · have : i = j := by omega
            subst this
            exact absurd O.here hq
        refine ⟨fun σ' H' => ∃ i', i' + (m - 1) = j ∧ σ' = [some (.ref D), some (.ref S), some (.int (c : Nat)), some (.int (goalK (far ps) (wayL ws) c i' : Nat))] ∧ H' = H2, fun σ' H' h => ⟨m - 1, by omega, h⟩, ?_⟩
        obtain ⟨w3, wat⟩ := hWl (goalK (far ps) (wayL ws) c i / 4) (by omega)
        refine ⟨_, rfl, _, rfl, _, rfl, _, rfl, _, _, rfl, rfl, ⟨by decide, by decide⟩, S, _, _, V.int (wayL ws (goalK (far ps) (wayL ws) c i / 4) : Nat), rfl, rfl, SqL.of hS, at_of (j := goalK (far ps) (wayL ws) c i / 4) d4 (nats_at wat), _, _, rfl, rfl, _, _, rfl, rfl, D, _, rfl, ?_, i + 1, by omega, rfl, rfl⟩
        have q := fkv_get L hD (show (goalK (far ps) (wayL ws) c i ^^^ (wayL ws (goalK (far ps) (wayL ws) c i / 4) + 1)) < 4 * n by
          have := mate_block (e := goalK (far ps) (wayL ws) c i) w3
          omega)
        have ex : Builtin.bitXor ((goalK (far ps) (wayL ws) c i : Nat) : Int) (((wayL ws (goalK (far ps) (wayL ws) c i / 4) : Nat) : Int) + 1) = ((goalK (far ps) (wayL ws) c i ^^^ (wayL ws (goalK (far ps) (wayL ws) c i / 4) + 1) : Nat) : Int) := by
          rw [Bits.bitXor_pp (by omega) (by omega), show (((wayL ws (goalK (far ps) (wayL ws) c i / 4) : Nat) : Int) + 1).toNat = wayL ws (goalK (far ps) (wayL ws) c i / 4) + 1 by omega]
          rfl
        rw [← goal_next (far ps) (wayL ws) c i] at q
        rw [← ex] at q
        exact q
end
end One
end P_S8

section P_S9
set_option linter.all false
set_option maxRecDepth 100000
set_option maxHeartbeats 8000000
namespace One
open PySem PySem.Spec PyProof.Rows L2
/-! ### tuple * 1, len(dict) -/
theorem tuple_mul1 (l : Addr) (items : Array Value) (n : Nat) (dd : Option Addr) (sl : Array (Option Value)) (u : Tok) :
    Meets (Builtin.«tuple.__mul__» ⟨[.ref l, .int 1 u], []⟩) (fun _ R s => s.heap.get? l = some { cls := .type "tuple", dict := dd, data := .seq items n, slots := sl } ∧ R (.ok (.ret (Value.ref l))) s) :=
  .of_wp fun prog w A R s h => by
    obtain ⟨hp, g, d, tk, os⟩ := s
    obtain ⟨hl, h⟩ := h
    have f1 := AutoSeq1.idx_int
    have c0 : (decide ((1 : Int) < -(2 ^ 63)) || decide ((1 : Int) ≥ 2 ^ 63)) = false := by decide
    have c1 : (items.isEmpty || (1 : Int) == 1) = true := by simp
    wp_walk using wpAny_loadPart' hl
    repeat (first
      | (refine wpAny_ite_false (decide_eq_false (by rw [c0]; exact Bool.false_ne_true)) ?_; wp_walk using wpAny_loadPart' hl)
      | (refine wpAny_ite_true (decide_eq_true (by rw [c1])) ?_; wp_walk using wpAny_loadPart' hl))
    exact ⟨_, rfl, h⟩
def rRepX (K : PySem.W.Frag) : R2 := fun x y H Q => ∃ (l : Addr) (k : Nat) (v : V), x = .ref l ∧ y = .int (k : Nat) ∧ H l = some (.tup [v]) ∧ 0 < k ∧ k ≤ 1000 ∧ ∀ (H' : Hp) (p : Addr), Same H H' → H' p = some (.tup (List.replicate k v)) → Q (.ref p) H'
section
variable {X : Cx}
/-- (x,) * k -/
theorem op_repX : OpR X (binaryOp .Mult) (rRepX X.K) := by
  intro pins s σ H x y v u Q I rx ry h
  obtain ⟨l, k, z, rfl, rfl, hl, hk0, hk1, q⟩ := h
  have hT : SqT X.K H l [z] := SqT.of hl
  by_cases h1 : k = 1
  · subst h1
    cases rx
    obtain ⟨t, rfl⟩ := ry
    obtain ⟨its, r, ⟨⟨cls, dd, data, sl⟩, ho, hc, n, hd⟩, hs⟩ := I.tuple hT
    simp only at hc hd
    subst hc hd
    refine wpAny_binaryOp_repeat_ref (T := "tuple") (U := "int") (by decide) ⟨_, ho, rfl⟩ (fun s' => typeIs_int s' 1 t) noFill_tuple_mul F.fills_int_mul F.slot_int_rmul repeat_tuple F.slot_int_index.lookup
      (call_meets F.slot_int_rmul (typeIs_int s 1 t) F.entry_int_rmul (F.args_int_rmul_2 _ _) (int_rmul_tuple 1 t l its.toArray n dd sl)
        ⟨ho, rfl, ⟨_, ho, rfl⟩, call_meets F.slot_tuple_mul ⟨_, ho, rfl⟩ F.entry_tuple_mul (F.args_tuple_mul_2 _ _) (tuple_mul1 l its.toArray n dd sl t) ⟨ho, ?_⟩⟩)
    exact ⟨.ref l, H, I, rfl, q H l (Same.refl H) hl⟩
  · refine op_repT pins s σ H _ _ v u Q I rx ry ⟨l, (k : Nat), [z], rfl, rfl, hT, by simp, by omega, by omega, by show 1 ≤ 1000; decide, fun p hp => ?_⟩
    have e : (List.replicate ((k : Nat) : Int).toNat [z]).flatten = List.replicate k z := by
      rw [show ((k : Nat) : Int).toNat = k by omega]
      clear q hk0 hk1 h1 ry
      induction k with
      | zero => rfl
      | succ k ih => rw [List.replicate_succ, List.flatten_cons, ih, List.replicate_succ]; rfl
    rw [e]
    exact q _ p (Same.new hp) upd_same
theorem cr_len_d : CallR X (.builtin "len") (fun xs H Q => ∃ (p : Addr) (kvs : List (Key × V)), xs = [.ref p] ∧ H p = some (.dK kvs) ∧ Q (.int kvs.length) H) := by
  intro pins s σ H xs us Q I r h
  obtain ⟨p, kvs, rfl, hp, q⟩ := h
  rw [Vals.ref1 r]
  exact d_len I (.inl hp) fun t s' I' => ⟨.int kvs.length, H, I', ⟨_, rfl⟩, q⟩
end
end One
end P_S9

section P_SA
set_option linter.all false
set_option maxRecDepth 100000
set_option maxHeartbeats 8000000
namespace One
open PySem PySem.Spec PyProof.Rows L2
theorem ends_two : ∀ ps : List (Nat × Nat), (ends ps).length = 2 * ps.length
  | [] => rfl
  | p :: r => by
    show (ends r).length + 1 + 1 = 2 * (r.length + 1)
    rw [ends_two r]
    omega
abbrev sST : Stmt := top 42
abbrev nST : List Str := ["state", "fars", "many", "way", "found", "number", "crossing"]
theorem scST : FnScope nST ["state", "fars"] (defScope sST) := ⟨rfl, rfl, rfl, by decide +kernel, rfl, by decide +kernel, by decide +kernel⟩
def spST : Sp := fun vs H Q _ => ∃ (p a l D : Addr) (n m : Nat) (ps : List (Nat × Nat)), vs = [.ref p, .ref D] ∧ ML H p a l n ∧ n ≤ 900000 ∧ Lines m ps ∧ 0 < m ∧ m ≤ 40 ∧ D ≠ p ∧ H D = some (.dK (fkv (far ps) (ends ps))) ∧
  ∀ (H' : Hp) (t : Addr) (ws : List Nat), ML H' p a l (n + 2 + 3 * m) → ExtL p l H H' → SetAt H' t m ws → Q (.ref t) H'
section
variable {P : Program} {w : World} {K : PySem.W.Frag} {mg : Str → Option Value} {base : Heap}
theorem ok_setting {f fD fO fU : Addr} {fd fdD fdO fdU : FuncData} (F : Fun K "_law_setting" "_law_setting" sST f fd) (T : TB mg) (D : Cal K mg "_law_draw" fD fdD ["state", "many"]) (GD : FnOk P w K mg base CX0 2 fD fdD ["state", "many"] spDR)
    (O : Cal K mg "_law_order" fO fdO ["state", "size"]) (GO : FnOk P w K mg base CX0 3 fO fdO ["state", "size"] spOR) (Ou : Cal K mg "_law_outer" fU fdU ["fars", "setting", "crossing"]) (GU : FnOk P w K mg base CX0 1 fU fdU ["fars", "setting", "crossing"] spOU) : FnOk P w K mg base CX0 4 f fd ["state", "fars"] spST := by
  refine F.ok scST (fun vs H Q E h => ?_) (fun cdv A outer s H vs Q E hr h => ?_)
  · obtain ⟨p, a, l, D0, n, m, ps, rfl, _⟩ := h
    rfl
  · obtain ⟨p, a, l, D0, n, m, ps, rfl, M, hn, L, h0, h40, nDp, hD, k⟩ := h
    have nd := scST.nd
    have hr3 : Room 3 _ := hr
    have hr2 : Room 2 _ := hr.mono (by decide)
    have hr1 : Room 1 _ := hr.mono (by decide)
    have nDl : D0 ≠ l := by
      obtain ⟨_, ds, _, _, _, h3, _⟩ := M.ex
      exact ne_of hD h3 (by intro z; cases z)
    refine ⟨_, pss_cons (ps_par (i := 2) (j := 3) (by rfl) nd rfl rfl (by decide) rfl rfl (pa_cons (pe_mid (pe_op op_fdiv (pe_callB cr_len_d (by rfl) T.len PySem.boot_len (pa_cons (pv 1) pa_nil)) pe_int)) (pa_cons (pe_call GD hr2 rfl D.g D.kp D.b .nil pass0 (pa_cons (pv 0) (pa_cons pe_int pa_nil))) pa_nil)) (by rfl))
      (pss_cons (ps_if (pt_cmpR op_eq (pv 3) pe_int (nomark _)) (pss_one (ps_ret (pe_op op_repX (pe_tup (pa_cons (pe_call GD hr2 rfl D.g D.kp D.b .nil pass0 (pa_cons (pv 0) (pa_cons pe_int pa_nil))) pa_nil)) (pv 2)))) pss_nil)
      (pss_cons (ps_setLc (i := 4) (own := [("number", 5)]) (g := (gName 5)) (tt := tYes) (te := (tCall spDR [] E0 (tCons (tVar 0) (tCons (tC (.int 3)) tNil)))) rfl nd rfl rfl (sw_true rfl rfl rfl (by decide +kernel)) (pi_range1 (by rfl) T.range (pa_cons (pv 2) pa_nil)) (blkOk_by (N := nST) (sc := defScope sST) (by decide +kernel)) (fun _ _ _ _ _ => pg_name (i := 5) nd rfl (Or.inl rfl)) (fun _ _ _ _ _ => pts_nil) (fun _ _ _ _ _ => by exact (pe_call GD hr2 rfl D.g D.kp D.b .nil pass0 (pa_cons (pv 0) (pa_cons pe_int pa_nil)))))
      (pss_cons (ps_if (pt_cmpR op_gt (pv 3) pe_int (nomark _)) (pss_one (ps_for PassesOwn.never rfl (pi_list (pe_call GO hr3 rfl O.g O.kp O.b .nil pass0 (pa_cons (pv 0) (pa_cons (pv 2) pa_nil)))) (pg_name (i := 6) nd rfl (Or.inl rfl))
        (pss_one (ps_if (pt_cmpR op_gt (pe_call GD hr2 rfl D.g D.kp D.b .nil pass0 (pa_cons (pv 0) (pa_cons (pe_op op_sub (pe_op op_mul pe_int (pv 3)) pe_int) pa_nil))) pe_int (nomark _)) (pss_one (ps_asg (pe_call GU hr1 rfl Ou.g Ou.kp Ou.b .nil pass0 (pa_cons (pv 1) (pa_cons (pv 4) (pa_cons (pv 6) pa_nil)))) (pg_sub (pv 4) (pv 6) set_list))) pss_nil)))) pss_nil)
      (pss_one (ps_ret (pe_tupleOf (by rfl) T.tuple (pv 4))))))), ?_⟩
    refine ⟨fun v H1 => v = .int (m : Nat) ∧ H1 = H, ?_, ?_⟩
    · refine ⟨_, rfl, D0, _, rfl, hD, _, _, rfl, rfl, ⟨by decide, by decide⟩, ?_, rfl⟩
      have e : (((fkv (far ps) (ends ps)).length : Nat) : Int) / 4 = ((m : Nat) : Int) := by
        unfold fkv
        rw [List.length_map, ends_two, L.len]
        omega
      show V.int ((((fkv (far ps) (ends ps)).length : Nat) : Int) / 4) = _
      rw [e]
    rintro v H1' ⟨rfl, rfl⟩
    refine ⟨_, rfl, p, a, l, n, 4, rfl, M, by omega, by decide, by decide, fun H1 way M1 e1 w0 w4 => ⟨_, _, rfl, ?_⟩⟩
    have hD1 := e1 _ _ nDp nDl hD
    refine ⟨_, rfl, rfl, _, rfl, ite2 (fun _ => ?_) (fun _ => ?_)⟩
    · refine ⟨_, rfl, p, a, l, _, 3, rfl, M1, by omega, by decide, by decide, fun H2 q M2 e2 q0 q3 => ⟨by show 1 ≤ sizeLine; decide, fun t1 ht1 => ?_⟩⟩
      have s3 := Same.new (o := .tup [V.int q]) ht1
      refine ⟨_, rfl, t1, m, V.int q, rfl, rfl, upd_same, h0, by omega, fun H3 t3 s4 ht3 => ?_⟩
      have s34 := s3.trans s4
      refine k H3 t3 (List.replicate m q.toNat) ((M2.keep s34).lt (by omega) (by omega)) ((e1.trans e2).trans (ExtL.same s34)) ⟨List.length_replicate, fun x hx => ?_, ?_⟩
      · rw [(List.mem_replicate.mp hx).2]
        omega
      · rw [ht3]
        unfold nats
        rw [List.map_replicate, show ((q.toNat : Nat) : Int) = q by omega]
    · refine ⟨_, rfl, _, rfl, by omega, by omega, fun Fd hFd => ?_⟩
      rw [show ((m : Nat) : Int).toNat = m by omega]
      have sF := Same.new (o := .lst []) hFd
      obtain ⟨nFp, nFl⟩ := M1.apart hFd
      refine lc_it (walk_range (lo := 0) (n := m)) (fun i H6 => ∃ ws : List Nat, ws.length = i ∧ H6 Fd = some (.lst (nats ws)) ∧ (∀ x ∈ ws, x < 3) ∧ ML H6 p a l (n + 1 + i) ∧ ExtL p l H1 H6)
        ⟨[], rfl, upd_same, fun x h => absurd h (by simp), M1.keep sF, ExtL.same sF⟩ (fun _ _ _ _ => trivial) ?_ ?_
      · rintro i v H6 H7 hi ⟨ws, lw, h6, w6, M6, e6⟩ ⟨rfl, rfl⟩
        refine ⟨rfl, yes ⟨_, rfl, p, a, l, _, 3, rfl, M6, by omega, by decide, by decide, fun H8 q M8 e8 q0 q3 => ?_⟩⟩
        have h8 := e8 _ _ nFp nFl h6
        refine ⟨_, h8, small1000 (by rw [List.length_map]; omega), ws ++ [q.toNat], by rw [List.length_append, lw]; rfl, ?_, fun x hx => ?_, (ML.wrN M1 hFd M8).lt (by omega) (by omega), (e6.trans e8).wr hFd⟩
        · rw [upd_same, nats_app]
          show some (HO.lst (nats ws ++ [V.int q])) = some (HO.lst (nats ws ++ [V.int ((q.toNat : Nat) : Int)]))
          rw [show ((q.toNat : Nat) : Int) = q by omega]
        · rcases List.mem_append.mp hx with h | h
          · exact w6 x h
          · rw [List.mem_singleton.mp h]
            omega
      · rintro H6 ⟨ws, lw, h6, w6, M6, e6⟩
        have fin : ∀ (H' : Hp) (ws' : List Nat), H' Fd = some (.lst (nats ws')) → ws'.length = m → (∀ x ∈ ws', x < 3) → ML H' p a l (n + 1 + 3 * m) → ExtL p l H1 H' → kTup K (.ref Fd) H' Q := fun H' ws' hF hlw hw M' e' => by
          refine .inl ⟨Fd, _, rfl, SqL.of hF, fun u hu => ?_⟩
          have su := Same.new (o := .tup (nats ws')) hu
          exact k _ u ws' ((M'.keep su).lt (by omega) (by omega)) ((e1.trans e').trans (ExtL.same su)) ⟨hlw, hw, upd_same⟩
        refine ⟨_, rfl, _, _, rfl, rfl, _, rfl, ite2 (fun hb => ?_) (fun _ => ?_)⟩
        · have hw1 : (1 : Int) < way := of_decide_eq_true hb
          refine ⟨_, rfl, _, rfl, p, a, l, _, m, rfl, M6, by omega, by omega, fun H7 b cs M7 e7 hbn hb7 hbp => ⟨b, rfl, ⟨_, SqL.of hb7⟩, ?_⟩⟩
          obtain ⟨nbp, nbl⟩ := M6.apart hbn
          have h7 := e7 _ _ nFp nFl h6
          have nFb : Fd ≠ b := ne_of_none h6 hbn
          have lcs : cs.length = m := by rw [hbp.length_eq, List.length_range]
          refine for_it (walk_list (K := K) (a := b) (xs := nats cs)) (fun i σ H' => ∃ (v5 v6 : Option V) (ws' : List Nat), σ = [some (.ref p), some (.ref D0), some (.int (m : Nat)), some (.int way), some (.ref Fd), v5, v6] ∧ ws'.length = m ∧ (∀ x ∈ ws', x < 3) ∧ H' Fd = some (.lst (nats ws')) ∧ H' b = some (.lst (nats cs)) ∧ ML H' p a l (n + 1 + 2 * m + i) ∧ ExtL p l H1 H')
            ⟨_, _, ws, rfl, lw, w6, h7, hb7, M7.lt (by omega) (by omega), e6.trans e7⟩ (fun i σ H' _ ⟨_, _, _, _, _, _, _, h', _⟩ => SqL.of h') ?_ ?_
          · rintro i v σ H8 H9 hi ⟨v5, v6, ws', rfl, lw', w', hF9, hb9, M9, e9⟩ ⟨rfl, hv⟩
            have hv : (nats cs)[i]? = some v := hv
            rw [List.length_map] at hi
            rw [List.getElem?_map, List.getElem?_eq_getElem hi] at hv
            cases hv
            have hcm : cs[i] < m := List.mem_range.mp (hbp.mem_iff.mp (List.getElem_mem hi))
            generalize cs[i] = c at hcm
            refine ⟨_, rfl, _, rfl, _, _, rfl, rfl, .inl ⟨by decide, by decide⟩, _, _, rfl, rfl, p, a, l, _, _, rfl, M9, by omega, by omega, by omega, fun HA q MA eA q0 q1 => ⟨_, _, rfl, rfl, _, rfl, ite2 (fun _ => ?_) (fun _ => ?_)⟩⟩
            · have hFA := eA _ _ nFp nFl hF9
              have hDA := (e9.trans eA) _ _ nDp nDl hD1
              refine ⟨_, rfl, _, rfl, _, rfl, D0, Fd, m, c, ps, ws', rfl, L, hDA, hFA, lw', w', hcm, fun j o OA ho eo => ?_⟩
              refine ⟨_, rfl, _, rfl, Fd, _, _, c, rfl, rfl, hFA, ix_nat (by rw [List.length_map, lw']; exact hcm), ?_⟩
              have es : (nats ws').set c (V.int (o : Nat)) = nats (ws'.set c o) := (List.map_set).symm
              rw [es]
              refine ⟨_, _, ws'.set c o, rfl, by rw [List.length_set]; exact lw', fun x hx => ?_, upd_same, (upd_ne (Ne.symm nFb)).trans (eA _ _ nbp nbl hb9), ML.wrN M1 hFd MA, (e9.trans eA).wr hFd⟩
              rcases List.mem_or_eq_of_mem_set hx with h | h
              · exact w' x h
              · rw [h]
                exact ho
            · exact ⟨_, _, ws', rfl, lw', w', eA _ _ nFp nFl hF9, eA _ _ nbp nbl hb9, MA, e9.trans eA⟩
          · rintro σ H8 ⟨v5, v6, ws', rfl, lw', w', hF9, hb9, M9, e9⟩
            rw [List.length_map, lcs] at M9
            exact ⟨_, rfl, fin _ ws' hF9 lw' w' (M9.lt (by omega) (by omega)) e9⟩
        · exact ⟨_, rfl, fin _ ws h6 lw w6 (M6.lt (by omega) (by omega)) e6⟩
end
end One
end P_SA

section P_M24
set_option linter.all false
/-! Parts of lines that hang together over joined ends: as many as rounds. -/
namespace One
section
variable {F W : Nat → Nat} {n : Nat}
/-- the end with which an end is joined -/
def mateE (W : Nat → Nat) (e : Nat) : Nat := e ^^^ (W (e / 4) + 1)
def Has (F W : Nat → Nat) (p : Nat × Nat) (e : Nat) : Prop := e ∈ rnd (nextE F W) p.1 p.2 ∨ F e ∈ rnd (nextE F W) p.1 p.2
theorem has_far (I : Inv2 F n) {p : Nat × Nat} {e : Nat} (he : e < 4 * n) (h : Has F W p e) : Has F W p (F e) := by
  rcases h with h | h
  · exact .inr (by rw [I.inv e he]; exact h)
  · exact .inl h
theorem rnd_next {f : Nat → Nat} {s k x : Nat} (a : Per f s k) (h : x ∈ rnd f s k) : f x ∈ rnd f s k := by
  obtain ⟨i, _, rfl⟩ := mem_rnd.mp h
  exact a.mod (i + 1)
theorem rnd_prev {f : Nat → Nat} {s k x : Nat} (a : Per f s k) (h : x ∈ rnd f s k) : ∃ y ∈ rnd f s k, f y = x := by
  obtain ⟨i, hi, rfl⟩ := mem_rnd.mp h
  cases i with
  | zero =>
    refine ⟨iter f (k - 1) s, a.mod _, ?_⟩
    have : iter f ((k - 1) + 1) s = s := by rw [show k - 1 + 1 = k by have := a.pos; omega]; exact a.back
    exact this
  | succ i => exact ⟨iter f i s, a.mod i, rfl⟩
theorem mateE_inv (hW : ∀ c, c < n → W c < 3) {e : Nat} (he : e < 4 * n) : mateE W (mateE W e) = e := by
  have hb := mate_block (e := e) (hW (e / 4) (by omega))
  unfold mateE
  rw [hb, Nat.xor_assoc, Nat.xor_self, Nat.xor_zero]
theorem mate_lt (hW : ∀ c, c < n → W c < 3) {e : Nat} (he : e < 4 * n) : mateE W e < 4 * n := by
  have hb := mate_block (e := e) (hW (e / 4) (by omega))
  have : (mateE W e) / 4 = e / 4 := hb
  omega
theorem next_mate (e : Nat) : nextE F W e = mateE W (F e) := rfl
theorem has_mate (I : Inv2 F n) (hW : ∀ c, c < n → W c < 3) {p : Nat × Nat} (hp : p.1 < 4 * n) (a : Per (nextE F W) p.1 p.2) {e : Nat} (he : e < 4 * n) (h : Has F W p e) : Has F W p (mateE W e) := by
  rcases h with h | h
  · obtain ⟨y, hy, ey⟩ := rnd_prev a h
    have yl := rnd_lt I hW hp hy
    have e1 : mateE W e = F y := by
      rw [← ey, next_mate, mateE_inv hW (I.lt y yl)]
    rw [e1]
    exact .inr (by rw [I.inv y yl]; exact hy)
  · have := rnd_next a h
    rw [next_mate, I.inv e he] at this
    exact .inl this
theorem has_one (I : Inv2 F n) {rs : List (Nat × Nat)} (R : Rounds F W n rs) (hW : ∀ c, c < n → W c < 3) {p q : Nat × Nat} (hp : p ∈ rs) (hq : q ∈ rs) {e : Nat} (he : e < 4 * n) (h : Has F W p e) (k : Has F W q e) : p = q := by
  have far : ∀ {p q : Nat × Nat}, p ∈ rs → (∀ x, x ∈ rnd (nextE F W) p.1 p.2 → x ∉ rnd (nextE F W) q.1 q.2 ∧ F x ∉ rnd (nextE F W) q.1 q.2) → Has F W p e → ¬ Has F W q e := fun {p q} hp z h k => by
    rcases h with h | h
    · rcases k with k | k
      · exact (z _ h).1 k
      · exact (z _ h).2 k
    · have y := z _ h
      rw [I.inv e he] at y
      rcases k with k | k
      · exact y.2 k
      · exact y.1 k
  refine Classical.byContradiction fun ne => ?_
  obtain ⟨i, hi, rfl⟩ := List.getElem_of_mem hp
  obtain ⟨j, hj, rfl⟩ := List.getElem_of_mem hq
  have pw := List.pairwise_iff_getElem.mp R.one
  rcases Nat.lt_trichotomy i j with l | l | l
  · exact far hp (pw i j hi hj l) h k
  · subst l
    exact ne rfl
  · exact far hq (pw j i hj hi l) k h
/-- names of ends, by which joined lines are one part -/
structure Names (F W : Nat → Nat) (n : Nat) (rs : List (Nat × Nat)) (done : List Nat) (N : Nat → Nat) : Prop where
  far : ∀ e, e < 4 * n → N (F e) = N e
  mate : ∀ e ∈ done, N (mateE W e) = N e
  conn : ∀ e g, e < 4 * n → g < 4 * n → N e = N g → ∃ p ∈ rs, Has F W p e ∧ Has F W p g
theorem names_first (I : Inv2 F n) {rs : List (Nat × Nat)} (R : Rounds F W n rs) : Names F W n rs [] fun e => min e (F e) := by
  refine ⟨fun e he => ?_, fun e h => absurd h (by simp), fun e g he hg h => ?_⟩
  · show min (F e) (F (F e)) = min e (F e)
    rw [I.inv e he]
    omega
  · obtain ⟨p, hp, k⟩ := R.all e he
    refine ⟨p, hp, k, ?_⟩
    have h : min e (F e) = min g (F g) := h
    have c : e = g ∨ e = F g ∨ F e = g ∨ F e = F g := by omega
    rcases c with c | c | c | c
    · rw [← c]; exact k
    · have := has_far I he k
      rw [c, I.inv g hg] at this
      exact this
    · rw [← c]; exact has_far I he k
    · have c2 : F (F e) = F (F g) := by rw [c]
      rw [I.inv e he, I.inv g hg] at c2
      rw [← c2]; exact k
/-- the names behind an end -/
def rename (N : Nat → Nat) (a b : Nat) : Nat → Nat := fun x => if N x = max (N a) (N b) then min (N a) (N b) else N x
theorem Names.skip {rs : List (Nat × Nat)} {done : List Nat} {N : Nat → Nat} (h : Names F W n rs done N) {e : Nat} (q : N (mateE W e) = N e) : Names F W n rs (done ++ [e]) N :=
  ⟨h.far, fun x hx => by
    rcases List.mem_append.mp hx with hx | hx
    · exact h.mate x hx
    · rw [List.mem_singleton.mp hx]; exact q, h.conn⟩
theorem Names.more (I : Inv2 F n) {rs : List (Nat × Nat)} (R : Rounds F W n rs) (hW : ∀ c, c < n → W c < 3) {done : List Nat} {N : Nat → Nat} (h : Names F W n rs done N) {a : Nat} (ha : a < 4 * n) : Names F W n rs (done ++ [a]) (rename N a (mateE W a)) := by
  obtain ⟨pa, hpa, ka⟩ := R.all a ha
  have kb : Has F W pa (mateE W a) := has_mate I hW (R.per pa hpa).1 (R.per pa hpa).2 ha ka
  have hb := mate_lt hW ha
  -- who has the name of a or of its mate is of the part of a
  have toA : ∀ x, x < 4 * n → (N x = N a ∨ N x = N (mateE W a)) → Has F W pa x := fun x hx q => by
    rcases q with q | q
    · obtain ⟨p, hp, k1, k2⟩ := h.conn x a hx ha q
      rw [has_one I R hW hpa hp ha ka k2]
      exact k1
    · obtain ⟨p, hp, k1, k2⟩ := h.conn x _ hx hb q
      rw [has_one I R hW hpa hp hb kb k2]
      exact k1
  refine ⟨fun e he => ?_, fun e he => ?_, fun e g he hg q => ?_⟩
  · unfold rename
    rw [h.far e he]
  · have same : ∀ {x y : Nat}, N x = N y → rename N a (mateE W a) x = rename N a (mateE W a) y := fun {x y} q => by
      unfold rename
      rw [q]
    rcases List.mem_append.mp he with he | he
    · exact same (h.mate e he)
    · rw [List.mem_singleton.mp he]
      unfold rename
      by_cases l : N a ≤ N (mateE W a)
      · rw [Nat.max_eq_right l, Nat.min_eq_left l, if_pos rfl]
        split <;> rfl
      · rw [Nat.max_eq_left (by omega), Nat.min_eq_right (by omega), if_pos rfl]
        split <;> omega
  · have c : ∀ x, N x = max (N a) (N (mateE W a)) → N x = N a ∨ N x = N (mateE W a) := fun x q => by omega
    have c2 : ∀ x, N x = min (N a) (N (mateE W a)) → N x = N a ∨ N x = N (mateE W a) := fun x q => by omega
    unfold rename at q
    by_cases h1 : N e = max (N a) (N (mateE W a))
    · rw [if_pos h1] at q
      by_cases h2 : N g = max (N a) (N (mateE W a))
      · exact ⟨pa, hpa, toA e he (c e h1), toA g hg (c g h2)⟩
      · rw [if_neg h2] at q
        exact ⟨pa, hpa, toA e he (c e h1), toA g hg (c2 g q.symm)⟩
    · rw [if_neg h1] at q
      by_cases h2 : N g = max (N a) (N (mateE W a))
      · rw [if_pos h2] at q
        exact ⟨pa, hpa, toA e he (c2 e q), toA g hg (c g h2)⟩
      · rw [if_neg h2] at q
        exact h.conn e g he hg q
theorem Names.keep (I : Inv2 F n) {rs : List (Nat × Nat)} (R : Rounds F W n rs) (hW : ∀ c, c < n → W c < 3) {done : List Nat} {N : Nat → Nat} (h : Names F W n rs done N) (all : ∀ e, e < 4 * n → e ∈ done) {p : Nat × Nat} (hp : p ∈ rs) {e : Nat} (he : e < 4 * n) (k : Has F W p e) : N e = N p.1 := by
  obtain ⟨pl, pp⟩ := R.per p hp
  have on : ∀ i, N (iter (nextE F W) i p.1) = N p.1 := by
    intro i
    induction i with
    | zero => rfl
    | succ i ih =>
      have il := (next_goes I hW).iter_lt pl i
      show N (nextE F W (iter (nextE F W) i p.1)) = _
      rw [next_mate, h.mate _ (all _ (I.lt _ il)), h.far _ il, ih]
  rcases k with k | k
  · obtain ⟨i, _, rfl⟩ := mem_rnd.mp k
    exact on i
  · obtain ⟨i, _, ei⟩ := mem_rnd.mp k
    rw [← h.far e he, ← ei]
    exact on i
/-- a list's items, each once -/
theorem parts_len (I : Inv2 F n) {rs : List (Nat × Nat)} (R : Rounds F W n rs) (hW : ∀ c, c < n → W c < 3) {done : List Nat} {N : Nat → Nat} (h : Names F W n rs done N) (all : ∀ e, e < 4 * n → e ∈ done) {xs : List Int} (nd : xs.Nodup) (mem : ∀ x, x ∈ xs ↔ ∃ e, e < 4 * n ∧ x = ((N e : Nat) : Int)) : xs.length = rs.length := by
  have nd2 : (rs.map fun p => ((N p.1 : Nat) : Int)).Nodup := by
    refine List.pairwise_map.mpr ?_
    refine List.pairwise_iff_getElem.mpr fun i j hi hj l e => ?_
    have e : N (rs[i]).1 = N (rs[j]).1 := by omega
    obtain ⟨pl, pp⟩ := R.per rs[i] (List.getElem_mem hi)
    obtain ⟨ql, qp⟩ := R.per rs[j] (List.getElem_mem hj)
    obtain ⟨p, hp, k1, k2⟩ := h.conn _ _ pl ql e
    have e1 := has_one I R hW (List.getElem_mem hi) hp pl (.inl (self_rnd pp)) k1
    have e2 := has_one I R hW (List.getElem_mem hj) hp ql (.inl (self_rnd qp)) k2
    have up := List.pairwise_iff_getElem.mp R.up i j hi hj l
    rw [e1, e2] at up
    exact Nat.lt_irrefl _ up
  have a := nd.length_le_of_subset (l₂ := rs.map fun p => ((N p.1 : Nat) : Int)) fun x hx => by
    obtain ⟨e, he, rfl⟩ := (mem x).mp hx
    obtain ⟨p, hp, k⟩ := R.all e he
    exact List.mem_map.mpr ⟨p, hp, by rw [h.keep I R hW all hp he k]⟩
  have b := nd2.length_le_of_subset (l₂ := xs) fun x hx => by
    obtain ⟨p, hp, rfl⟩ := List.mem_map.mp hx
    exact (mem _).mpr ⟨p.1, (R.per p hp).1, rfl⟩
  rw [List.length_map] at a b
  omega
/-- all ends that are met, round by round -/
def metL (F W : Nat → Nat) : List (Nat × Nat) → List Nat
  | [] => []
  | p :: rs => rnd (nextE F W) p.1 p.2 ++ (rnd (nextE F W) p.1 p.2).map F ++ metL F W rs
theorem metL_snoc (p : Nat × Nat) : ∀ rs, metL F W (rs ++ [p]) = metL F W rs ++ rnd (nextE F W) p.1 p.2 ++ (rnd (nextE F W) p.1 p.2).map F
  | [] => by
    show rnd _ _ _ ++ List.map F _ ++ [] = [] ++ rnd _ _ _ ++ List.map F _
    rw [List.append_nil, List.nil_append]
  | q :: rs => by
    show rnd _ _ _ ++ List.map F _ ++ metL F W (rs ++ [p]) = _
    rw [metL_snoc p rs]
    show _ = rnd _ q.1 q.2 ++ List.map F _ ++ metL F W rs ++ rnd _ p.1 p.2 ++ List.map F _
    simp only [List.append_assoc]
theorem mem_metL (I : Inv2 F n) : ∀ {rs : List (Nat × Nat)}, (∀ p ∈ rs, ∀ x ∈ rnd (nextE F W) p.1 p.2, x < 4 * n) → ∀ x, x < 4 * n → (x ∈ metL F W rs ↔ ∃ p ∈ rs, Has F W p x)
  | [], _, x, _ => ⟨fun h => absurd h (by simp [metL]), fun ⟨_, h, _⟩ => absurd h (by simp)⟩
  | p :: rs, hl, x, hx => by
    have ih := mem_metL I (rs := rs) (fun q hq => hl q (List.mem_cons_of_mem _ hq)) x hx
    show x ∈ rnd _ _ _ ++ List.map F _ ++ metL F W rs ↔ _
    rw [List.mem_append, List.mem_append, ih]
    constructor
    · rintro ((h | h) | ⟨q, hq, k⟩)
      · exact ⟨p, List.mem_cons_self .., .inl h⟩
      · obtain ⟨y, hy, rfl⟩ := List.mem_map.mp h
        exact ⟨p, List.mem_cons_self .., .inr (by rw [I.inv y (hl p (List.mem_cons_self ..) y hy)]; exact hy)⟩
      · exact ⟨q, List.mem_cons_of_mem _ hq, k⟩
    · rintro ⟨q, hq, k⟩
      rcases List.mem_cons.mp hq with rfl | hq
      · rcases k with k | k
        · exact .inl (.inl k)
        · exact .inl (.inr (List.mem_map.mpr ⟨F x, k, I.inv x hx⟩))
      · exact .inr ⟨q, hq, k⟩
theorem metL_lt (I : Inv2 F n) : ∀ {rs : List (Nat × Nat)}, (∀ p ∈ rs, ∀ x ∈ rnd (nextE F W) p.1 p.2, x < 4 * n) → ∀ x ∈ metL F W rs, x < 4 * n
  | [], _, x, h => absurd h (by simp [metL])
  | p :: rs, hl, x, h => by
    have h : x ∈ rnd (nextE F W) p.1 p.2 ++ List.map F (rnd (nextE F W) p.1 p.2) ++ metL F W rs := h
    rw [List.mem_append, List.mem_append] at h
    rcases h with (h | h) | h
    · exact hl p (List.mem_cons_self ..) x h
    · obtain ⟨y, hy, rfl⟩ := List.mem_map.mp h
      exact I.lt y (hl p (List.mem_cons_self ..) y hy)
    · exact metL_lt I (fun q hq => hl q (List.mem_cons_of_mem _ hq)) x h
theorem block_nodup (I : Inv2 F n) (hW : ∀ c, c < n → W c < 3) {s k : Nat} (hs : s < 4 * n) (a : Per (nextE F W) s k) : (rnd (nextE F W) s k ++ (rnd (nextE F W) s k).map F).Nodup := by
  have G := next_goes I hW
  have nd := G.nodup hs k a.first
  refine List.nodup_append.mpr ⟨nd, ?_, fun x hx y hy e => ?_⟩
  · refine List.pairwise_map.mpr (nd.imp_of_mem fun {u v} hu hv ne e => ne ?_)
    have := congrArg F e
    rw [I.inv u (rnd_lt I hW hs hu), I.inv v (rnd_lt I hW hs hv)] at this
    exact this
  · subst e
    obtain ⟨z, hz, ez⟩ := List.mem_map.mp hy
    obtain ⟨i, hi, e1⟩ := mem_rnd.mp hx
    obtain ⟨j, hj, e2⟩ := mem_rnd.mp hz
    have zl := rnd_lt I hW hs hz
    refine no_far I hW zl (i + (k - j)) ?_
    rw [ez, ← e1, ← e2, iter_add, ← iter_add (nextE F W) (k - j) j, show k - j + j = k by omega, a.back]
theorem metL_nodup (I : Inv2 F n) (hW : ∀ c, c < n → W c < 3) : ∀ {rs : List (Nat × Nat)}, (∀ p ∈ rs, p.1 < 4 * n ∧ Per (nextE F W) p.1 p.2) → rs.Pairwise (fun p q => ∀ x, x ∈ rnd (nextE F W) p.1 p.2 → x ∉ rnd (nextE F W) q.1 q.2 ∧ F x ∉ rnd (nextE F W) q.1 q.2) → (metL F W rs).Nodup
  | [], _, _ => List.nodup_nil
  | p :: rs, hp, h => by
    obtain ⟨h1, h2⟩ := List.pairwise_cons.mp h
    obtain ⟨pl, pp⟩ := hp p (List.mem_cons_self ..)
    have hr : ∀ q ∈ rs, q.1 < 4 * n ∧ Per (nextE F W) q.1 q.2 := fun q hq => hp q (List.mem_cons_of_mem _ hq)
    have rl : ∀ q ∈ rs, ∀ x ∈ rnd (nextE F W) q.1 q.2, x < 4 * n := fun q hq x hx => rnd_lt I hW (hr q hq).1 hx
    refine List.nodup_append.mpr ⟨block_nodup I hW pl pp, metL_nodup I hW hr h2, fun x hx y hy e => ?_⟩
    subst e
    rcases List.mem_append.mp hx with hx | hx
    · have xl := rnd_lt I hW pl hx
      obtain ⟨q, hq, k⟩ := (mem_metL I rl x xl).mp hy
      obtain ⟨z1, z2⟩ := h1 q hq x hx
      rcases k with k | k
      · exact z1 k
      · exact z2 k
    · obtain ⟨y, hy2, rfl⟩ := List.mem_map.mp hx
      have yl := rnd_lt I hW pl hy2
      obtain ⟨q, hq, k⟩ := (mem_metL I rl _ (I.lt y yl)).mp hy
      obtain ⟨z1, z2⟩ := h1 q hq y hy2
      rcases k with k | k
      · exact z2 k
      · rw [I.inv y yl] at k
        exact z1 k
/-- all ends, each once -/
theorem metL_perm (I : Inv2 F n) (hW : ∀ c, c < n → W c < 3) {rs : List (Nat × Nat)} (R : Rounds F W n rs) {es : List Nat} (nd : es.Nodup) (he : ∀ e, e ∈ es ↔ e < 4 * n) : (metL F W rs).Perm es := by
  have rl : ∀ q ∈ rs, ∀ x ∈ rnd (nextE F W) q.1 q.2, x < 4 * n := fun q hq x hx => rnd_lt I hW (R.per q hq).1 hx
  refine (List.perm_ext_iff_of_nodup (metL_nodup I hW R.per R.one) nd).mpr fun x => ?_
  rw [he]
  exact ⟨metL_lt I rl x, fun hx => (mem_metL I rl x hx).mpr (R.all x hx)⟩
end
end One
end P_M24

section P_X9
set_option linter.all false
set_option maxRecDepth 100000
set_option maxHeartbeats 4000000
namespace HT
open PySem PySem.Spec PySem.Calls PyProof.Rows PySem.W
section
variable {A : Around} {prog : Program} {w : World} {s : Shared} {E : Value → Shared → Prop}
theorem collect_tup {l : Addr} {vs : List Value} {Q : List Value → Shared → Prop} (hl : s.heap.IsTuple l vs.toArray)
    (h : Q vs { s with heap := (s.heap.push (seqObj "list" #[] 0)).update s.heap.objs.size (Obj.mapSeq (· ++ vs.toArray)) }) (hsz : vs.length ≤ sizeLine) :
    wpAny (model prog w) A (collect (.ref l)) Q E s := by
  obtain ⟨o, ho, hc, n, hd⟩ := id hl
  unfold collect
  refine wpAny_bind (wpAny_runValue (codeAny_builtin entry_proto_collect' ?_))
  show wpAny _ _ (do again (.builtin "list.__iadd__" ⟨[← newList [], .ref l], []⟩)) _ _ s
  refine wpAny_bind (wpAny_newList (wpAny_pure ⟨Code.quiet_builtin _ (by decide +kernel), codeAny_builtin entry_list_iadd' ?_⟩))
  show wpAny _ _ (Builtin.List.listExtendWith (.ref s.heap.objs.size) (.ref l) (.ref s.heap.objs.size)) _ _ { s with heap := s.heap.push (seqObj "list" #[] 0) }
  unfold Builtin.List.listExtendWith
  have ho' : (s.heap.push (seqObj "list" #[] 0)).get? l = some o := Heap.get?_push_of_some _ ho
  refine wpAny_bind (wpAny_typeOf (T := "tuple") ⟨o, ho', hc⟩ ?_)
  have ht : (Value.type "tuple" == Value.type "tuple") = true := by rfl
  rw [if_pos (by rw [ht]; simp)]
  refine wpAny_bind (listItems_at ho' hd ?_)
  refine wpAny_bind (listItems_at (xs := #[]) (n := 0) (Heap.get?_push_size _ rfl) rfl ?_)
  rw [if_neg (by simp)]
  refine wpAny_bind (listUpdate_at (xs := #[]) (n := 0) (Heap.get?_push_size _ rfl) rfl ?_ (Nat.zero_le _) (by show (#[] ++ vs.toArray).size ≤ sizeLine + 1; simp only [Array.size_append, List.size_toArray, List.length_nil]; omega))
  refine wpAny_pure ?_
  refine wpAny_bind (wpAny_load (get?_update_seq (Heap.get?_push_size _ rfl) _) ?_)
  show wpAny _ _ (pure ((#[] : Array Value) ++ vs.toArray).toList) Q E _
  rw [show ((#[] : Array Value) ++ vs.toArray).toList = vs by simp]
  exact wpAny_pure h
theorem sorted_tup_vals {κ : PyProof.Rows.KeyKind} {l : Addr} {vs : List Value} {Q : Value → Shared → Prop} (hl : s.heap.IsTuple l vs.toArray) (S : PySem.W.SortsAt prog w A.in1.in1 { s with heap := PySem.W.sortingHeap (PySem.W.copyHeap s.heap vs) (s.heap.objs.size + 1) vs } κ vs) (hL : vs.length ≤ sizeLine)
    (h : Q (.ref (s.heap.objs.size + 1)) { s with heap := sortedAll s.heap vs (PySem.W.sortVals κ false vs vs).toArray }) : wpAny (model prog w) A (call (.builtin "sorted") [.ref l]) Q E s := by
  refine Calls.call_function_entry kind_sorted plain_sorted entry_sorted (args_sorted1 _) ?_
  unfold Builtin.«sorted»
  refine wpAny_bind (m := checkCount "sorted" 1 1 _) (wpAny_pure ?_)
  refine wpAny_bind (collect_tup hl ?_ hL)
  refine wpAny_bind (wpAny_newList ?_ hL)
  have hsz : ((s.heap.push (seqObj "list" #[] 0)).update s.heap.objs.size (Obj.mapSeq (· ++ vs.toArray))).objs.size = s.heap.objs.size + 1 := by
    rw [Heap.size_update, size_push']
  show wpAny _ _ _ _ _ { s with heap := copyHeap s.heap vs }
  rw [hsz]
  refine wpAny_bind (wpAny_holding (wpAny_call_entry slot_list_sort ⟨_, copyHeap_at s.heap vs, rfl⟩ entry_list_sort (PySem.W.list_sort_vals (s := { s with heap := copyHeap s.heap vs }) (copyHeap_at s.heap vs) S hL ⟨_, rfl, ?_⟩) (args_list_sort _)))
  exact wpAny_pure ⟨_, rfl, h⟩
end
end HT
namespace One
open PySem PySem.Spec PyProof.Rows L2
theorem firstMet_nodup (val : Nat → Int) : ∀ i, (firstMet val i).Nodup
  | 0 => by rw [firstMet_zero]; exact List.nodup_nil
  | i + 1 => by
    have ih := firstMet_nodup val i
    rw [firstMet_succ]
    unfold step_dedup
    by_cases h : (firstMet val i).any (· == val i) = true
    · rw [if_pos h]; exact ih
    · rw [if_neg h]
      refine List.nodup_append.mpr ⟨ih, by simp, fun a ha b hb e => h ?_⟩
      rw [List.mem_singleton.mp hb] at e
      exact List.any_eq_true.mpr ⟨a, ha, beq_iff_eq.mpr e⟩
theorem firstMet_mem (ns : List Int) (x : Int) : x ∈ firstMet (fun i => ns.getD i 0) ns.length ↔ x ∈ ns := by
  have e : (List.range ns.length).map (fun i => ns.getD i 0) = ns := by
    refine List.ext_getElem? fun i => ?_
    rw [List.getElem?_map]
    rcases Nat.lt_or_ge i ns.length with h | h
    · rw [List.getElem?_range h, List.getElem?_eq_getElem h]
      show some (ns.getD i 0) = _
      rw [List.getD_eq_getElem?_getD, List.getElem?_eq_getElem h]
      rfl
    · rw [List.getElem?_eq_none (by rw [List.length_range]; exact h), List.getElem?_eq_none h]
      rfl
  have q := firstMet_any (fun i => ns.getD i 0) ns.length x
  rw [e] at q
  have mem : ∀ l : List Int, l.any (· == x) = true ↔ x ∈ l := fun l => by
    rw [List.any_eq_true]
    exact ⟨fun ⟨y, hy, ey⟩ => beq_iff_eq.mp ey ▸ hy, fun h => ⟨x, h, beq_iff_eq.mpr rfl⟩⟩
  rw [← mem, q, mem]
/-! ### len(set(xs)) of ints -/
def tLenSetA (K : PySem.W.Frag) (ta : TE) : TE := fun σ H Q => ta σ H fun x H1 => ∃ (l : Addr) (ns : List Int), x = .ref l ∧ SqL K H1 l (ns.map V.int) ∧ ns.length ≤ 4000 ∧ ∀ xs : List Int, xs.Nodup → (∀ x, x ∈ xs ↔ x ∈ ns) → Q (.int (xs.length : Nat)) H1
theorem pe_lenSetA {X : Cx} {a : Expr} {ta : TE} {p p2 q pos : Pos} (hg : Gl X "len") (hm : X.mg "len" = none) (hg2 : Gl X "set") (hm2 : X.mg "set" = none) (ha : PE X a ta) (hc : X.calm = true := by rfl)
    (na : starEach [a] X.env = (false, eval a X.env) :: starEach [] X.env := by rfl) : PE X (.Call (.Name "len" p) [.Call (.Name "set" p2) [a] [] q] [] pos) (tLenSetA X.K ta) := by
  refine ⟨fun pins s σ H Q I h => ?_⟩
  refine Call_ (ld_blt I hg hm boot_len ?_)
  refine PyProof.Rows.callWith_builtin1 (PyProof.Rows.args_cons ?_ rfl) rfl rfl
  refine Call_ (ld_blt I hg2 hm2 boot_set ?_)
  refine PyProof.Rows.callWith_type1 (PyProof.Rows.args_cons (thn (ha.run pins s σ H _ I h) fun v s1 ⟨x, H1, I1, r1, q1⟩ => PyProof.Rows.args_nil ?_) na) na rfl
  obtain ⟨l, ns, rfl, hq, hl, q1⟩ := q1
  cases r1
  obtain ⟨its, r, pl, hz⟩ := I1.list hq
  have hlen : its.toArray.size = ns.length := by rw [List.size_toArray, ← r.length, List.length_map]
  refine call_set_list (I1.ok.hd hc) pl.isList (by simpa using RZ.intsAre_vals r) (by rw [hlen]; unfold scanBound; omega) fun h' tk hS hk => ?_
  refine PyProof.Rows.args_nil ?_
  rw [hlen] at hS
  have hfl := PyProof.Rows.firstMet_length_le (fun i => ns.getD i 0) ns.length
  obtain ⟨o, es, ep, t, ho, hex, hd, _, _, _, hf, hn⟩ := hS
  have I2 : Inv X pins σ H1 { s1 with heap := h', toks := tk } := I1.kept fun b o e => hk b o (Heap.lt_size e) e
  exact call_len_set ho hex hd hf (by rw [hn] <;> omega) ⟨.int (firstMet (fun i => ns.getD i 0) ns.length).length, H1, I2.tok _, ⟨_, by rw [hn]⟩, q1 _ (firstMet_nodup _ _) (firstMet_mem ns)⟩
/-! ### sorted(t), a tuple that stands sorted -/
theorem each_idx {α β : Type} {R : α → β → Prop} : ∀ {xs : List α} {ys : List β}, xs.length = ys.length → (∀ (i : Nat) (x : α) (y : β), xs[i]? = some x → ys[i]? = some y → R x y) → PySem.W.EachIs R xs ys
  | [], [], _, _ => .nil
  | x :: xs, y :: ys, hl, h => .cons (h 0 x y rfl rfl) (each_idx (by simpa using hl) fun i a b e1 e2 => h (i + 1) a b (by simpa using e1) (by simpa using e2))
  | [], _ :: _, hl, _ => by simp at hl
  | _ :: _, [], hl, _ => by simp at hl
theorem reads_idx {h : Heap} : ∀ {vs : List Value} {ds : List PyData} {as : List Addr}, ReadsAll h vs ds as → vs.length = ds.length ∧ ∀ (i : Nat) (v : Value) (d : PyData), vs[i]? = some v → ds[i]? = some d → ∃ as, Reads h v d as
  | _, _, _, .nil => ⟨rfl, fun i v d e _ => by simp at e⟩
  | _, _, _, .cons h1 h2 => by
    obtain ⟨l, k⟩ := reads_idx h2
    refine ⟨by simp [l], fun i v d e1 e2 => ?_⟩
    cases i with
    | zero =>
      cases e1
      cases e2
      exact ⟨_, h1⟩
    | succ i => exact k i v d (by simpa using e1) (by simpa using e2)
def rSortedT1 (K : PySem.W.Frag) : List V → Hp → VK → Prop := fun vs H Q => ∃ (a : Addr) (xs : List V) (ds : List PyData), vs = [V.ref a] ∧ H a = some (.tup xs) ∧ DpAll K H xs ds ∧ PySem.W.AllAlike ds ∧ PySem.W.Sortable ds ∧ (∀ d ∈ ds, d.depth ≤ 60) ∧ ds.Pairwise (fun d e => PySem.W.dataLt e d = false) ∧
  ∀ p, H p = none → Q (.ref p) (upd H p (.lst xs))
theorem cr_sortedT1 {X : Cx} (hu : X.A.units + 64 < cLine) : CallR X (.builtin "sorted") (rSortedT1 X.K) := by
  intro pins s σ H vs us Q I r h
  obtain ⟨a, xs, ds, rfl, ha, hd, hal, hk, hdp, hpw, q⟩ := h
  rw [Vals.ref1 r]
  obtain ⟨hz, its, rv, ht⟩ := I.hok a _ ha
  obtain ⟨as, hR⟩ := Dp.readsAll I ds xs its hd rv
  obtain ⟨hl, hi⟩ := reads_idx hR
  have hvl := rv.length
  let bs : List (Value × PyData) := its.zip ds
  have b1 : bs.map (·.1) = its := List.map_fst_zip (by omega)
  have b2 : bs.map (·.2) = ds := List.map_snd_zip (by omega)
  have bl : its.length = bs.length := by rw [← b1, List.length_map]
  have e0 : PySem.W.EachIs (fun (v : Value) (b : Value × PyData) => v = b.1) its bs := each_idx bl fun i v b e1 e2 => by
    have : its[i]? = some b.1 := by rw [← b1, List.getElem?_map, e2]; rfl
    rw [e1] at this
    exact Option.some.inj this
  have er : PySem.W.EachIs (fun (v : Value) (d : PyData) => ∃ as, Reads (PySem.W.sortingHeap (PySem.W.copyHeap s.heap its) (s.heap.objs.size + 1) its) v d as) its (bs.map (·.2)) := by
    rw [b2]
    exact each_idx hl fun i v d e1 e2 => by
      obtain ⟨as, r⟩ := hi i v d e1 e2
      exact ⟨as, PyProof.Rows.Reads.keeps (fun _ _ => PySem.W.sorting_copy_old) r⟩
  have erb : PySem.W.EachIs (fun (v : Value) (b : Value × PyData) => ∃ as, Reads (PySem.W.sortingHeap (PySem.W.copyHeap s.heap its) (s.heap.objs.size + 1) its) v b.2 as) its bs := each_idx bl fun i v b e1 e2 => by
    have : ds[i]? = some b.2 := by rw [← b2, List.getElem?_map, e2]; rfl
    obtain ⟨as, r⟩ := hi i v b.2 e1 this
    exact ⟨as, PyProof.Rows.Reads.keeps (fun _ _ => PySem.W.sorting_copy_old) r⟩
  have hms : bs.mergeSort (PySem.W.dataLe false (·.2)) = bs := List.mergeSort_of_pairwise (by
    have hp2 : (bs.map (·.2)).Pairwise (fun d e => PySem.W.dataLt e d = false) := by rw [b2]; exact hpw
    refine (List.pairwise_map.mp hp2).imp fun {x y} e => ?_
    rw [PySem.W.dataLe_eq]
    show (!PySem.W.dataLt y.2 x.2) = true
    rw [e]
    rfl)
  refine HT.sorted_tup_vals (A := X.A) ht (PySem.W.SortsAt.data (A := X.A.in1.in1) (s := { s with heap := PySem.W.sortingHeap (PySem.W.copyHeap s.heap its) (s.heap.objs.size + 1) its }) er (by rw [b2]; exact hal) (by rw [b2]; exact hk) (by
    rw [b2]
    intro d hd
    have h1 := hdp d hd
    show X.A.in1.in1.units + d.depth < cLine
    have : X.A.in1.in1.units = X.A.units + 2 := rfl
    omega)) (by omega) ?_
  have out := PySem.W.sortVals_data (h' := PySem.W.sortingHeap (PySem.W.copyHeap s.heap its) (s.heap.objs.size + 1) its) (R := fun (v : Value) (b : Value × PyData) => v = b.1) (enc := (·.2)) false e0 erb (by rw [b2]; exact hal)
  rw [hms] at out
  have eout : PySem.W.sortVals (PySem.W.dataKind (PySem.W.sortingHeap (PySem.W.copyHeap s.heap its) (s.heap.objs.size + 1) its) (bs.map (·.2))) false its its = its := by
    have same : ∀ {us : List Value} {cs : List (Value × PyData)}, PySem.W.EachIs (fun (v : Value) (b : Value × PyData) => v = b.1) us cs → us = cs.map (·.1) := by
      intro us cs h
      induction h with
      | nil => rfl
      | cons e _ ih => rw [List.map_cons, ← e, ← ih]
    rw [same out, b1]
  rw [eout]
  obtain ⟨ep, he'⟩ := PyProof.Rows.sortedAll_at s.heap its its.toArray
  exact ⟨.ref _, upd H (s.heap.objs.size + 1) (.lst xs), I.laid (t' := s.toks) (fun _ _ => PyProof.Rows.sortedAll_old) (Nat.le_succ _) ⟨hz, its, ep, rv, he'⟩, rfl, q _ (I.hok.fresh (Nat.le_succ _))⟩
/-! ### x not in t, t a tuple of data -/
def rNotInT (K : PySem.W.Frag) : R2 := fun x y H Q => ∃ d ds, Dp K H x d ∧ Dp K H y (.tuple ds) ∧ SeqAt.shaped d = true ∧ SeqAt.shaped (.list ds) = true ∧ Q (.bl (!ds.any fun z => PyData.eqv z d)) H
theorem op_notInT {X : Cx} (hu : X.A.units + 65 < cLine) : OpR X (compareOp .NotIn) (rNotInT X.K) := by
  intro pins s σ H x y v u Q I rx ry h
  obtain ⟨d, ds, hd, he, sd, se, q⟩ := h
  obtain ⟨as, r1⟩ := Dp.reads I d x v hd rx
  obtain ⟨bs, r2⟩ := Dp.reads I (.tuple ds) y u he ry
  exact SeqAt.notIn_tuple_reads r2 r1 (SeqAt.canLay_of_shaped se) (SeqAt.canLay_of_shaped sd) (room_in_shaped sd hu) ⟨.bl _, H, I, rfl, q⟩
end One
end P_X9

section P_V1
set_option linter.all false
set_option maxRecDepth 100000
set_option maxHeartbeats 16000000
namespace One
open PySem PySem.Spec PyProof.Rows L2
abbrev sLP : Stmt := top 43
abbrev nLP : List Str := ["fars", "setting", "names", "end", "mine", "other", "low", "high", "one"]
theorem scLP : FnScope nLP ["fars", "setting"] (defScope sLP) := ⟨rfl, rfl, rfl, by decide +kernel, rfl, by decide +kernel, by decide +kernel⟩
theorem pl_paired {K : PySem.W.Frag} {H : Hp} {F : Nat → Nat} : ∀ {as : List Addr} {es : List Nat}, PL H as (es.map fun e => (e, F e)) → Paired (fun p kv => SqT K H p [kV kv.1, kv.2]) as (fkv F es)
  | _, [], h => by
    cases h
    exact .nil
  | _, e :: es, h => by
    cases h with
    | cons h1 h2 => exact .cons (SqT.of h1) (pl_paired h2)
theorem merge_nodup : ∀ (more kvs : List (Key × V)), (kvs ++ more).Pairwise (fun p q => p.1 ≠ q.1) → mergeK kvs more = kvs ++ more
  | [], kvs, _ => by
    show kvs = kvs ++ []
    rw [List.append_nil]
  | kv :: more, kvs, h => by
    show mergeK (putK kvs kv.1 kv.2) more = _
    have no : (kvs.any fun q => decide (q.1 = kv.1)) = false := by
      cases hb : kvs.any fun q => decide (q.1 = kv.1) with
      | false => rfl
      | true =>
        obtain ⟨q, hq, e⟩ := List.any_eq_true.mp hb
        exact absurd (of_decide_eq_true e) ((List.pairwise_append.mp h).2.2 q hq kv (List.mem_cons_self ..))
    have e : putK kvs kv.1 kv.2 = kvs ++ [kv] := by
      unfold putK
      rw [no]
      rfl
    rw [e, merge_nodup more (kvs ++ [kv]) (by rw [List.append_assoc]; exact h), List.append_assoc]
    rfl
theorem merge_fkv {F : Nat → Nat} {es : List Nat} (nd : es.Nodup) : mergeK [] (fkv F es) = fkv F es := by
  rw [merge_nodup _ _ (by
    rw [List.nil_append]
    refine List.pairwise_map.mpr (nd.imp fun {a b} ne e => ne ?_)
    have e := Sum.inl.inj e
    omega), List.nil_append]
theorem fkv_congr {F G : Nat → Nat} {es : List Nat} (h : ∀ e ∈ es, F e = G e) : fkv F es = fkv G es := List.map_congr_left fun e he => by rw [h e he]
def spLP : Sp := fun vs H Q _ => ∃ (D S : Addr) (n : Nat) (ps : List (Nat × Nat)) (ws : List Nat) (rs : List (Nat × Nat)), vs = [.ref D, .ref S] ∧ Lines n ps ∧ n ≤ 100 ∧ H D = some (.dK (fkv (far ps) (ends ps))) ∧ SetAt H S n ws ∧ Rounds (far ps) (wayL ws) n rs ∧ ∀ H', Same H H' → Q (.int (rs.length : Nat)) H'
section
variable {P : Program} {w : World} {K : PySem.W.Frag} {mg : Str → Option Value} {base : Heap}
def rMax2 : List V → Hp → VK → Prop := fun xs H Q => ∃ i j : Int, xs = [.int i, .int j] ∧ Q (.int (if j > i then j else i)) H
theorem max2b {X : Cx} (hc : X.calm = true) : CallR X (.builtin "max") rMax2 := call_max2 hc
theorem ok_lp {f : Addr} {fd : FuncData} (F : Fun K "_law_parts" "_law_parts" sLP f fd) (T : TB mg) (hmin : mg "min" = none) (hmax : mg "max" = none) (hdict : mg "dict" = none) (hset : mg "set" = none) : FnOk P w K mg base CX0 1 f fd ["fars", "setting"] spLP := by
  refine F.ok scLP (fun vs H Q E h => ?_) (fun cdv A outer s H vs Q E hr h => ?_)
  · obtain ⟨D, S, n, ps, ws, rs, rfl, _⟩ := h
    rfl
  · obtain ⟨D, S, n, ps, ws, rs, rfl, L, h100, hD, hS, R, k⟩ := h
    have nd := scLP.nd
    have hu := hu_of hr
    refine ⟨_, C8.pss_cut (ps_set (i := 2) nd rfl (Or.inr rfl) (pe_callTy (call_dictP rfl) (by rfl) hdict (by decide +kernel) (pa_cons (pe_lock (pe_lc (own := [("end", 3)]) (g := (gName 3)) (tt := tYes) (te := (tTup (tCons (tVar 3) (tCons (tCB rMin2 (tCons (tVar 3) (tCons (tDGet (tVar 0) (tVar 3)) tNil))) tNil)))) rfl nd (pi_keys (pv 0)) (blkOk_by (N := nLP) (sc := defScope sLP) (by decide +kernel)) (fun _ _ _ _ _ => pg_name (i := 3) nd rfl (Or.inl rfl)) (fun _ _ _ _ _ => pts_nil) (fun _ _ _ _ _ => by exact (pe_tup (pa_cons (pv 3) (pa_cons (pe_callB (min2b rfl) (by rfl) hmin boot_min (pa_cons (pv 3) (pa_cons (pe_dget hu (pv 0) (pv 3) (fun _ _ => rfl)) pa_nil))) pa_nil)))))) pa_nil) (by decide)))
      (pss_cons (ps_lock (ps_for PassesOwn.never rfl (pi_keys (pv 0)) (pg_name (i := 3) nd rfl (Or.inl rfl))
        (C8.pss_cut (ps_par (i := 4) (j := 5) (by rfl) nd rfl rfl (by decide) rfl rfl (pa_cons (pe_dget hu (pv 2) (pv 3) (fun _ _ => rfl)) (pa_cons (pe_dget hu (pv 2) (pe_op op_xor (pv 3) (pe_op op_add (pe_ix ix_tup (pv 1) (pe_op op_fdiv (pv 3) pe_int) (fun _ _ => rfl)) pe_int)) (fun _ _ => rfl)) pa_nil)) (by rfl))
      (pss_one (ps_if (pt_cmpR op_ne (pv 4) (pv 5) (nomark _)) (C8.pss_cut (ps_asg (pe_tup (pa_cons (pe_callB (min2b rfl) (by rfl) hmin boot_min (pa_cons (pv 4) (pa_cons (pv 5) pa_nil))) (pa_cons (pe_callB (max2b rfl) (by rfl) hmax boot_max (pa_cons (pv 4) (pa_cons (pv 5) pa_nil))) pa_nil))) (pg_tup rfl (pgs_cons (pg_name (i := 6) nd rfl (Or.inr rfl)) (pgs_cons (pg_name (i := 7) nd rfl (Or.inr rfl)) pgs_nil))))
      (pss_one (ps_set (i := 2) nd rfl (Or.inr rfl) (pe_callTy (call_dictP rfl) (by rfl) hdict (by decide +kernel) (pa_cons (pe_lock (pe_lc (own := [("one", 8)]) (g := (gName 8)) (tt := tYes) (te := (tTup (tCons (tVar 8) (tCons (tIf (tTest (tOp rEq (tDGet (tVar 2) (tVar 8)) (tVar 7))) (tVar 6) (tDGet (tVar 2) (tVar 8))) tNil)))) rfl nd (pi_keys (pv 2)) (blkOk_by (N := nLP) (sc := defScope sLP) (by decide +kernel)) (fun _ _ _ _ _ => pg_name (i := 8) nd rfl (Or.inl rfl)) (fun _ _ _ _ _ => pts_nil) (fun _ _ _ _ _ => by exact (pe_tup (pa_cons (pv 8) (pa_cons (pe_ifExp (pt_cmpR op_eq (pe_dget hu (pv 2) (pv 8) (fun _ _ => rfl)) (pv 7) (nomark _)) (pv 6) (pe_dget hu (pv 2) (pv 8) (fun _ _ => rfl))) pa_nil)))))) pa_nil) (by decide))))) pss_nil)))))
      (pss_one (ps_ret (pe_lenSetA (by rfl) T.len (by rfl) hset (pe_lock (pe_lc (own := [("end", 3)]) (g := (gName 3)) (tt := tYes) (te := (tDGet (tVar 2) (tVar 3))) rfl nd (pi_keys (pv 0)) (blkOk_by (N := nLP) (sc := defScope sLP) (by decide +kernel)) (fun _ _ _ _ _ => pg_name (i := 3) nd rfl (Or.inl rfl)) (fun _ _ _ _ _ => pts_nil) (fun _ _ _ _ _ => by exact (pe_dget hu (pv 2) (pv 3) (fun _ _ => rfl))))))))), ?_⟩
    have I := far_inv L
    have hW := hS.ways
    have endn : (ends ps).Nodup := L.nd
    have el : (ends ps).length ≤ 400 := by
      have := pigeon (4 * n) _ endn fun x hx => L.lt x hx
      omega
    have eL : (fkv (far ps) (ends ps)).length = (ends ps).length := List.length_map _
    have at_i : ∀ {F : Nat → Nat} {i : Nat}, i < (ends ps).length → ∃ b, (ends ps)[i]? = some b ∧ (fkv F (ends ps))[i]? = some (Sum.inl ((b : Nat) : Int), V.int (F b : Nat)) ∧ b < 4 * n := fun {F i} hi => by
      refine ⟨_, List.getElem?_eq_getElem hi, ?_, L.lt _ (List.getElem_mem hi)⟩
      show ((ends ps).map _)[i]? = _
      rw [List.getElem?_map, List.getElem?_eq_getElem hi]
      rfl
    -- a list of pairs is made of a dict's keys
    have build : ∀ {F G : Nat → Nat} {D0 : Addr} {od : Obj} {σ : L2.St} {H0 : Hp} {Dl : Addr} {vs : List Nat} {j : Nat} {te : TE} {Qd : Hp → Prop}, H0 D0 = some (.frz od (.dK (fkv F (ends ps)))) → H0 Dl = none →
        (∀ (b : Nat) (H1 : Hp), b < 4 * n → H1 D0 = some (.frz od (.dK (fkv F (ends ps)))) → (∀ c o, c ≠ D0 → H0 c = some o → H1 c = some o) → ∀ Q : VK, (∀ p, H1 p = none → Q (.ref p) (upd H1 p (.tup [V.int (b : Nat), V.int (G b : Nat)]))) → te ((wipe σ vs).set j (some (.int (b : Nat)))) H1 Q) →
        (∀ x : V, wipe ((wipe σ vs).set j (some x)) vs = wipe σ vs) →
        (∀ (H1 : Hp) (as : List Addr), H1 Dl = some (.lst (refs as)) → PL H1 as ((ends ps).map fun e => (e, G e)) → H1 D0 = some (.frz od (.dK (fkv F (ends ps)))) → (∀ c o, c ≠ D0 → H0 c = some o → H1 c = some o) → Qd H1) →
        ∃ W : Nat → Nat → Hp → Prop, (∃ m, W 0 m (upd H0 Dl (.lst []))) ∧ ∀ i m H, W i m H →
          ((Itk D0 od (fkv F (ends ps))).stop i H ∧ Qd H) ∨ ((Itk D0 od (fkv F (ends ps))).go i H ∧ ∃ Nx : Hp → Prop, (∀ H', Nx H' → ∃ m', m' < m ∧ W (i + 1) m' H') ∧ ∀ x H', (Itk D0 od (fkv F (ends ps))).yld i H x H' → gName j x (wipe σ vs) H' fun σ2 H2 => wipe σ2 vs = wipe σ vs ∧ tYes σ2 H2 fun b H3 =>
            if b = true then te σ2 H3 fun y H4 => ∃ acc, H4 Dl = some (.lst acc) ∧ acc.length < sizeLine ∧ Nx (upd H4 Dl (.lst (acc ++ [y]))) else Nx H3) := fun {F G D0 od σ H0 Dl vs j te Qd} hz hDl hte hwp hd => by
      have ne : D0 ≠ Dl := fun z => by
        subst z
        rw [hz] at hDl
        cases hDl
      have fl : (fkv F (ends ps)).length = (ends ps).length := List.length_map _
      refine lc_it (walk_keys (kvs := fkv F (ends ps))) (fun i H' => ∃ as : List Addr, H' Dl = some (.lst (refs as)) ∧ PL H' as (((ends ps).take i).map fun e => (e, G e)) ∧ H' D0 = some (.frz od (.dK (fkv F (ends ps)))) ∧ ∀ c o, c ≠ D0 → H0 c = some o → H' c = some o)
        ⟨[], upd_same, .nil, (upd_ne ne).trans hz, fun c o hc e => (upd_ne (ne_of_none e hDl)).trans e⟩ (fun i H' _ ⟨_, _, _, h, _⟩ => h) ?_ ?_
      · rintro i x H2 H1 hi ⟨as, hl, hp, hz1, oth⟩ ⟨rfl, kk, vv, hkv, rfl⟩
        rw [fl] at hi
        obtain ⟨b, hb, hkv2, bl⟩ := at_i (F := F) hi
        cases hkv.symm.trans hkv2
        refine ⟨hwp _, yes (hte b _ bl hz1 oth _ fun p hp1 => ?_)⟩
        have np : Dl ≠ p := fun z => by
          subst z
          rw [hl] at hp1
          cases hp1
        have sp := Same.new (o := .tup [V.int (b : Nat), V.int (G b : Nat)]) hp1
        refine ⟨_, sp _ _ hl, small1000 ?_, as ++ [p], ?_, ?_, ?_, fun c o hc e => ?_⟩
        · rw [List.length_map, hp.len, List.length_map, List.length_take]
          omega
        · rw [upd_same, refs_app]
          rfl
        · rw [List.take_succ, hb, Option.toList_some, List.map_append]
          have keep : ∀ c xs, (upd H1 p (.tup [V.int (b : Nat), V.int (G b : Nat)])) c = some (.tup xs) → (upd (upd H1 p (.tup [V.int (b : Nat), V.int (G b : Nat)])) Dl (.lst (refs as ++ [V.ref p]))) c = some (.tup xs) := fun c xs e => (upd_ne (ne_of e (sp _ _ hl) (by intro z; cases z))).trans e
          exact ((hp.mono (sameT sp)).mono keep).app (.cons (keep _ _ upd_same) .nil)
        · exact (upd_ne ne).trans (sp _ _ hz1)
        · exact (upd_ne (ne_of_none e hDl)).trans (sp _ _ (oth c o hc e))
      · rintro H1 ⟨as, hl, hp, hz1, oth⟩
        rw [fl, List.take_of_length_le (Nat.le_refl _)] at hp
        exact hd H1 as hl hp hz1 oth
    have hSD : S ≠ D := fun z => by
      subst z
      cases hS.here.symm.trans hD
    refine ⟨fun σ H' => ∃ (M : Addr) (v3 v4 v5 v6 v7 v8 : Option V), σ = [some (.ref D), some (.ref S), some (.ref M), v3, v4, v5, v6, v7, v8] ∧ H' M = some (.dK (fkv (fun e => min e (far ps e)) (ends ps))) ∧ Same H H' ∧ H M = none, ?_, ?_⟩
    · refine ⟨D, _, hD, trivial, fun od => ?_⟩
      have fz : (upd H D (.frz od (.dK (fkv (far ps) (ends ps))))) D = some (.frz od (.dK (fkv (far ps) (ends ps)))) := upd_same
      refine ⟨_, rfl, D, od, rfl, .inl ⟨_, fz, fun Dl hDl => ?_⟩⟩
      refine build (G := fun e => min e (far ps e)) fz hDl (fun b H1 bl hz oth Q k => ?_) (fun x => rfl) (fun H1 as hl hp hz oth => ?_)
      · refine ⟨_, rfl, _, rfl, _, rfl, _, rfl, D, V.int (far ps b : Nat), rfl, .inl ⟨_, Sum.inl ((b : Nat) : Int), .inr ⟨od, hz⟩, rfl, (fkv_in (ends_full L bl)).symm⟩, _, _, rfl, two_le, ?_⟩
        have em : (if ((far ps b : Nat) : Int) < ((b : Nat) : Int) then ((far ps b : Nat) : Int) else ((b : Nat) : Int)) = ((min b (far ps b) : Nat) : Int) := by
          split <;> omega
        rw [em]
        exact k
      · refine ⟨hz, ?_⟩
        have sU : Same H (upd H1 D (.dK (fkv (far ps) (ends ps)))) := fun c o e => by
          by_cases hc : c = D
          · subst hc
            rw [upd_same, ← hD]
            exact e
          · exact (upd_ne hc).trans (oth c o hc ((upd_ne hc).trans e))
        have nl : Dl ≠ D := fun z => by
          subst z
          cases hl.symm.trans hz
        refine ⟨Dl, as, _, rfl, SqL.of ((upd_ne nl).trans hl), pl_paired (hp.mono fun c xs e => (upd_ne (ne_of e hz (by intro z; cases z))).trans e), fun M hM => ?_⟩
        rw [merge_fkv endn]
        exact ⟨M, _, _, _, _, _, _, rfl, upd_same, sU.trans (Same.new hM), sU.free hM⟩
    · rintro σ H1 ⟨M0, v3, v4, v5, v6, v7, v8, rfl, hM0, s1, nM0⟩
      have hD1 := s1 _ _ hD
      refine ⟨D, _, hD1, trivial, fun od => ?_⟩
      have fz : (upd H1 D (.frz od (.dK (fkv (far ps) (ends ps))))) D = some (.frz od (.dK (fkv (far ps) (ends ps)))) := upd_same
      have nMD : M0 ≠ D := fun z => by
        subst z
        rw [hD] at nM0
        cases nM0
      refine ⟨_, rfl, D, od, rfl, .inl ⟨_, fz, ?_⟩⟩
      refine for_it (walk_keys (kvs := fkv (far ps) (ends ps))) (fun i σ H' => ∃ (M : Addr) (N : Nat → Nat) (v3 v4 v5 v6 v7 v8 : Option V), σ = [some (.ref D), some (.ref S), some (.ref M), v3, v4, v5, v6, v7, v8] ∧ H' M = some (.dK (fkv N (ends ps))) ∧ M ≠ D ∧ H' D = some (.frz od (.dK (fkv (far ps) (ends ps)))) ∧
        (∀ c o, c ≠ D → H c = some o → H' c = some o) ∧ Names (far ps) (wayL ws) n rs ((ends ps).take i) N) ⟨M0, _, _, _, _, _, _, _, rfl, (upd_ne nMD).trans hM0, nMD, fz, fun c o hc e => (upd_ne hc).trans (s1 _ _ e), names_first I R⟩ (fun i σ H' _ ⟨_, _, _, _, _, _, _, _, _, _, _, h, _⟩ => h) ?_ ?_
      · rintro i x σ H3 H2 hi ⟨M, N, v3, v4, v5, v6, v7, v8, rfl, hM, nMD, hz, oth, hN⟩ ⟨rfl, kk, vv, hkv, rfl⟩
        rw [eL] at hi
        obtain ⟨b, hb, hkv2, bl⟩ := at_i (F := far ps) hi
        cases hkv.symm.trans hkv2
        have mg' : ∀ {e : Nat} {G : Nat → Nat} {H' : Hp} {M : Addr}, e < 4 * n → H' M = some (.dK (fkv G (ends ps))) → DGet H' M (.int ((e : Nat) : Int)) (some (.int (G e : Nat))) := fun {e G H' M} he hm => .inl ⟨_, Sum.inl ((e : Nat) : Int), .inl hm, rfl, (fkv_in (ends_full L he)).symm⟩
        have ml := mate_lt hW bl
        have hS2 : H2 S = some (.tup (nats ws)) := oth _ _ hSD hS.here
        have d4 : ((b : Nat) : Int) / 4 = ((b / 4 : Nat) : Int) := by omega
        have ex : Builtin.bitXor ((b : Nat) : Int) (((wayL ws (b / 4) : Nat) : Int) + 1) = ((mateE (wayL ws) b : Nat) : Int) := by
          rw [Bits.bitXor_pp (by omega) (by omega), show (((wayL ws (b / 4) : Nat) : Int) + 1).toNat = wayL ws (b / 4) + 1 by omega]
          rfl
        refine ⟨fun σ' H' => σ' = [some (.ref D), some (.ref S), some (.ref M), some (.int (b : Nat)), some (.int (N b : Nat)), some (.int (N (mateE (wayL ws) b) : Nat)), v6, v7, v8] ∧ H' = H2, ?_, ?_⟩
        · have wat : ws[b / 4]? = some (wayL ws (b / 4)) := by
            have hl : b / 4 < ws.length := by rw [hS.len]; omega
            unfold wayL
            rw [List.getD_eq_getElem?_getD, List.getElem?_eq_getElem hl]
            rfl
          refine ⟨_, rfl, _, rfl, M, _, rfl, mg' bl hM, ?_⟩
          refine ⟨_, rfl, _, rfl, _, rfl, _, rfl, _, _, rfl, rfl, ⟨by decide, by decide⟩, S, _, _, V.int (wayL ws (b / 4) : Nat), rfl, rfl, SqT.of hS2, at_of (j := b / 4) d4 (nats_at wat), _, _, rfl, rfl, _, _, rfl, rfl, M, V.int (N (mateE (wayL ws) b) : Nat), rfl, ?_, _, _, rfl, rfl, rfl⟩
          have q := mg' (G := N) ml hM
          rw [← ex] at q
          exact q
        · rintro σ' H' ⟨rfl, rfl⟩
          refine ⟨_, rfl, _, rfl, rfl, _, rfl, ?_⟩
          by_cases he : N (mateE (wayL ws) b) = N b
          · rw [he, show (!decide (V.int ((N b : Nat) : Int) = V.int ((N b : Nat) : Int))) = false by rw [decide_eq_true rfl]; rfl]
            refine iteF ?_
            have := hN.skip he
            refine ⟨M, N, _, _, _, _, _, _, rfl, hM, nMD, hz, oth, ?_⟩
            rw [List.take_succ, hb]
            exact this
          · rw [show (!decide (V.int ((N b : Nat) : Int) = V.int ((N (mateE (wayL ws) b) : Nat) : Int))) = true by
              rw [decide_eq_false (fun z => he (by have := V.int.inj z; omega))]
              rfl]
            refine iteT ?_
            refine ⟨fun σ' H4 => σ' = [some (.ref D), some (.ref S), some (.ref M), some (.int (b : Nat)), some (.int (N b : Nat)), some (.int (N (mateE (wayL ws) b) : Nat)), some (.int (min (N b) (N (mateE (wayL ws) b)) : Nat)), some (.int (max (N b) (N (mateE (wayL ws) b)) : Nat)), v8] ∧ Same H' H4, ?_, ?_⟩
            · refine ⟨_, rfl, _, rfl, _, _, rfl, _, rfl, _, rfl, _, _, rfl, two_le, fun q hq => ?_⟩
              have e1 : (if ((N (mateE (wayL ws) b) : Nat) : Int) < ((N b : Nat) : Int) then ((N (mateE (wayL ws) b) : Nat) : Int) else ((N b : Nat) : Int)) = ((min (N b) (N (mateE (wayL ws) b)) : Nat) : Int) := by split <;> omega
              have e2 : (if ((N (mateE (wayL ws) b) : Nat) : Int) > ((N b : Nat) : Int) then ((N (mateE (wayL ws) b) : Nat) : Int) else ((N b : Nat) : Int)) = ((max (N b) (N (mateE (wayL ws) b)) : Nat) : Int) := by split <;> omega
              rw [e1, e2]
              exact ⟨q, _, rfl, SqT.of upd_same, rfl, _, _, rfl, _, _, rfl, rfl, rfl, Same.new hq⟩
            · rintro σ' H4 ⟨rfl, s4⟩
              have hM4 := s4 _ _ hM
              refine ⟨M, _, hM4, trivial, fun od2 => ?_⟩
              have fz2 : (upd H4 M (.frz od2 (.dK (fkv N (ends ps))))) M = some (.frz od2 (.dK (fkv N (ends ps)))) := upd_same
              refine ⟨_, rfl, M, od2, rfl, .inl ⟨_, fz2, fun Dl hDl => ?_⟩⟩
              refine build (F := N) (G := rename N b (mateE (wayL ws) b)) fz2 hDl (fun a H5 al hz5 oth5 Q' k' => ?_) (fun x => rfl) (fun H5 as hl hp hz5 oth5 => ?_)
              · have q5 : DGet H5 M (.int ((a : Nat) : Int)) (some (.int (N a : Nat))) := .inl ⟨_, Sum.inl ((a : Nat) : Int), .inr ⟨od2, hz5⟩, rfl, (fkv_in (ends_full L al)).symm⟩
                refine ⟨_, rfl, _, rfl, _, rfl, M, _, rfl, q5, _, rfl, rfl, _, rfl, ?_⟩
                refine ite2 (fun hc => ?_) (fun hc => ?_)
                · have hc := V.int.inj (of_decide_eq_true hc)
                  have e : rename N b (mateE (wayL ws) b) a = min (N b) (N (mateE (wayL ws) b)) := by
                    unfold rename
                    exact if_pos (by omega)
                  rw [e] at k'
                  exact ⟨_, rfl, two_le, k'⟩
                · have e : rename N b (mateE (wayL ws) b) a = N a := by
                    unfold rename
                    exact if_neg fun z => hc (decide_eq_true (by rw [z]))
                  rw [e] at k'
                  exact ⟨_, rfl, _, rfl, M, _, rfl, q5, two_le, k'⟩
              · refine ⟨hz5, ?_⟩
                have nl : Dl ≠ M := fun z => by
                  subst z
                  cases hl.symm.trans hz5
                have hzD : (upd H5 M (.dK (fkv N (ends ps)))) D = some (.frz od (.dK (fkv (far ps) (ends ps)))) := (upd_ne nMD.symm).trans (oth5 _ _ nMD.symm ((upd_ne nMD.symm).trans (s4 _ _ hz)))
                have sU : Same H4 (upd H5 M (.dK (fkv N (ends ps)))) := fun c o e => by
                  by_cases hc : c = M
                  · subst hc
                    rw [upd_same, ← hM4]
                    exact e
                  · exact (upd_ne hc).trans (oth5 c o hc ((upd_ne hc).trans e))
                refine ⟨Dl, as, _, rfl, SqL.of ((upd_ne nl).trans hl), pl_paired (hp.mono fun c xs e => (upd_ne (ne_of e hz5 (by intro z; cases z))).trans e), fun M2 hM2 => ?_⟩
                rw [merge_fkv endn]
                have n2 : M2 ≠ D := fun z => by
                  subst z
                  rw [hzD] at hM2
                  cases hM2
                have := hN.more I R hW bl
                refine ⟨M2, rename N b (mateE (wayL ws) b), _, _, _, _, _, _, rfl, upd_same, n2, (Same.new hM2) _ _ hzD, fun c o hc e => (Same.new hM2) _ _ (sU _ _ (s4 _ _ (oth c o hc e))), ?_⟩
                rw [List.take_succ, hb]
                exact this
      · rintro σ H2 ⟨M, N, v3, v4, v5, v6, v7, v8, rfl, hM, nMD, hz, oth, hN⟩
        rw [eL, List.take_of_length_le (Nat.le_refl _)] at hN
        refine ⟨hz, ?_⟩
        have sU : Same H (upd H2 D (.dK (fkv (far ps) (ends ps)))) := fun c o e => by
          by_cases hc : c = D
          · subst hc
            rw [upd_same, ← hD]
            exact e
          · exact (upd_ne hc).trans (oth c o hc e)
        have hD3 := sU _ _ hD
        have hM3 : (upd H2 D (.dK (fkv (far ps) (ends ps)))) M = some (.dK (fkv N (ends ps))) := (upd_ne nMD).trans hM
        generalize upd H2 D (.dK (fkv (far ps) (ends ps))) = H3 at sU hD3 hM3
        refine ⟨D, _, hD3, trivial, fun od3 => ?_⟩
        have fz3 : (upd H3 D (.frz od3 (.dK (fkv (far ps) (ends ps))))) D = some (.frz od3 (.dK (fkv (far ps) (ends ps)))) := upd_same
        refine ⟨_, rfl, D, od3, rfl, .inl ⟨_, fz3, fun Dl hDl => ?_⟩⟩
        have ne : D ≠ Dl := fun z => by
          subst z
          rw [fz3] at hDl
          cases hDl
        refine lc_it (walk_keys (kvs := fkv (far ps) (ends ps))) (fun i H' => H' Dl = some (.lst (nats (((ends ps).take i).map N))) ∧ H' D = some (.frz od3 (.dK (fkv (far ps) (ends ps)))) ∧ ∀ c o, c ≠ D → H3 c = some o → H' c = some o)
          ⟨upd_same, (upd_ne ne).trans fz3, fun c o hc e => (upd_ne (ne_of_none ((upd_ne hc).trans e) hDl)).trans ((upd_ne hc).trans e)⟩ (fun i H' _ h => h.2.1) ?_ ?_
        · rintro i x H5 H4 hi ⟨hl, hz4, oth4⟩ ⟨rfl, kk, vv, hkv, rfl⟩
          rw [eL] at hi
          obtain ⟨b, hb, hkv2, bl⟩ := at_i (F := far ps) hi
          cases hkv.symm.trans hkv2
          refine ⟨rfl, yes ⟨_, rfl, _, rfl, M, V.int (N b : Nat), rfl, .inl ⟨_, Sum.inl ((b : Nat) : Int), .inl (oth4 _ _ nMD hM3), rfl, (fkv_in (ends_full L bl)).symm⟩, _, hl, small1000 ?_, ?_, ?_, fun c o hc e => ?_⟩⟩
          · rw [List.length_map, List.length_map, List.length_take]
            omega
          · rw [upd_same, List.take_succ, hb, Option.toList_some, List.map_append, nats_app]
            rfl
          · exact (upd_ne ne).trans hz4
          · exact (upd_ne (ne_of_none ((upd_ne hc).trans e) hDl)).trans (oth4 c o hc e)
        · rintro H4 ⟨hl, hz4, oth4⟩
          rw [eL, List.take_of_length_le (Nat.le_refl _)] at hl
          refine ⟨hz4, ?_⟩
          have s34 : Same H3 (upd H4 D (.dK (fkv (far ps) (ends ps)))) := fun c o e => by
            by_cases hc : c = D
            · subst hc
              rw [upd_same, ← hD3]
              exact e
            · exact (upd_ne hc).trans (oth4 c o hc e)
          have hl2 : (upd H4 D (.dK (fkv (far ps) (ends ps)))) Dl = some (.lst (nats ((ends ps).map N))) := (upd_ne ne.symm).trans hl
          rw [nats_ints] at hl2
          refine ⟨Dl, _, rfl, SqL.of hl2, ?_, fun xs nx mx => ?_⟩
          · rw [List.length_map, List.length_map]
            omega
          · have := parts_len I R hW hN (fun e he => ends_full L he) nx (fun x => by
              rw [mx, List.mem_map]
              constructor
              · rintro ⟨y, hy, rfl⟩
                obtain ⟨e, he, rfl⟩ := List.mem_map.mp hy
                exact ⟨e, L.lt e he, rfl⟩
              · rintro ⟨e, he, rfl⟩
                exact ⟨_, List.mem_map.mpr ⟨e, ends_full L he, rfl⟩, rfl⟩)
            rw [this]
            exact k _ (sU.trans s34)
end
end One
end P_V1

section P_X8
set_option linter.all false
set_option maxRecDepth 100000
set_option maxHeartbeats 8000000
namespace One
open PySem PySem.Spec PyProof.Rows L2
/-! ### a tuple of small numbers, as data -/
def nsD (rs : List Nat) : PyData := .tuple (rs.map fun x => PyData.int (x : Nat))
theorem dp_ns {K : PySem.W.Frag} {H : Hp} : ∀ rs : List Nat, DpAll K H (nats rs) (rs.map fun x => PyData.int (x : Nat))
  | [] => .nil
  | _ :: r => .cons (.int _) (dp_ns r)
theorem dp_nsD {K : PySem.W.Frag} {H : Hp} {u : Addr} {rs : List Nat} (h : H u = some (.tup (nats rs))) : Dp K H (.ref u) (nsD rs) := .tup (SqT.of h) (dp_ns rs)
theorem ns_all : ∀ rs : List Nat, (∀ x ∈ rs, x < 1000) → PyData.showableAll (rs.map fun x => PyData.int (x : Nat)) = true ∧ PyData.hasDictAll (rs.map fun x => PyData.int (x : Nat)) = false ∧ PyData.depthAll (rs.map fun x => PyData.int (x : Nat)) ≤ 1 ∧ PyData.leavesShortAll 8 (rs.map fun x => PyData.int (x : Nat)) = true ∧ PyData.bulkAll (rs.map fun x => PyData.int (x : Nat)) = rs.length
  | [], _ => ⟨rfl, rfl, Nat.zero_le _, rfl, rfl⟩
  | x :: r, h => by
    obtain ⟨h1, h2, h3, h4, h5⟩ := ns_all r fun q m => h q (List.mem_cons_of_mem _ m)
    have q1 := h x (List.mem_cons_self ..)
    have a1 : PyData.showable (.int (x : Nat)) = true := by
      show decide (((x : Nat) : Int).natAbs.log2 < 1920) = true
      simp only [Int.natAbs_natCast, decide_eq_true_eq]
      exact log_small q1
    have a4 : PyData.leavesShort 8 (.int (x : Nat)) = true := by
      show decide (_ ≤ 8) = true
      simp only [decide_eq_true_eq]
      exact int_short _ q1
    refine ⟨?_, ?_, ?_, ?_, ?_⟩
    · show (PyData.showable (.int (x : Nat)) && PyData.showableAll _) = true
      rw [a1, h1]; rfl
    · show (false || PyData.hasDictAll _) = false
      rw [h2]; rfl
    · show max 0 (PyData.depthAll _) ≤ 1
      exact Nat.max_le.mpr ⟨Nat.zero_le 1, h3⟩
    · show (PyData.leavesShort 8 (.int (x : Nat)) && PyData.leavesShortAll 8 _) = true
      rw [a4, h4]; rfl
    · show 0 + 1 + PyData.bulkAll _ = _
      rw [h5]
      show 0 + 1 + r.length = r.length + 1
      omega
theorem ns_fine {rs : List Nat} (h : ∀ x ∈ rs, x < 1000) (hl : rs.length ≤ 1000) : (nsD rs).showable = true ∧ (nsD rs).hasDict = false ∧ (nsD rs).depth ≤ 16 ∧ (nsD rs).shown.length ≤ sizeLine := by
  obtain ⟨h1, h2, h3, h4, h5⟩ := ns_all rs h
  refine ⟨h1, h2, ?_, ?_⟩
  · show PyData.depthAll _ + 1 ≤ 16
    omega
  · have q := PyData.shown_le_bulk 8 (Nat.le_refl _) (nsD rs) h4
    have e : (nsD rs).bulk = rs.length := h5
    rw [e] at q
    have : (40000 : Nat) ≤ sizeLine := by decide
    omega
theorem repr_ns {K : PySem.W.Frag} {H : Hp} {u : Addr} {rs : List Nat} {Q : VK} (hu : H u = some (.tup (nats rs))) (h : ∀ x ∈ rs, x < 1000) (hl : rs.length ≤ 1000) (q : Q (.str (nsD rs).shown) H) : rRepr K [.ref u] H Q := by
  obtain ⟨h1, h2, h3, h4⟩ := ns_fine h hl
  exact ⟨u, _, rfl, dp_nsD hu, h1, h2, h3, h4, q⟩

theorem ns_lay : ∀ rs : List Nat, PyData.canLayAll0 (rs.map fun x => PyData.int (x : Nat)) = true
  | [] => by simp [PyData.canLayAll0]
  | x :: r => by
    show (PyData.canLay0 (.int (x : Nat)) && PyData.canLayAll0 (r.map fun x => PyData.int (x : Nat))) = true
    rw [ns_lay r]
    rfl
theorem ns_depth : ∀ rs : List Nat, PyData.depthAll (rs.map fun x => PyData.int (x : Nat)) = 0
  | [] => rfl
  | x :: r => by
    show max (PyData.depth (.int (x : Nat))) (PyData.depthAll (r.map fun x => PyData.int (x : Nat))) = 0
    rw [ns_depth r]
    rfl
theorem nsD_depth (rs : List Nat) : (nsD rs).depth = 1 := by
  show PyData.depthAll _ + 1 = 1
  rw [ns_depth]
theorem nsD_lay (rs : List Nat) : (nsD rs).canLay0 = true := ns_lay rs
theorem nsD_shaped (rs : List Nat) : SeqAt.shaped (nsD rs) = true := by
  show ((nsD rs).canLay0 && decide ((nsD rs).depth ≤ 64)) = true
  rw [nsD_lay, nsD_depth]
  rfl
theorem ns_eqv : ∀ xs ys : List Nat, PyData.eqvAll (xs.map fun x => PyData.int (x : Nat)) (ys.map fun x => PyData.int (x : Nat)) = decide (xs = ys)
  | [], [] => by simp [PyData.eqvAll]
  | [], y :: ys => by simp [PyData.eqvAll]
  | x :: xs, [] => by simp [PyData.eqvAll]
  | x :: xs, y :: ys => by
    show PyData.eqvAll (.int (x : Nat) :: xs.map fun x => PyData.int (x : Nat)) (.int (y : Nat) :: ys.map fun x => PyData.int (x : Nat)) = _
    rw [PyData.eqvAll, ns_eqv xs ys, PyData.eqv]
    by_cases h : x = y
    · subst h
      by_cases k : xs = ys <;> simp [k]
    · have : ¬ ((x : Nat) : Int) = ((y : Nat) : Int) := by omega
      simp [h, this]
theorem nsD_eqv (xs ys : List Nat) : PyData.eqv (nsD xs) (nsD ys) = decide (xs = ys) := by
  unfold nsD
  rw [PyData.eqv]
  exact ns_eqv xs ys
/-- rounds told, as data -/
def rsD (f : Nat → Nat) (rs : List (Nat × Nat)) : List PyData := rs.map fun p => nsD (rnd f p.1 p.2)
theorem rsD_dp {K : PySem.W.Frag} {f : Nat → Nat} {H : Hp} {as : List Addr} {rs : List (Nat × Nat)} (h : RsAt f H as rs) : DpAll K H (refs as) (rsD f rs) := by
  induction h with
  | nil => exact .nil
  | cons e _ ih => exact .cons (dp_nsD e) ih
theorem rsD_lay (f : Nat → Nat) : ∀ rs, PyData.canLayAll0 (rsD f rs) = true
  | [] => by simp [rsD, PyData.canLayAll0]
  | p :: rs => by
    show (PyData.canLay0 (nsD _) && PyData.canLayAll0 (rsD f rs)) = true
    rw [nsD_lay, rsD_lay f rs]
    rfl
theorem rsD_depth (f : Nat → Nat) : ∀ rs, PyData.depthAll (rsD f rs) ≤ 1
  | [] => by simp [rsD, PyData.depthAll]
  | p :: rs => by
    show max (nsD _).depth (PyData.depthAll (rsD f rs)) ≤ 1
    rw [nsD_depth]
    exact Nat.max_le.mpr ⟨Nat.le_refl 1, rsD_depth f rs⟩
theorem rsL_shaped (f : Nat → Nat) (rs : List (Nat × Nat)) : SeqAt.shaped (.list (rsD f rs)) = true := by
  have h1 := rsD_depth f rs
  show (PyData.canLay0 (.list (rsD f rs)) && decide (PyData.depth (.list (rsD f rs)) ≤ 64)) = true
  rw [Bool.and_eq_true]
  refine ⟨by simp only [PyData.canLay0]; exact rsD_lay f rs, decide_eq_true ?_⟩
  show PyData.depthAll _ + 1 ≤ 64
  omega
theorem eqv_refl_list (ds : List PyData) (h : PyData.canLayAll0 ds = true) : PyData.eqv (.list ds) (.list ds) = true := by
  rw [PyData.eqv]
  exact SeqAt.eqvAll_refl ds h
end One
end P_X8

section P_XR
set_option linter.all false
set_option maxRecDepth 100000
set_option maxHeartbeats 4000000
namespace One
open PySem PySem.Spec PyProof.Rows L2
/-! ### repr of anything that the laws hand in: also where empty dicts stand in it -/
mutual
inductive Dq (H : Hp) : V → PyData → Prop
  | non : Dq H .non .none
  | bl (b : Bool) : Dq H (.bl b) (.bool b)
  | int (i : Int) : Dq H (.int i) (.int i)
  | str (x : Str) : Dq H (.str x) (.str x)
  | lst {a : Addr} {xs : List V} {ds : List PyData} : a ≠ sysModules → H a = some (.lst xs) → DqAll H xs ds → Dq H (.ref a) (.list ds)
  | tup {a : Addr} {xs : List V} {ds : List PyData} : H a = some (.tup xs) → DqAll H xs ds → Dq H (.ref a) (.tuple ds)
  | emp {a : Addr} : H a = some (.dK []) → Dq H (.ref a) (.dict [])
inductive DqAll (H : Hp) : List V → List PyData → Prop
  | nil : DqAll H [] []
  | cons {v : V} {vs : List V} {d : PyData} {ds : List PyData} : Dq H v d → DqAll H vs ds → DqAll H (v :: vs) (d :: ds)
end
section
variable {X : Cx} {pins : List (Addr × Obj)} {σ : L2.St} {H : Hp} {s : Shared}
mutual
theorem Dq.reads (I : Inv X pins σ H s) : ∀ (d : PyData) (v : V) (u : Value), Dq H v d → RelV v u → ∃ as, Reads s.heap u d as ∧ sysModules ∉ as
  | .none, _, _, h, r => by
    cases h
    cases r
    exact ⟨_, Reads.none, by simp⟩
  | .bool b, _, _, h, r => by
    cases h
    cases r
    exact ⟨_, Reads.bool b, by simp⟩
  | .int i, _, _, h, r => by
    cases h
    obtain ⟨t, rfl⟩ := r
    exact ⟨_, Reads.int i t, by simp⟩
  | .str x, _, _, h, r => by
    cases h
    obtain ⟨t, rfl⟩ := r
    exact ⟨_, Reads.str x t, by simp⟩
  | .list ds, _, _, h, r => by
    cases h with
    | lst hne hs ha =>
      cases r
      obtain ⟨its, rv, ⟨o, n, ho, hc, _, hd⟩, _⟩ := I.list (SqL.of hs)
      obtain ⟨as, hr, hn⟩ := Dq.readsAll I ds _ its ha rv
      refine ⟨_, Reads.list ho hc hd hr, fun m => ?_⟩
      rcases List.mem_cons.mp m with e | m
      · exact hne e.symm
      · exact hn m
  | .tuple ds, _, _, h, r => by
    cases h with
    | tup hs ha =>
      cases r
      obtain ⟨its, rv, ⟨o, ho, hc, n, hd⟩, _⟩ := I.tuple (SqT.of hs)
      obtain ⟨as, hr, hn⟩ := Dq.readsAll I ds _ its ha rv
      exact ⟨_, Reads.tuple ho hc hd hr, hn⟩
  | .dict kvs, _, _, h, r => by
    cases h with
    | @emp a hs =>
      cases r
      obtain ⟨_, hne, vs, hkv, o, es, ep, ho, hex, hda, _, hp, _⟩ := (show ObjOk X.prog X.w H s.heap a (.dK []) from I.hok a _ hs)
      cases hkv
      have e0 : es.toList = [] := by
        generalize es.toList = l at hp
        cases hp
        rfl
      refine ⟨_, Reads.dict ho hex.1 hda (by rw [e0]; exact .nil) (by rw [e0]; exact .nil), fun m => ?_⟩
      have e : sysModules = a := List.mem_singleton.mp (by simpa using m)
      exact beq_eq_false_iff_ne.mp hne e.symm
theorem Dq.readsAll (I : Inv X pins σ H s) : ∀ (ds : List PyData) (vs : List V) (us : List Value), DqAll H vs ds → Vals vs us → ∃ as, ReadsAll s.heap us ds as ∧ sysModules ∉ as
  | [], _, _, h, r => by
    cases h
    cases r
    exact ⟨_, ReadsAll.nil, by simp⟩
  | d :: ds, _, _, h, r => by
    cases h with
    | cons h1 h2 =>
      cases r with
      | cons r1 r2 =>
        obtain ⟨as, q1, n1⟩ := Dq.reads I d _ _ h1 r1
        obtain ⟨bs, q2, n2⟩ := Dq.readsAll I ds _ _ h2 r2
        exact ⟨_, ReadsAll.cons q1 q2, fun m => (List.mem_append.mp m).elim n1 n2⟩
end
end
def rReprQ (K : PySem.W.Frag) : List V → Hp → VK → Prop := fun xs H Q => ∃ (v : V) (d : PyData), xs = [v] ∧ (Dp K H v d ∧ d.hasDict = false ∨ Dq H v d) ∧ d.showable = true ∧ d.depth ≤ 16 ∧ d.shown.length ≤ sizeLine ∧ Q (.str d.shown) H
theorem cr_reprQ {X : Cx} (hgd : X.A.guards = some []) (hu : X.A.units + 64 < cLine) : CallR X (.builtin "repr") (rReprQ X.K) := by
  intro pins s σ H xs us Q I r h
  obtain ⟨v, d, rfl, hd, h1, h3, h4, q⟩ := h
  obtain ⟨u, rfl, e⟩ := vals1 r
  have rd : ∀ {a : Addr}, u = .ref a → ∃ as, Reads s.heap u d as ∧ (d.hasDict = true → sysModules ∉ as) := fun {a} ea => by
    rcases hd with ⟨hd, hn⟩ | hd
    · obtain ⟨as, hR⟩ := Dp.reads I d _ _ hd e
      exact ⟨as, hR, fun z => Bool.noConfusion (hn.symm.trans z)⟩
    · obtain ⟨as, hR, hn⟩ := Dq.reads I d _ _ hd e
      exact ⟨as, hR, fun _ => hn⟩
  have big : ∀ {a : Addr}, u = .ref a → wpAny (model X.prog X.w) X.A (call (.builtin "repr") [u]) (EP X pins σ Q) X.xe s := fun {a} ea => by
    obtain ⟨as, hR, hn⟩ := rd ea
    subst ea
    exact repr_of_reads' hR h1 hn hgd (by omega) (fun _ _ e => e) (fun h' u tk hk => ⟨.str d.shown, H, I.kept hk, ⟨_, rfl⟩, q⟩) h4
  cases v with
  | non =>
    have ed : d = .none := by
      rcases hd with ⟨hd, _⟩ | hd <;> cases hd <;> rfl
    subst ed
    cases e
    exact PySem.P.repr_of_none ⟨.str _, H, I.tok _, ⟨_, rfl⟩, q⟩
  | bl b =>
    have ed : d = .bool b := by
      rcases hd with ⟨hd, _⟩ | hd <;> cases hd <;> rfl
    subst ed
    cases e
    refine PySem.P.repr_of_bool ⟨.str _, H, I.tok _, ⟨_, rfl⟩, ?_⟩
    cases b <;> exact q
  | int i =>
    have ed : d = .int i := by
      rcases hd with ⟨hd, _⟩ | hd <;> cases hd <;> rfl
    subst ed
    obtain ⟨t, rfl⟩ := e
    exact PySem.P.repr_of_int (of_decide_eq_true h1) ⟨.str _, H, I.tok _, ⟨_, rfl⟩, q⟩
  | str x =>
    have ed : d = .str x := by
      rcases hd with ⟨hd, _⟩ | hd <;> cases hd <;> rfl
    subst ed
    obtain ⟨t, rfl⟩ := e
    exact PySem.P.repr_of_str ⟨.str _, H, I.tok _, ⟨_, rfl⟩, q⟩ h4
  | ref a => exact big e
  | _ => exfalso; rcases hd with ⟨hd, _⟩ | hd <;> cases hd
end One
end P_XR

section P_V2
set_option linter.all false
set_option maxRecDepth 100000
set_option maxHeartbeats 16000000
namespace One
open PySem PySem.Spec PyProof.Rows L2
abbrev sAE : Stmt := top 44
abbrev sGR : Stmt := top 45
abbrev nAE : List Str := ["fars", "told", "one", "end"]
abbrev nGR : List Str := ["fars", "setting", "one", "number", "end", "goal"]
theorem scAE : FnScope nAE ["fars", "told"] (defScope sAE) := ⟨rfl, rfl, rfl, by decide +kernel, rfl, by decide +kernel, by decide +kernel⟩
theorem scGR : FnScope nGR ["fars", "setting", "one"] (defScope sGR) := ⟨rfl, rfl, rfl, by decide +kernel, rfl, by decide +kernel, by decide +kernel⟩
theorem RsAt.get {f : Nat → Nat} {H : Hp} {as : List Addr} {ps : List (Nat × Nat)} (h : RsAt f H as ps) : ∀ {i : Nat} {a : Addr}, as[i]? = some a → ∃ p, ps[i]? = some p ∧ H a = some (.tup (nats (rnd f p.1 p.2))) := by
  induction h with
  | nil => intro i a e; simp at e
  | cons h1 _ ih =>
    intro i a e
    cases i with
    | zero =>
      cases Option.some.inj e
      exact ⟨_, rfl, h1⟩
    | succ i => exact ih (i := i) (by simpa using e)
def spAE : Sp := fun vs H Q _ => ∃ (D u : Addr) (n : Nat) (ps : List (Nat × Nat)) (ws : List Nat) (as : List Addr) (rs : List (Nat × Nat)), vs = [.ref D, .ref u] ∧ Lines n ps ∧ n ≤ 100 ∧ H D = some (.dK (fkv (far ps) (ends ps))) ∧ (∀ c, c < n → wayL ws c < 3) ∧ H u = some (.tup (refs as)) ∧ RsAt (nextE (far ps) (wayL ws)) H as rs ∧ Rounds (far ps) (wayL ws) n rs ∧ ∀ H', Same H H' → Q (.bl true) H'
def spGR : Sp := fun vs H Q _ => ∃ (D S u : Addr) (n : Nat) (ps : List (Nat × Nat)) (ws : List Nat) (p : Nat × Nat) (rs : List (Nat × Nat)), vs = [.ref D, .ref S, .ref u] ∧ Lines n ps ∧ n ≤ 100 ∧ H D = some (.dK (fkv (far ps) (ends ps))) ∧ SetAt H S n ws ∧ H u = some (.tup (nats (rnd (nextE (far ps) (wayL ws)) p.1 p.2))) ∧ p ∈ rs ∧ Rounds (far ps) (wayL ws) n rs ∧ ∀ H', Same H H' → Q (.bl true) H'
section
variable {P : Program} {w : World} {K : PySem.W.Frag} {mg : Str → Option Value} {base : Heap}
theorem ok_ae {f : Addr} {fd : FuncData} (F : Fun K "_law_are_ends" "_law_are_ends" sAE f fd) (T : TB mg) : FnOk P w K mg base CX0 1 f fd ["fars", "told"] spAE := by
  refine F.ok scAE (fun vs H Q E h => ?_) (fun cdv A outer s H vs Q E hr h => ?_)
  · obtain ⟨D, u, n, ps, ws, as, rs, rfl, _⟩ := h
    rfl
  · obtain ⟨D, u, n, ps, ws, as, rs, rfl, L, h100, hD, hW, hu', hA, R, k⟩ := h
    have nd := scAE.nd
    have hu1 := hu_of hr
    have hu : (A.deeper (envOfC "_law_are_ends" (defScope sAE) s.heap.objs.size f cdv)).units + 64 < cLine := hr.units
    refine ⟨_, pss_cons (ps_if (pt_not (pt_val (pe_callB call_isi (by rfl) T.isinstance boot_isinstance (pa_cons (pv 1) (pa_cons (pe_bltn (v := .ty "tuple") (by rfl) T.tuple boot_tuple rfl) pa_nil))))) (pss_one (ps_ret pe_bl)) pss_nil)
      (pss_cons (ps_for PassesOwn.never rfl (pi_tup (pv 1)) (pg_name (i := 2) nd rfl (Or.inl rfl))
        (pss_cons (ps_if (PW.pt (pw_or (pt_not (pt_val (pe_callB call_isi (by rfl) T.isinstance boot_isinstance (pa_cons (pv 2) (pa_cons (pe_bltn (v := .ty "tuple") (by rfl) T.tuple boot_tuple rfl) pa_nil))))) (pw_or1 (pt_cmpR (op_eqD (by exact hu)) (pv 2) (pe_tup pa_nil) (nomark _))))) (pss_one (ps_ret pe_bl)) pss_nil)
      (pss_one (ps_if (pt_cmpR (op_neD (by exact hu)) (pe_lc (own := [("end", 3)]) (g := (gName 3)) (tt := (tOr (tNot (tB (tCB (rIsi K) (tCons (tVar 3) (tCons (tC (.ty "int")) tNil))))) (tOr (tB (tCB (rIsi K) (tCons (tVar 3) (tCons (tC (.ty "bool")) tNil)))) (tB (tDNotIn (tVar 3) (tVar 0)))))) (te := (tVar 3)) rfl nd (pi_tup (pv 2)) (blkOk_by (N := nAE) (sc := defScope sAE) (by decide +kernel)) (fun _ _ _ _ _ => pg_name (i := 3) nd rfl (Or.inl rfl)) (fun _ _ _ _ _ => pts_one (PW.pt (pw_or (pt_not (pt_val (pe_callB call_isi (by rfl) T.isinstance boot_isinstance (pa_cons (pv 3) (pa_cons (pe_bltn (v := .ty "int") (by rfl) T.int PyProof.Rows.boot_int rfl) pa_nil))))) (pw_or (pt_val (pe_callB call_isi (by rfl) T.isinstance boot_isinstance (pa_cons (pv 3) (pa_cons (pe_bltn (v := .ty "bool") (by rfl) T.bool (by decide +kernel) rfl) pa_nil)))) (pw_or1 (pt_cmp (pc_dnotin hu1 (pv 3) (pv 0)))))))) (fun _ _ _ _ _ => by exact (pv 3))) (pe_lst pa_nil) (nomark _)) (pss_one (ps_ret pe_bl)) pss_nil))))
      (pss_one (ps_ret pe_bl))), ?_⟩
    have I := far_inv L
    refine ⟨_, rfl, _, _, _, _, _, rfl, .ty _, (TV.tup hu').tyx, (TV.tup hu').kTup, _, rfl, iteF ?_⟩
    refine ⟨_, rfl, u, rfl, ⟨_, SqT.of hu'⟩, ?_⟩
    refine for_it (walk_tup (K := K) (a := u) (xs := refs as)) (fun i σ H' => ∃ v2 v3 : Option V, σ = [some (.ref D), some (.ref u), v2, v3] ∧ Same H H') ⟨none, none, rfl, Same.refl H⟩ (fun i σ H' _ ⟨_, _, _, s⟩ => SqT.of (s _ _ hu')) ?_ ?_
    · rintro i x σ H2 H1 hi ⟨v2, v3, rfl, s1⟩ ⟨rfl, hx⟩
      have hx : (refs as)[i]? = some x := hx
      obtain ⟨a, ha, rfl⟩ : ∃ a, as[i]? = some a ∧ x = .ref a := by
        rw [List.getElem?_map] at hx
        cases h : as[i]? with
        | none => rw [h] at hx; cases hx
        | some a => rw [h] at hx; exact ⟨a, rfl, (Option.some.inj hx).symm⟩
      obtain ⟨p, hp, hpa⟩ := hA.get ha
      obtain ⟨pl, pp⟩ := R.per p (List.mem_of_getElem? hp)
      have h1 := s1 _ _ hpa
      have rl : (nats (rnd (nextE (far ps) (wayL ws)) p.1 p.2)).length = p.2 := by rw [List.length_map, rnd_len]
      refine ⟨_, rfl, _, _, _, _, _, rfl, .ty _, (TV.tup h1).tyx, (TV.tup h1).kTup, _, rfl, iteF ?_⟩
      refine ⟨_, rfl, Nat.zero_le _, fun e he => ?_⟩
      have se := Same.new (o := .tup []) he
      refine ⟨_, nsD [], dp_nsD (se _ _ h1), dp_nsD (rs := []) upd_same, nsD_shaped _, nsD_shaped _, _, rfl, ?_⟩
      have ne : rnd (nextE (far ps) (wayL ws)) p.1 p.2 ≠ [] := fun z => by
        have := self_rnd pp
        rw [z] at this
        cases this
      rw [nsD_eqv, decide_eq_false ne]
      refine iteF ?_
      have h2 := se _ _ h1
      have s2 := s1.trans se
      generalize upd H1 e (.tup []) = H2 at h2 s2
      refine ⟨_, rfl, a, rfl, ⟨_, SqT.of h2⟩, fun Dl hDl => ?_⟩
      have sD := Same.new (o := .lst []) hDl
      refine lc_it (walk_tup (K := K) (a := a) (xs := nats (rnd (nextE (far ps) (wayL ws)) p.1 p.2))) (fun j H' => H' Dl = some (.lst []) ∧ Same H2 H') ⟨upd_same, sD⟩ (fun j H' _ h => SqT.of (h.2 _ _ h2)) ?_ ?_
      · rintro j x H4 H3 hj ⟨hl, s3⟩ ⟨rfl, hx⟩
        have hx : (nats (rnd (nextE (far ps) (wayL ws)) p.1 p.2))[j]? = some x := hx
        rw [rl] at hj
        have hir : j < (rnd (nextE (far ps) (wayL ws)) p.1 p.2).length := by rw [rnd_len]; exact hj
        rw [List.getElem?_map, List.getElem?_eq_getElem hir] at hx
        cases hx
        generalize hze : (rnd (nextE (far ps) (wayL ws)) p.1 p.2)[j] = z
        have hz : (rnd (nextE (far ps) (wayL ws)) p.1 p.2)[j]? = some z := by rw [List.getElem?_eq_getElem hir, hze]
        have zl : z < 4 * n := rnd_lt I hW pl (List.mem_of_getElem? hz)
        have tz : TV H3 (.int ((z : Nat) : Int)) "int" := .int _
        refine ⟨rfl, ?_⟩
        refine ⟨_, rfl, _, _, _, _, true, rfl, .ty _, tz.tyx, kit_ty (by decide +kernel), _, rfl, iteF ?_⟩
        refine ⟨_, rfl, _, _, _, _, false, rfl, .ty _, tz.tyx, kit_ty (by decide +kernel), _, rfl, iteF ?_⟩
        refine ⟨_, rfl, _, rfl, D, some (.int (far ps z : Nat)), rfl, .inl ⟨_, Sum.inl ((z : Nat) : Int), .inl (s3 _ _ (s2 _ _ hD)), rfl, (fkv_in (ends_full L zl)).symm⟩, _, rfl, ?_⟩
        exact iteF ⟨hl, s3⟩
      · rintro H3 ⟨hl, s3⟩
        refine ⟨Nat.zero_le _, fun e2 he2 => ?_⟩
        have s4 := Same.new (o := .lst []) he2
        refine ⟨.list [], .list [], .lst (SqL.of (s4 _ _ hl)) .nil, .lst (SqL.of upd_same) .nil, by decide +kernel, by decide +kernel, _, rfl, ?_⟩
        rw [show PyData.eqv (.list []) (.list []) = true by decide +kernel]
        exact iteF ⟨_, _, rfl, s2.trans (s3.trans s4)⟩
    · rintro σ H1 ⟨v2, v3, rfl, s1⟩
      exact k _ s1
theorem ok_gr {f : Addr} {fd : FuncData} (F : Fun K "_law_goes_round" "_law_goes_round" sGR f fd) (T : TB mg) (hmin : mg "min" = none) : FnOk P w K mg base CX0 1 f fd ["fars", "setting", "one"] spGR := by
  refine F.ok scGR (fun vs H Q E h => ?_) (fun cdv A outer s H vs Q E hr h => ?_)
  · obtain ⟨D, S, u, n, ps, ws, p, rs, rfl, _⟩ := h
    rfl
  · obtain ⟨D, S, u, n, ps, ws, p, rs, rfl, L, h100, hD, hS, hu', hp, R, k⟩ := h
    have nd := scGR.nd
    have hu1 := hu_of hr
    refine ⟨_, pss_cons (ps_for PassesOwn.never rfl (pi_enumT (by rfl) T.enumerate (pa_cons (pv 2) pa_nil)) (pg_tup rfl (pgs_cons (pg_name (i := 3) nd rfl (Or.inl rfl)) (pgs_cons (pg_name (i := 4) nd rfl (Or.inl rfl)) pgs_nil)))
        (pss_cons (ps_set (i := 5) nd rfl (Or.inl rfl) (pe_dget hu1 (pv 0) (pv 4) (fun _ _ => rfl)))
      (pss_one (ps_if (pt_cmpR op_ne (pe_ix ix_tup (pv 2) (pe_op op_mod (pe_op op_add (pv 3) pe_int) (pe_callB call_len_seq (by rfl) T.len PySem.boot_len (pa_cons (pv 2) pa_nil))) (fun _ _ => rfl)) (pe_op op_xor (pv 5) (pe_op op_add (pe_ix ix_tup (pv 1) (pe_op op_fdiv (pv 5) pe_int) (fun _ _ => rfl)) pe_int)) (nomark _)) (pss_one (ps_ret pe_bl)) pss_nil))))
      (pss_one (ps_ret (pe_cmpR op_eq (pe_ix ix_tup (pv 2) pe_int (fun _ _ => rfl)) (pe_callB (cr_min rfl) (by rfl) hmin boot_min (pa_cons (pe_lc (own := [("end", 4)]) (g := (gName 4)) (tt := tYes) (te := (tCB rMin2 (tCons (tVar 4) (tCons (tDGet (tVar 0) (tVar 4)) tNil)))) rfl nd (pi_tup (pv 2)) (blkOk_by (N := nGR) (sc := defScope sGR) (by decide +kernel)) (fun _ _ _ _ _ => pg_name (i := 4) nd rfl (Or.inl rfl)) (fun _ _ _ _ _ => pts_nil) (fun _ _ _ _ _ => by exact (pe_callB (min2b rfl) (by rfl) hmin boot_min (pa_cons (pv 4) (pa_cons (pe_dget hu1 (pv 0) (pv 4) (fun _ _ => rfl)) pa_nil))))) pa_nil)) (nomark _)))), ?_⟩
    have I := far_inv L
    have hW := hS.ways
    obtain ⟨pl, pp⟩ := R.per p hp
    have G := next_goes I hW
    have rl : (nats (rnd (nextE (far ps) (wayL ws)) p.1 p.2)).length = p.2 := by rw [List.length_map, rnd_len]
    have rat : ∀ i, i < p.2 → (rnd (nextE (far ps) (wayL ws)) p.1 p.2)[i]? = some (iter (nextE (far ps) (wayL ws)) i p.1) := fun i hi => by
      unfold rnd
      rw [List.getElem?_map, List.getElem?_range hi]
      rfl
    have wat : ∀ c, c < n → ws[c]? = some (wayL ws c) := fun c hc => by
      have hl : c < ws.length := by rw [hS.len]; exact hc
      unfold wayL
      rw [List.getD_eq_getElem?_getD, List.getElem?_eq_getElem hl]
      rfl
    refine ⟨_, rfl, u, _, rfl, SqT.of hu', ?_⟩
    refine for_it (walk_enumT (K := K) (a := u) (xs := nats (rnd (nextE (far ps) (wayL ws)) p.1 p.2))) (fun i σ H' => ∃ v3 v4 v5 : Option V, σ = [some (.ref D), some (.ref S), some (.ref u), v3, v4, v5] ∧ Same H H') ⟨none, none, none, rfl, Same.refl H⟩ (fun i σ H' _ ⟨_, _, _, _, s⟩ => SqT.of (s _ _ hu')) ?_ ?_
    · rintro i x σ H2 H1 hi ⟨v3, v4, v5, rfl, s1⟩ ⟨q, x', y', rfl, hq, rfl, ex, ey⟩
      cases ex
      rw [rl] at hi
      have ey : (nats (rnd (nextE (far ps) (wayL ws)) p.1 p.2))[i]? = some y' := ey
      rw [nats_at (rat i hi)] at ey
      cases ey
      generalize hze : iter (nextE (far ps) (wayL ws)) i p.1 = z
      have zl : z < 4 * n := by rw [← hze]; exact G.iter_lt pl i
      have Fl := I.lt z zl
      have s7 := Same.new (o := .tup [V.int (i : Nat), V.int (z : Nat)]) hq
      have sA := s1.trans s7
      refine ⟨q, _, rfl, SqT.of upd_same, rfl, _, _, rfl, _, _, rfl, rfl, ?_⟩
      generalize upd H2 q (.tup [V.int (i : Nat), V.int (z : Nat)]) = H3 at sA
      have hD3 := sA _ _ hD
      have hu3 := sA _ _ hu'
      have hS3 := sA _ _ hS.here
      have dg : ∀ {e : Nat}, e < 4 * n → DGet H3 D (.int ((e : Nat) : Int)) (some (.int (far ps e : Nat))) := fun {e} he => .inl ⟨_, Sum.inl ((e : Nat) : Int), .inl hD3, rfl, (fkv_in (ends_full L he)).symm⟩
      have d4 : ((far ps z : Nat) : Int) / 4 = ((far ps z / 4 : Nat) : Int) := by omega
      have nx : (rnd (nextE (far ps) (wayL ws)) p.1 p.2)[(i + 1) % p.2]? = some (nextE (far ps) (wayL ws) z) := by
        by_cases h : i + 1 < p.2
        · rw [Nat.mod_eq_of_lt h, rat _ h, ← hze]
          rfl
        · have e : i + 1 = p.2 := by omega
          rw [e, Nat.mod_self, rat 0 pp.pos]
          have := pp.back
          rw [← e] at this
          show some p.1 = _
          rw [← hze]
          exact congrArg some this.symm
      have mi : (((i : Nat) : Int) + 1) % ((p.2 : Nat) : Int) = (((i + 1) % p.2 : Nat) : Int) := by rw [show ((i : Nat) : Int) + 1 = ((i + 1 : Nat) : Int) by omega]; exact (Int.natCast_emod _ _).symm
      have ex : Builtin.bitXor ((far ps z : Nat) : Int) (((wayL ws (far ps z / 4) : Nat) : Int) + 1) = ((nextE (far ps) (wayL ws) z : Nat) : Int) := by
        rw [Bits.bitXor_pp (by omega) (by omega), show (((wayL ws (far ps z / 4) : Nat) : Int) + 1).toNat = wayL ws (far ps z / 4) + 1 by omega]
        rfl
      refine ⟨_, rfl, _, rfl, D, _, rfl, dg zl, ?_⟩
      refine ⟨_, rfl, _, rfl, _, _, rfl, rfl, _, rfl, u, _, rfl, .inr (SqT.of hu3), _, _, rfl, rfl, ?_⟩
      have pos := pp.pos
      refine ⟨by rw [rl]; show (0 : Int) < ((p.2 : Nat) : Int); omega, ?_⟩
      refine ⟨u, _, _, V.int (nextE (far ps) (wayL ws) z : Nat), rfl, rfl, SqT.of hu3, at_of (j := (i + 1) % p.2) (by rw [rl]; exact mi) (nats_at nx), ?_⟩
      refine ⟨_, rfl, _, rfl, _, rfl, _, _, rfl, rfl, ⟨by decide, by decide⟩, S, _, _, V.int (wayL ws (far ps z / 4) : Nat), rfl, rfl, SqT.of hS3, at_of (j := far ps z / 4) d4 (nats_at (wat _ (by omega))), _, _, rfl, rfl, _, _, rfl, rfl, rfl, _, rfl, ?_⟩
      have eb : (!decide (V.int ((nextE (far ps) (wayL ws) z : Nat) : Int) = V.int (Builtin.bitXor ((far ps z : Nat) : Int) (((wayL ws (far ps z / 4) : Nat) : Int) + 1)))) = false := by
        rw [ex, decide_eq_true rfl]
        rfl
      show if (!decide (V.int ((nextE (far ps) (wayL ws) z : Nat) : Int) = V.int (Builtin.bitXor ((far ps z : Nat) : Int) (((wayL ws (far ps z / 4) : Nat) : Int) + 1)))) = true then _ else _
      rw [eb]
      exact iteF ⟨_, _, _, rfl, sA⟩
    · rintro σ H1 ⟨v3, v4, v5, rfl, s1⟩
      have hu3 := s1 _ _ hu'
      have hD3 := s1 _ _ hD
      refine ⟨_, rfl, u, _, 0, V.int (p.1 : Nat), rfl, rfl, SqT.of hu3, at_of (j := 0) rfl (nats_at (rat 0 pp.pos)), ?_⟩
      refine ⟨_, rfl, u, rfl, ⟨_, SqT.of hu3⟩, fun Dl hDl => ?_⟩
      have sD := Same.new (o := .lst []) hDl
      refine lc_it (walk_tup (K := K) (a := u) (xs := nats (rnd (nextE (far ps) (wayL ws)) p.1 p.2))) (fun j H' => H' Dl = some (.lst (nats (((rnd (nextE (far ps) (wayL ws)) p.1 p.2).take j).map fun x => min x (far ps x)))) ∧ Same H1 H') ⟨upd_same, sD⟩ (fun j H' _ h => SqT.of (h.2 _ _ hu3)) ?_ ?_
      · rintro j x H4 H3 hj ⟨hl, s3⟩ ⟨rfl, hx⟩
        have hx : (nats (rnd (nextE (far ps) (wayL ws)) p.1 p.2))[j]? = some x := hx
        rw [rl] at hj
        have hir : j < (rnd (nextE (far ps) (wayL ws)) p.1 p.2).length := by rw [rnd_len]; exact hj
        rw [List.getElem?_map, List.getElem?_eq_getElem hir] at hx
        cases hx
        generalize hze : (rnd (nextE (far ps) (wayL ws)) p.1 p.2)[j] = z
        have hz : (rnd (nextE (far ps) (wayL ws)) p.1 p.2)[j]? = some z := by rw [List.getElem?_eq_getElem hir, hze]
        have zl : z < 4 * n := rnd_lt I hW pl (List.mem_of_getElem? hz)
        have em : (if ((far ps z : Nat) : Int) < ((z : Nat) : Int) then ((far ps z : Nat) : Int) else ((z : Nat) : Int)) = ((min z (far ps z) : Nat) : Int) := by
          split <;> omega
        refine ⟨rfl, yes ⟨_, rfl, _, rfl, _, rfl, D, V.int (far ps z : Nat), rfl, .inl ⟨_, Sum.inl ((z : Nat) : Int), .inl (s3 _ _ hD3), rfl, (fkv_in (ends_full L zl)).symm⟩, _, _, rfl, _, hl, small1000 ?_, ?_, fun b o eo => ?_⟩⟩
        · rw [List.length_map, List.length_map, List.length_take]
          have hk : p.2 ≤ 4 * n := by
            have := pigeon (4 * n) _ (G.nodup pl p.2 pp.first) fun x hx => rnd_lt I hW pl hx
            rw [rnd_len] at this
            exact this
          omega
        · rw [upd_same, List.take_succ, hz, Option.toList_some, List.map_append, nats_app, em]
          rfl
        · rw [upd_ne (ne_of_none eo hDl)]
          exact s3 _ _ eo
      · rintro H3 ⟨hl, s3⟩
        rw [rl, List.take_of_length_le (by rw [rnd_len]; exact Nat.le_refl _)] at hl
        rw [nats_ints] at hl
        refine ⟨Dl, _, rfl, SqL.of hl, ?_, fun M hM hmin' => ?_⟩
        · rw [List.length_map, List.length_map, rnd_len]
          exact pp.pos
        · have lst := R.least p hp
          have e : M = ((p.1 : Nat) : Int) := by
            obtain ⟨y, hy, rfl⟩ := List.mem_map.mp hM
            obtain ⟨z, hz, rfl⟩ := List.mem_map.mp hy
            have a := hmin' ((min p.1 (far ps p.1) : Nat) : Int) (List.mem_map.mpr ⟨_, List.mem_map.mpr ⟨p.1, self_rnd pp, rfl⟩, rfl⟩)
            have b := lst z hz
            have c := lst p.1 (self_rnd pp)
            omega
          subst e
          have q := k H3 (s1.trans s3)
          have ed : decide (V.int ((p.1 : Nat) : Int) = V.int ((p.1 : Nat) : Int)) = true := decide_eq_true rfl
          rw [← ed] at q
          exact ⟨rfl, q⟩
end
end One
end P_V2

section P_X7
set_option linter.all false
set_option maxRecDepth 100000
set_option maxHeartbeats 8000000
namespace One
open PySem PySem.Spec PyProof.Rows L2
theorem set_ok {H : Hp} {u : Addr} {m : Nat} {ws : List Nat} (h : SetAt H u m ws) : ∀ x ∈ nats ws, okW false x = true ∧ TV H x "int" := fun x hx => by
  obtain ⟨z, hz, rfl⟩ := List.mem_map.mp hx
  refine ⟨?_, .int _⟩
  have := h.lt z hz
  show (((decide (0 ≤ ((z : Nat) : Int)) && decide (((z : Nat) : Int) < 3))) || _) = true
  rw [decide_eq_true (by omega : 0 ≤ ((z : Nat) : Int)), decide_eq_true (by omega : ((z : Nat) : Int) < 3)]
  rfl
theorem look_good {C : Addr} {H : Hp} {u : Addr} {m : Nat} {ws : List Nat} {Q : Hp → Prop} {E : XK} (h : SetAt H u m ws) (k : ∀ H', Same H H' → Q H') : LookW C false (.ref u) m H Q E :=
  .inr ⟨u, _, rfl, h.here, (List.length_map _).trans h.len, fun x hx => ⟨_, (set_ok h x hx).2⟩, fun _ H' s => k H' s, fun i x hx hb _ => by
    have := (set_ok h x (List.mem_of_getElem? hx)).1
    rw [hb] at this
    cases this⟩
theorem rq_of {K : PySem.W.Frag} {H : Hp} {xs : List V} {Q : VK} (h : rRepr K xs H Q) : rReprQ K xs H Q := by
  obtain ⟨a, d, e, hd, h1, h2, h3, h4, q⟩ := h
  exact ⟨.ref a, d, e, .inl ⟨hd, h2⟩, h1, h3, h4, q⟩
theorem int_short2 : ∀ i : Int, -1000 ≤ i → i < 1000 → (PyData.shown (.int i)).length ≤ 8 ∧ PyData.showable (.int i) = true := by
  have h : ∀ n : Fin 2000, (PyData.shown (.int (((n : Nat) : Int) - 1000))).length ≤ 8 ∧ PyData.showable (.int (((n : Nat) : Int) - 1000)) = true := by decide +kernel
  intro i h0 h1
  have := h ⟨(i + 1000).toNat, by omega⟩
  rwa [show ((((⟨(i + 1000).toNat, by omega⟩ : Fin 2000) : Nat) : Int)) - 1000 = i by
    show (((i + 1000).toNat : Nat) : Int) - 1000 = i
    omega] at this
theorem rq_int {K : PySem.W.Frag} {H : Hp} {i : Int} {Q : VK} (h0 : -1000 ≤ i) (h1 : i < 1000) (q : Q (.str (PyData.shown (.int i))) H) : rReprQ K [.int i] H Q := by
  obtain ⟨s1, s2⟩ := int_short2 i h0 h1
  exact ⟨.int i, .int i, rfl, .inl ⟨.int i, rfl⟩, s2, Nat.zero_le _, Nat.le_trans s1 (by decide), q⟩
/-! ### sorted(d), whole numbers, any number of them -/
section
variable {X : Cx}
def rSortedDA : List V → Hp → VK → Prop := fun xs H Q => ∃ (a : Addr) (kvs : List (Key × V)) (ks : List Int), xs = [.ref a] ∧ Rd H a (.dK kvs) ∧ kvs.map (·.1) = ks.map Sum.inl ∧
    ∀ (ys : List Int) (p : Addr), ys.Perm ks → ys.Pairwise (· ≤ ·) → H p = none → Q (.ref p) (upd H p (.lst (ys.map V.int)))
theorem cr_sortedDA (hcalm : X.calm = true) : CallR X (.builtin "sorted") rSortedDA := by
  intro pins s σ H xs us Q I r q
  obtain ⟨a, kvs, ks, ex, hd, hks, q⟩ := q
  subst ex
  obtain ⟨u, eu, rx⟩ := vals1 r
  subst eu
  cases rx
  obtain ⟨z, lo, vs, rel, dd⟩ := dk_rd I.hok hd
  obtain ⟨ep, hat⟩ := dd.dictAt
  have hkeys : vs.map (·.1) = ks.map Sum.inl := rel.keys.symm.trans hks
  have hl : vs.length = ks.length := by
    have e := congrArg List.length hkeys
    rw [List.length_map, List.length_map] at e
    exact e
  have hkl : kvs.length = ks.length := by
    have e := congrArg List.length hks
    rw [List.length_map, List.length_map] at e
    exact e
  have h16 : vs.length ≤ sizeLine := by omega
  refine Calls.call_function_entry PyProof.Rows.kind_sorted PyProof.Rows.plain_sorted PyProof.Rows.entry_sorted (PyProof.Rows.args_sorted1 _) ?_
  unfold Builtin.«sorted»
  refine wpAny_bind (m := checkCount "sorted" 1 1 _) (wpAny_pure ?_)
  refine wpAny_bind (PySem.W.kdu_collect (A := X.A.in1) (PySem.W.kdl_dict (knd := mixKind X.prog X.w) (kvs := vs) (ep := ep) lo) (I.ok.hd hcalm) hat h16 fun h' tk acc hk hacc => ?_)
  have hal : acc.toList.length = ks.length := by rw [Array.length_toList, hacc.1, hl]
  have hS : IntsAre acc.toList ks := ints_each hal fun j v e => by
    obtain ⟨k, x, e1, e2⟩ := hacc.2 j v (by rw [← Array.getElem?_toList]; exact e)
    have e3 : (vs.map (·.1))[j]? = some k := by rw [List.getElem?_map, e1]; rfl
    rw [hkeys, List.getElem?_map] at e3
    cases e4 : ks[j]? with
    | none => rw [e4] at e3; cases e3
    | some y =>
      rw [e4] at e3
      have e5 : Sum.inl y = k := Option.some.inj e3
      subst e5
      rcases keyIs_shape (show keyIs (Sum.inl y) v = true from e2) with ⟨i, t, ek, ev⟩ | ⟨z, t, ek, ev⟩
      · cases ek
        exact ⟨y, t, rfl, ev⟩
      · cases ek
  have I1 : Inv X pins σ H { s with heap := h', toks := tk } := I.kept hk
  refine wpAny_bind (wpAny_newList ?_ (by omega))
  have hoL : (h'.push (seqObj "list" acc.toList.toArray 0)).get? h'.objs.size = some (seqObj "list" acc.toList.toArray 0) := Heap.get?_push_size _ rfl
  show wpAny _ _ _ _ _ { s with heap := h'.push (seqObj "list" acc.toList.toArray 0), toks := tk }
  refine wpAny_bind (wpAny_holding (wpAny_call_entry PyProof.Rows.slot_list_sort ⟨_, hoL, rfl⟩ PyProof.Rows.entry_list_sort
    (SrtO.list_sort_ord (s := { s with heap := h'.push (seqObj "list" acc.toList.toArray 0), toks := tk }) SrtO.swo_int hoL (by omega) (fun h2 => SrtO.ints_sortable hS h2) fun out g1 g2 => ⟨_, rfl, ?_⟩) (PyProof.Rows.args_list_sort _)))
  obtain ⟨k1, k2, k3⟩ := SrtO.ints_out hS g1 g2
  obtain ⟨e', he'⟩ := PyProof.Rows.sortedHeap_at (vs := acc.toList) (out := out.toArray) hoL
  have hlen : ((out.map SrtO.iv).map V.int).length ≤ sizeLine := by
    rw [List.length_map, k2.length_eq]
    omega
  refine wpAny_pure ⟨_, rfl, .ref h'.objs.size, upd H h'.objs.size (.lst ((out.map SrtO.iv).map V.int)), I1.laid (t' := tk) (fun b u e => ?_) (Nat.le_refl _)
    (show ObjOk X.prog X.w _ _ _ (.lst ((out.map SrtO.iv).map V.int)) from ⟨hlen, out, e', vals_of_ints k1, he'⟩), rfl, q _ _ k2 k3 (I1.hok.fresh (Nat.le_refl _))⟩
  have hb : b < h'.objs.size := Heap.lt_size e
  rw [PyProof.Rows.sortedHeap_old (Nat.ne_of_lt hb) (by rw [size_push']; exact Nat.lt_succ_of_lt hb)]
  exact Heap.get?_push_of_some _ e
end
end One
end P_X7

section P_V3
set_option linter.all false
set_option maxRecDepth 100000
set_option maxHeartbeats 16000000
namespace One
open PySem PySem.Spec PyProof.Rows L2
abbrev sTo : Stmt := top 46
abbrev nTo : List Str := ["yard", "fars", "setting", "told", "met", "one", "end", "here"]
theorem scTo : FnScope nTo ["yard", "fars", "setting"] (defScope sTo) := ⟨rfl, rfl, rfl, by decide +kernel, rfl, by decide +kernel, by decide +kernel⟩
/-! ### rounds as data: alike, sorted, short -/
theorem ns_alike (xs ys : List Nat) : PySem.W.alike (nsD xs) (nsD ys) = true := by
  have e : ∀ zs : List Nat, (zs.map fun x => PyData.int (x : Nat)) = (zs.map fun x => ((x : Nat) : Int)).map PyData.int := fun zs => by
    rw [List.map_map]
    rfl
  show PySem.W.alikeAll (xs.map fun x => PyData.int (x : Nat)) (ys.map fun x => PyData.int (x : Nat)) = true
  rw [e, e]
  exact PySem.W.alike_ints _ _
theorem rnd_cons {f : Nat → Nat} {s k : Nat} (h : 0 < k) : ∃ r, rnd f s k = s :: r := by
  obtain ⟨j, rfl⟩ : ∃ j, k = j + 1 := ⟨k - 1, by omega⟩
  refine ⟨(List.range j).map fun i => iter f (i + 1) s, ?_⟩
  unfold rnd
  rw [List.range_succ_eq_map, List.map_cons, List.map_map]
  rfl
theorem ns_lt {f : Nat → Nat} {s t k j : Nat} (hk : 0 < k) (hj : 0 < j) (h : s < t) : PySem.W.dataLt (nsD (rnd f t j)) (nsD (rnd f s k)) = false := by
  obtain ⟨r, e1⟩ := rnd_cons (f := f) (s := s) hk
  obtain ⟨q, e2⟩ := rnd_cons (f := f) (s := t) hj
  rw [e1, e2]
  show PySem.W.dataLt (.tuple (.int ((t : Nat) : Int) :: q.map fun x => PyData.int (x : Nat))) (.tuple (.int ((s : Nat) : Int) :: r.map fun x => PyData.int (x : Nat))) = false
  rw [PySem.W.dataLt_tuple, PySem.W.dataLt_cons (by simp [PySem.W.alike])]
  have ne : PyData.eqv (.int ((t : Nat) : Int)) (.int ((s : Nat) : Int)) = false := by
    simp only [PyData.eqv, beq_eq_false_iff_ne]
    omega
  rw [ne, if_neg (by decide), PySem.W.dataLt_int]
  exact decide_eq_false (by omega)
section
variable {F W : Nat → Nat} {n : Nat}
theorem rs_alike (f : Nat → Nat) (rs : List (Nat × Nat)) : PySem.W.AllAlike (rsD f rs) := fun d hd e he => by
  obtain ⟨p, _, rfl⟩ := List.mem_map.mp hd
  obtain ⟨q, _, rfl⟩ := List.mem_map.mp he
  exact ns_alike _ _
theorem rs_sortable {rs : List (Nat × Nat)} (R : Rounds F W n rs) : PySem.W.Sortable (rsD (nextE F W) rs) := .inl fun d hd => by
  obtain ⟨p, hp, rfl⟩ := List.mem_map.mp hd
  obtain ⟨r, e⟩ := rnd_cons (f := nextE F W) (s := p.1) (R.per p hp).2.pos
  exact ⟨_, _, congrArg nsD e⟩
theorem rs_pw {rs : List (Nat × Nat)} (R : Rounds F W n rs) : (rsD (nextE F W) rs).Pairwise fun d e => PySem.W.dataLt e d = false :=
  List.pairwise_map.mpr (R.up.imp_of_mem fun {p q} hp hq h => ns_lt (R.per p hp).2.pos (R.per q hq).2.pos h)
theorem metL_len (f W : Nat → Nat) : ∀ rs : List (Nat × Nat), (metL f W rs).length = 2 * (rs.map (·.2)).sum
  | [] => rfl
  | p :: rs => by
    show (rnd _ _ _ ++ List.map f _ ++ metL f W rs).length = 2 * (p.2 + (rs.map (·.2)).sum)
    rw [List.length_append, List.length_append, List.length_map, rnd_len, metL_len f W rs]
    omega
theorem rs_sum (I : Inv2 F n) (hW : ∀ c, c < n → W c < 3) {rs : List (Nat × Nat)} (R : Rounds F W n rs) : (rs.map (·.2)).sum ≤ 2 * n ∧ rs.length ≤ (rs.map (·.2)).sum := by
  have nd := metL_nodup I hW R.per R.one
  have := pigeon (4 * n) _ nd (metL_lt I fun q hq x hx => rnd_lt I hW (R.per q hq).1 hx)
  rw [metL_len] at this
  refine ⟨by omega, ?_⟩
  have : ∀ rs : List (Nat × Nat), (∀ p ∈ rs, 0 < p.2) → rs.length ≤ (rs.map (·.2)).sum := by
    intro rs
    induction rs with
    | nil => intro _; exact Nat.le_refl 0
    | cons p rs ih =>
      intro h
      have a := h p (List.mem_cons_self ..)
      have b := ih fun q hq => h q (List.mem_cons_of_mem _ hq)
      show rs.length + 1 ≤ p.2 + (rs.map (·.2)).sum
      omega
  exact this rs fun p hp => (R.per p hp).2.pos
theorem rs_all {f : Nat → Nat} : ∀ rs : List (Nat × Nat), (∀ p ∈ rs, ∀ x ∈ rnd f p.1 p.2, x < 1000) → PyData.showableAll (rsD f rs) = true ∧ PyData.hasDictAll (rsD f rs) = false ∧ PyData.depthAll (rsD f rs) ≤ 1 ∧ PyData.leavesShortAll 8 (rsD f rs) = true ∧ PyData.bulkAll (rsD f rs) = (rs.map (·.2)).sum + rs.length
  | [], _ => ⟨rfl, rfl, Nat.zero_le _, rfl, rfl⟩
  | p :: rs, h => by
    obtain ⟨h1, h2, h3, h4, h5⟩ := rs_all rs fun q m => h q (List.mem_cons_of_mem _ m)
    obtain ⟨g1, g2, g3, g4, g5⟩ := ns_all (rnd f p.1 p.2) (h p (List.mem_cons_self ..))
    refine ⟨?_, ?_, ?_, ?_, ?_⟩
    · show (PyData.showableAll _ && PyData.showableAll (rsD f rs)) = true
      rw [g1, h1]; rfl
    · show (PyData.hasDictAll _ || PyData.hasDictAll (rsD f rs)) = false
      rw [g2, h2]; rfl
    · show max (nsD _).depth (PyData.depthAll (rsD f rs)) ≤ 1
      rw [nsD_depth]
      exact Nat.max_le.mpr ⟨Nat.le_refl 1, h3⟩
    · show (PyData.leavesShortAll 8 _ && PyData.leavesShortAll 8 (rsD f rs)) = true
      rw [g4, h4]; rfl
    · show PyData.bulkAll _ + 1 + PyData.bulkAll (rsD f rs) = (p.2 + (rs.map (·.2)).sum) + (rs.length + 1)
      rw [g5, h5, rnd_len]
      omega
theorem repr_rs {K : PySem.W.Frag} {H : Hp} {u : Addr} {as : List Addr} {rs : List (Nat × Nat)} {Q : VK} (hu : H u = some (.tup (refs as))) (hA : RsAt (nextE F W) H as rs) (I : Inv2 F n) (hW : ∀ c, c < n → W c < 3) (hn : n ≤ 100) (R : Rounds F W n rs) (q : Q (.str (PyData.tuple (rsD (nextE F W) rs)).shown) H) : rReprQ K [.ref u] H Q := by
  obtain ⟨h1, h2, h3, h4, h5⟩ := rs_all rs fun p hp x hx => by
    have := rnd_lt I hW (R.per p hp).1 hx
    omega
  obtain ⟨s1, s2⟩ := rs_sum I hW R
  refine ⟨.ref u, .tuple (rsD (nextE F W) rs), rfl, .inl ⟨.tup (SqT.of hu) (rsD_dp hA), h2⟩, h1, ?_, ?_, q⟩
  · show PyData.depthAll _ + 1 ≤ 16
    omega
  · have q := PyData.shown_le_bulk 8 (Nat.le_refl _) (.tuple (rsD (nextE F W) rs)) h4
    have e : (PyData.tuple (rsD (nextE F W) rs)).bulk = (rs.map (·.2)).sum + rs.length := h5
    rw [e] at q
    have : (40000 : Nat) ≤ sizeLine := by decide
    omega
end
theorem intsL_shaped (ns : List Int) : SeqAt.shaped (.list (ns.map PyData.int)) = true := by
  show (PyData.canLay0 (.list (ns.map PyData.int)) && decide (PyData.depth (.list (ns.map PyData.int)) ≤ 64)) = true
  rw [Bool.and_eq_true]
  refine ⟨by simp only [PyData.canLay0]; exact ints_lay ns, decide_eq_true ?_⟩
  show PyData.depthAll _ + 1 ≤ 64
  rw [PySem.W.depth_ints]
  decide
theorem inV_nats (b : Nat) : ∀ xs : List Nat, inV (.int ((b : Nat) : Int)) (nats xs) = decide (b ∈ xs)
  | [] => by simp [inV, nats]
  | x :: xs => by
    show (eqV (.int ((x : Nat) : Int)) (.int ((b : Nat) : Int)) || inV (.int ((b : Nat) : Int)) (nats xs)) = _
    rw [inV_nats b xs]
    by_cases h : x = b
    · subst h
      have e : eqV (.int ((x : Nat) : Int)) (.int ((x : Nat) : Int)) = true := by simp [eqV]
      rw [e]
      simp
    · have e : eqV (.int ((x : Nat) : Int)) (.int ((b : Nat) : Int)) = false := by
        simp only [eqV, beq_eq_false_iff_ne, decide_eq_false_iff_not]
        omega
      rw [e]
      have : ¬ b = x := fun z => h z.symm
      simp [this]
def spTo : Sp := fun vs H Q _ => ∃ (y D S : Addr) (m : Nat) (ps : List (Nat × Nat)) (ws : List Nat), vs = [.ref y, .ref D, .ref S] ∧ YAt H y m ps ∧ m ≤ 40 ∧ H D = some (.dK (fkv (far ps) (ends ps))) ∧ SetAt H S m ws ∧ ∀ H', Same H H' → Q (.bl true) H'
section
variable {P : Program} {w : World} {K : PySem.W.Frag} {mg : Str → Option Value} {base : Heap} {CS CE : Addr}
theorem ok_to {f fO fA fM fE fR fP : Addr} {fd dO dA dM dE dR dP : FuncData} (F : Fun K "_law_told_right" "_law_told_right" sTo f fd) (T : TB mg) (cO : Cal K mg "rounds_of" fO dO ["yard", "setting"]) (gO : FnOk P w K mg base (L2.CX P w) 8 fO dO ["yard", "setting"] (spRO CS))
    (cA : Cal K mg "round_at" fA dA ["yard", "setting", "end"]) (gA : FnOk P w K mg base (L2.CX P w) 8 fA dA ["yard", "setting", "end"] (spRA CS CE)) (cM : Cal K mg "many_rounds" fM dM ["yard", "setting"]) (gM : FnOk P w K mg base (L2.CX P w) 9 fM dM ["yard", "setting"] (spMR CS))
    (cE : Cal K mg "_law_are_ends" fE dE ["fars", "told"]) (gE : FnOk P w K mg base CX0 1 fE dE ["fars", "told"] spAE) (cR : Cal K mg "_law_goes_round" fR dR ["fars", "setting", "one"]) (gR : FnOk P w K mg base CX0 1 fR dR ["fars", "setting", "one"] spGR)
    (cP : Cal K mg "_law_parts" fP dP ["fars", "setting"]) (gP : FnOk P w K mg base CX0 1 fP dP ["fars", "setting"] spLP) : FnG P w K mg base CX0 10 f fd ["yard", "fars", "setting"] spTo := by
  refine okG0 F scTo (fun vs H Q E h => ?_) (fun cdv A outer s H vs Q E hgd hr h => ?_)
  · obtain ⟨y, D, S, m, ps, ws, rfl, _⟩ := h
    rfl
  · obtain ⟨y, D, S, m, ps, ws, rfl, hY, h40, hD, hS, k⟩ := h
    have nd := scTo.nd
    have hu : (A.deeper (envOfC "_law_told_right" (defScope sTo) s.heap.objs.size f cdv)).units + 64 < cLine := hr.units
    have hu65 : (A.deeper (envOfC "_law_told_right" (defScope sTo) s.heap.objs.size f cdv)).units + 65 < cLine := by
      have := hr.un
      omega
    have hu1 := hu_of hr
    have rm : ∀ {j : Nat}, j ≤ 9 → Room j (A.deeper (envOfC "_law_told_right" (defScope sTo) s.heap.objs.size f cdv)) := fun h => hr.mono h
    have rp : ∀ {X' : Cx}, X'.A = A.deeper (envOfC "_law_told_right" (defScope sTo) s.heap.objs.size f cdv) → CallR X' (.builtin "repr") (rReprQ X'.K) := fun e => cr_reprQ (by rw [e]; exact hgd) (by rw [e]; exact hu)
    refine ⟨_, pss_cons (ps_set (i := 3) nd rfl (Or.inl rfl) (pe_call gO (rm (by decide)) rfl cO.g cO.kp cO.b .nil passL (pa_cons (pv 0) (pa_cons (pv 2) pa_nil))))
      (pss_cons (ps_if (PW.pt (pw_or (pt_not (pt_val (pe_call gE (rm (by decide)) rfl cE.g cE.kp cE.b .nil pass0 (pa_cons (pv 1) (pa_cons (pv 3) pa_nil))))) (pw_or1 (pt_cmpR (op_neD (by exact hu)) (pe_callTy call_list_of (by rfl) T.list (by decide +kernel) (pa_cons (pv 3) pa_nil) (by decide)) (pe_callB (cr_sortedT1 (by exact hu)) (by rfl) T.sorted boot_sorted (pa_cons (pv 3) pa_nil)) (nomark _))))) (pss_one (ps_ret pe_bl)) pss_nil)
      (C8.pss_cut (ps_set (i := 4) nd rfl (Or.inl rfl) (pe_lst pa_nil))
      (pss_cons (ps_for PassesOwn.never rfl (pi_tup (pv 3)) (pg_name (i := 5) nd rfl (Or.inl rfl))
        (pss_cons (ps_if (pt_not (pt_val (pe_call gR (rm (by decide)) rfl cR.g cR.kp cR.b .nil pass0 (pa_cons (pv 1) (pa_cons (pv 2) (pa_cons (pv 5) pa_nil)))))) (pss_one (ps_ret pe_bl)) pss_nil)
      (pss_one (ps_set (i := 4) nd rfl (Or.inl rfl) (pe_op op_catS (pe_op op_catS (pv 4) (pe_callTy call_list_of (by rfl) T.list (by decide +kernel) (pa_cons (pv 5) pa_nil) (by decide))) (pe_lc (own := [("end", 6)]) (g := (gName 6)) (tt := tYes) (te := (tDGet (tVar 1) (tVar 6))) rfl nd (pi_tup (pv 5)) (blkOk_by (N := nTo) (sc := defScope sTo) (by decide +kernel)) (fun _ _ _ _ _ => pg_name (i := 6) nd rfl (Or.inl rfl)) (fun _ _ _ _ _ => pts_nil) (fun _ _ _ _ _ => by exact (pe_dget hu1 (pv 1) (pv 6) (fun _ _ => rfl)))))))))
      (pss_cons (ps_if (PW.pt (pw_or (pt_cmpR (op_neD (by exact hu)) (pe_callB cr_sortedI (by rfl) T.sorted boot_sorted (pa_cons (pv 4) pa_nil)) (pe_callB (cr_sortedDA rfl) (by rfl) T.sorted boot_sorted (pa_cons (pv 1) pa_nil)) (nomark _)) (pw_or1 (pt_cmpR op_ne (pe_callB call_len_seq (by rfl) T.len PySem.boot_len (pa_cons (pv 3) pa_nil)) (pe_call gP (rm (by decide)) rfl cP.g cP.kp cP.b .nil pass0 (pa_cons (pv 1) (pa_cons (pv 2) pa_nil))) (nomark _))))) (pss_one (ps_ret pe_bl)) pss_nil)
      (pss_cons (ps_lock (ps_for PassesOwn.never rfl (pi_keys (pv 1)) (pg_name (i := 6) nd rfl (Or.inl rfl))
        (pss_cons (ps_set (i := 7) nd rfl (Or.inl rfl) (pe_call gA (rm (by decide)) rfl cA.g cA.kp cA.b .nil passL (pa_cons (pv 0) (pa_cons (pv 2) (pa_cons (pv 6) pa_nil)))))
      (pss_one (ps_if (PW.pt (pw_or (pt_cmpR (op_notInT (by exact hu65)) (pv 7) (pv 3) (by rfl)) (pw_or1 (PW.pt (pw_and (pt_cmpR op_notIn_seq (pv 6) (pv 7) (by rfl)) (pw_and1 (pt_cmpR op_notIn_seq (pe_dget hu1 (pv 1) (pv 6) (fun _ _ => rfl)) (pv 7) (by rfl)))))))) (pss_one (ps_ret pe_bl)) pss_nil)))))
      (pss_one (ps_ret (pe_and (pe_cmpR op_eq (pe_callB (rp rfl) (by rfl) T.repr boot_repr (pa_cons (pe_call gM (rm (by decide)) rfl cM.g cM.kp cM.b .nil passL (pa_cons (pv 0) (pa_cons (pv 2) pa_nil))) pa_nil)) (pe_callB (rp rfl) (by rfl) T.repr boot_repr (pa_cons (pe_callB call_len_seq (by rfl) T.len PySem.boot_len (pa_cons (pv 3) pa_nil)) pa_nil)) (nomark _)) (pe_one (pe_cmpR op_eq (pe_callB (rp rfl) (by rfl) T.repr boot_repr (pa_cons (pe_call gO (rm (by decide)) rfl cO.g cO.kp cO.b .nil passL (pa_cons (pv 0) (pa_cons (pv 2) pa_nil))) pa_nil)) (pe_callB (rp rfl) (by rfl) T.repr boot_repr (pa_cons (pv 3) pa_nil)) (nomark _))))))))))), ?_⟩
    obtain ⟨Y, ya, ht, hP⟩ := id hY
    have L := Y.lines
    have I := far_inv L
    have hW := hS.ways
    refine ⟨_, rfl, _, rfl, y, .ref S, "tuple", m, ps, rfl, hY, h40, .tup hS.here, look_good hS fun H1 s1 => ⟨S, ws, rfl, hS.mono (sameT s1), fun H2 u as rs s2 hu' hA R => ?_⟩⟩
    have s02 := s1.trans s2
    refine ⟨_, rfl, _, rfl, D, u, m, ps, ws, as, rs, rfl, L, by omega, s02 _ _ hD, hW, hu', hA, R, fun H3 s3 => ⟨_, rfl, iteF ?_⟩⟩
    have hu3 := s3 _ _ hu'
    have hA3 := hA.mono (sameT s3)
    refine ⟨_, rfl, u, _, rfl, .inr (SqT.of hu3), fun l1 hl1 => ?_⟩
    have s4 := Same.new (o := .lst (refs as)) hl1
    have h4 := upd_same (H := H3) (a := l1) (o := .lst (refs as))
    generalize upd H3 l1 (.lst (refs as)) = H4 at s4 h4
    refine ⟨_, rfl, u, refs as, rsD (nextE (far ps) (wayL ws)) rs, rfl, s4 _ _ hu3, rsD_dp (hA3.mono (sameT s4)), rs_alike _ _, rs_sortable R, fun d hd => ?_, rs_pw R, fun l2 hl2 => ?_⟩
    · obtain ⟨p, _, rfl⟩ := List.mem_map.mp hd
      rw [nsD_depth]
      decide
    have s5 := Same.new (o := .lst (refs as)) hl2
    have h5 := upd_same (H := H4) (a := l2) (o := .lst (refs as))
    generalize upd H4 l2 (.lst (refs as)) = H5 at s5 h5
    have s35 := s4.trans s5
    have s05 := s02.trans (s3.trans s35)
    have hu5 := s35 _ _ hu3
    have hA5 := hA3.mono (sameT s35)
    refine ⟨.list (rsD (nextE (far ps) (wayL ws)) rs), .list (rsD (nextE (far ps) (wayL ws)) rs), .lst (SqL.of (s5 _ _ h4)) (rsD_dp hA5), .lst (SqL.of h5) (rsD_dp hA5), rsL_shaped _ _, rsL_shaped _ _, _, rfl, ?_⟩
    rw [eqv_refl_list _ (rsD_lay _ _)]
    refine iteF ?_
    have hD5 := s05 _ _ hD
    have hS5 := hS.mono (sameT s05)
    have hY5 := hY.mono (sameT s05)
    clear h5 h4 hu3 hA3 s35 s4 s5 hl1 hl2
    refine ⟨fun σ H' => ∃ Mt : Addr, σ = [some (.ref y), some (.ref D), some (.ref S), some (.ref u), some (.ref Mt), none, none, none] ∧ Same H5 H' ∧ H' Mt = some (.lst []), ?_, ?_⟩
    · exact ⟨Nat.zero_le _, fun Mt hMt => ⟨Mt, rfl, Same.new hMt, upd_same⟩⟩
    · rintro σ H6 ⟨Mt, rfl, s6, hMt⟩
      have la : (refs as).length = rs.length := (List.length_map _).trans hA5.len
      have sm := rs_sum I hW R
      have mlen : ∀ i, (metL (far ps) (wayL ws) (rs.take i)).length ≤ 4 * m := fun i => by
        have nd' := metL_nodup I hW (rs := rs.take i) (fun p hp => R.per p (List.mem_of_mem_take hp)) (R.one.sublist (List.take_sublist i rs))
        exact pigeon (4 * m) _ nd' (metL_lt I fun q hq x hx => rnd_lt I hW (R.per q (List.mem_of_mem_take hq)).1 hx)
      refine ⟨_, rfl, u, rfl, ⟨_, SqT.of (s6 _ _ hu5)⟩, ?_⟩
      refine for_it (walk_tup (K := K) (a := u) (xs := refs as)) (fun i σ H' => ∃ (Mt : Addr) (v5 v6 v7 : Option V), σ = [some (.ref y), some (.ref D), some (.ref S), some (.ref u), some (.ref Mt), v5, v6, v7] ∧ Same H5 H' ∧ H' Mt = some (.lst (nats (metL (far ps) (wayL ws) (rs.take i)))))
        ⟨Mt, none, none, none, rfl, s6, hMt⟩ (fun i σ H' _ ⟨_, _, _, _, _, s, _⟩ => SqT.of (s _ _ hu5)) ?_ ?_
      · rintro i x σ H8 H7 hi ⟨Mt, v5, v6, v7, rfl, s7, hMt⟩ ⟨rfl, hx⟩
        have hx : (refs as)[i]? = some x := hx
        rw [la] at hi
        obtain ⟨a, ha, rfl⟩ : ∃ a, as[i]? = some a ∧ x = .ref a := by
          rw [List.getElem?_map] at hx
          cases h : as[i]? with
          | none => rw [h] at hx; cases hx
          | some a => rw [h] at hx; exact ⟨a, rfl, (Option.some.inj hx).symm⟩
        obtain ⟨p, hp, hpa⟩ := hA5.get ha
        have hpm := List.mem_of_getElem? hp
        obtain ⟨pl, pp⟩ := R.per p hpm
        have rl : (nats (rnd (nextE (far ps) (wayL ws)) p.1 p.2)).length = p.2 := by rw [List.length_map, rnd_len]
        have pk : p.2 ≤ 4 * m := by
          have := pigeon (4 * m) _ ((next_goes I hW).nodup pl p.2 pp.first) fun x hx => rnd_lt I hW pl hx
          rw [rnd_len] at this
          exact this
        refine ⟨_, rfl, _, rfl, _, rfl, D, S, a, m, ps, ws, p, rs, rfl, L, by omega, s7 _ _ hD5, hS5.mono (sameT s7), s7 _ _ hpa, hpm, R, fun H9 s9 => ⟨_, rfl, iteF ?_⟩⟩
        have s59 := s7.trans s9
        have ha9 := s59 _ _ hpa
        refine ⟨_, rfl, _, rfl, a, _, rfl, .inr (SqT.of ha9), fun k1 hk1 => ?_⟩
        have t1 := Same.new (o := .lst (nats (rnd (nextE (far ps) (wayL ws)) p.1 p.2))) hk1
        have g1 := upd_same (H := H9) (a := k1) (o := .lst (nats (rnd (nextE (far ps) (wayL ws)) p.1 p.2)))
        generalize upd H9 k1 (.lst (nats (rnd (nextE (far ps) (wayL ws)) p.1 p.2))) = HA at t1 g1
        have ml := mlen i
        refine ⟨Mt, k1, _, _, rfl, rfl, SqL.of (t1 _ _ (s9 _ _ hMt)), g1, Nat.le_of_lt (small1000 (by rw [rl, List.length_map]; omega)), fun k2 hk2 => ?_⟩
        have t2 := Same.new (o := .lst (nats (metL (far ps) (wayL ws) (rs.take i)) ++ nats (rnd (nextE (far ps) (wayL ws)) p.1 p.2))) hk2
        have g2 := upd_same (H := HA) (a := k2) (o := .lst (nats (metL (far ps) (wayL ws) (rs.take i)) ++ nats (rnd (nextE (far ps) (wayL ws)) p.1 p.2)))
        generalize upd HA k2 (.lst (nats (metL (far ps) (wayL ws) (rs.take i)) ++ nats (rnd (nextE (far ps) (wayL ws)) p.1 p.2))) = HB at t2 g2
        have t12 := t1.trans t2
        have haB := t12 _ _ ha9
        have hDB := t12 _ _ (s59 _ _ hD5)
        refine ⟨_, rfl, a, rfl, ⟨_, SqT.of haB⟩, fun Dl hDl => ?_⟩
        have sD := Same.new (o := .lst []) hDl
        refine lc_it (walk_tup (K := K) (a := a) (xs := nats (rnd (nextE (far ps) (wayL ws)) p.1 p.2))) (fun j H' => H' Dl = some (.lst (nats (((rnd (nextE (far ps) (wayL ws)) p.1 p.2).take j).map (far ps)))) ∧ Same HB H') ⟨upd_same, sD⟩ (fun j H' _ h => SqT.of (h.2 _ _ haB)) ?_ ?_
        · rintro j x H4 H3 hj ⟨hl, s3⟩ ⟨rfl, hx⟩
          have hx : (nats (rnd (nextE (far ps) (wayL ws)) p.1 p.2))[j]? = some x := hx
          rw [rl] at hj
          have hir : j < (rnd (nextE (far ps) (wayL ws)) p.1 p.2).length := by rw [rnd_len]; exact hj
          rw [List.getElem?_map, List.getElem?_eq_getElem hir] at hx
          cases hx
          generalize hze : (rnd (nextE (far ps) (wayL ws)) p.1 p.2)[j] = z
          have hz : (rnd (nextE (far ps) (wayL ws)) p.1 p.2)[j]? = some z := by rw [List.getElem?_eq_getElem hir, hze]
          have zl : z < 4 * m := rnd_lt I hW pl (List.mem_of_getElem? hz)
          refine ⟨rfl, yes ⟨_, rfl, _, rfl, D, V.int (far ps z : Nat), rfl, .inl ⟨_, Sum.inl ((z : Nat) : Int), .inl (s3 _ _ hDB), rfl, (fkv_in (ends_full L zl)).symm⟩, _, hl, small1000 ?_, ?_, fun b o eo => ?_⟩⟩
          · rw [List.length_map, List.length_map, List.length_take]
            omega
          · rw [upd_same, List.take_succ, hz, Option.toList_some, List.map_append, nats_app]
            rfl
          · rw [upd_ne (ne_of_none eo hDl)]
            exact s3 _ _ eo
        · rintro H3 ⟨hl, s3⟩
          rw [rl, List.take_of_length_le (by rw [rnd_len]; exact Nat.le_refl _)] at hl
          refine ⟨k2, Dl, _, _, rfl, rfl, SqL.of (s3 _ _ g2), hl, Nat.le_of_lt (small1000 (by rw [List.length_append, rl, List.length_map, List.length_map, List.length_map, rnd_len]; omega)), fun k3 hk3 => ?_⟩
          have s57 := s59.trans (t12.trans (s3.trans (Same.new (o := .lst (nats (metL (far ps) (wayL ws) (rs.take i)) ++ nats (rnd (nextE (far ps) (wayL ws)) p.1 p.2) ++ nats ((rnd (nextE (far ps) (wayL ws)) p.1 p.2).map (far ps)))) hk3)))
          refine ⟨k3, _, _, _, rfl, s57, ?_⟩
          rw [upd_same, List.take_succ, hp, Option.toList_some, metL_snoc, nats_app, nats_app]
      · rintro σ H7 ⟨Mt, v5, v6, v7, rfl, s7, hMt⟩
        rw [la, List.take_of_length_le (Nat.le_refl _)] at hMt
        rw [nats_ints] at hMt
        have hD7 := s7 _ _ hD5
        refine ⟨_, rfl, Mt, _, rfl, SqL.of hMt, fun ns1 q1 pm1 up1 hq1 => ?_⟩
        have t1 := Same.new (o := .lst (ns1.map V.int)) hq1
        have g1 := upd_same (H := H7) (a := q1) (o := .lst (ns1.map V.int))
        generalize upd H7 q1 (.lst (ns1.map V.int)) = H8 at t1 g1
        refine ⟨_, rfl, D, fkv (far ps) (ends ps), (ends ps).map fun x => ((x : Nat) : Int), rfl, .inl (t1 _ _ hD7), ?_, fun ns2 q2 pm2 up2 hq2 => ?_⟩
        · show ((ends ps).map _).map _ = _
          rw [List.map_map, List.map_map]
          rfl
        have t2 := Same.new (o := .lst (ns2.map V.int)) hq2
        have g2 := upd_same (H := H8) (a := q2) (o := .lst (ns2.map V.int))
        generalize upd H8 q2 (.lst (ns2.map V.int)) = H9 at t2 g2
        have en : ns1 = ns2 := by
          have pm : ns1.Perm ns2 := pm1.trans (((metL_perm I hW R L.nd fun e => ⟨fun h => L.lt e h, fun h => ends_full L h⟩).map _).trans pm2.symm)
          exact List.Perm.eq_of_pairwise (le := (· ≤ ·)) (fun a b _ _ h1 h2 => Int.le_antisymm h1 h2) up1 up2 pm
        subst en
        refine ⟨.list (ns1.map PyData.int), .list (ns1.map PyData.int), .lst (SqL.of (t2 _ _ g1)) (dp_ints _), .lst (SqL.of g2) (dp_ints _), intsL_shaped _, intsL_shaped _, _, rfl, ?_⟩
        rw [eqv_refl_list _ (ints_lay _)]
        refine iteF ?_
        have s59 := s7.trans (t1.trans t2)
        have hu9 := s59 _ _ hu5
        refine ⟨_, rfl, u, _, rfl, .inr (SqT.of hu9), _, rfl, _, rfl, D, S, m, ps, ws, rs, rfl, L, by omega, s59 _ _ hD5, hS5.mono (sameT s59), R, fun HA sA => ⟨rfl, _, rfl, ?_⟩⟩
        have eb : (!decide (V.int (((refs as).length : Nat) : Int) = V.int ((rs.length : Nat) : Int))) = false := by
          rw [la, decide_eq_true rfl]
          rfl
        show if (!decide (V.int (((refs as).length : Nat) : Int) = V.int ((rs.length : Nat) : Int))) = true then _ else _
        rw [eb]
        refine iteF ?_
        have s5A := s59.trans sA
        have hDA := s5A _ _ hD5
        have huA := s5A _ _ hu5
        refine ⟨D, _, hDA, trivial, fun od => ?_⟩
        have fz : (upd HA D (.frz od (.dK (fkv (far ps) (ends ps))))) D = some (.frz od (.dK (fkv (far ps) (ends ps)))) := upd_same
        have eL : (fkv (far ps) (ends ps)).length = (ends ps).length := List.length_map _
        refine ⟨_, rfl, D, od, rfl, .inl ⟨_, fz, ?_⟩⟩
        refine for_it (walk_keys (kvs := fkv (far ps) (ends ps))) (fun i σ H' => ∃ v6 v7 : Option V, σ = [some (.ref y), some (.ref D), some (.ref S), some (.ref u), some (.ref Mt), v5, v6, v7] ∧ H' D = some (.frz od (.dK (fkv (far ps) (ends ps)))) ∧ ∀ c o, c ≠ D → HA c = some o → H' c = some o)
          ⟨_, _, rfl, fz, fun c o hc e => (upd_ne hc).trans e⟩ (fun i σ H' _ ⟨_, _, _, h, _⟩ => h) ?_ ?_
        · rintro i x σ HC HB hi ⟨v6, v7, rfl, hz, oth⟩ ⟨rfl, kk, vv, hkv, rfl⟩
          rw [eL] at hi
          obtain ⟨b, hb⟩ : ∃ b, (ends ps)[i]? = some b := ⟨_, List.getElem?_eq_getElem hi⟩
          have hkv2 : (fkv (far ps) (ends ps))[i]? = some (Sum.inl ((b : Nat) : Int), V.int (far ps b : Nat)) := by
            show ((ends ps).map _)[i]? = _
            rw [List.getElem?_map, hb]
            rfl
          cases hkv.symm.trans hkv2
          have bl : b < 4 * m := L.lt _ (List.mem_of_getElem? hb)
          have tu : ∀ c xs, HA c = some (.tup xs) → HB c = some (.tup xs) := fun c xs e => oth c _ (fun z => by
            subst z
            cases e.symm.trans hDA) e
          have hSB := (hS5.mono (sameT s5A)).mono tu
          refine ⟨_, rfl, _, rfl, _, rfl, y, .ref S, .int ((b : Nat) : Int), "tuple", "int", m, ps, rfl, (hY5.mono (sameT s5A)).mono tu, h40, .tup hSB.here, .int _, look_good hSB fun HC sC => ⟨S, ws, rfl, hSB.mono (sameT sC), fun hbl => ?_, fun j ej jl HE t st kt sE htt stl per lst mem => ?_⟩⟩
          · exfalso
            have : belowV (.int ((b : Nat) : Int)) ((4 * m : Nat) : Int) = true := by
              show (decide (0 ≤ ((b : Nat) : Int)) && decide (((b : Nat) : Int) < ((4 * m : Nat) : Int))) = true
              rw [decide_eq_true (by omega), decide_eq_true (by omega)]
              rfl
            rw [this] at hbl
            cases hbl
          · have ej : b = j := by
              have := V.int.inj ej
              omega
            subst ej
            have hin : (st, kt) ∈ rs := (R.first I hW stl per).mpr lst
            have sCE := sC.trans sE
            have huE := sCE _ _ (tu _ _ huA)
            have hAE := ((hA5.mono (sameT s5A)).mono tu).mono (sameT sCE)
            refine ⟨_, rfl, _, rfl, nsD (rnd (nextE (far ps) (wayL ws)) st kt), rsD (nextE (far ps) (wayL ws)) rs, dp_nsD htt, .tup (SqT.of huE) (rsD_dp hAE), nsD_shaped _, rsL_shaped _ _, _, rfl, ?_⟩
            have ea : ((rsD (nextE (far ps) (wayL ws)) rs).any fun z => PyData.eqv z (nsD (rnd (nextE (far ps) (wayL ws)) st kt))) = true :=
              List.any_eq_true.mpr ⟨_, List.mem_map.mpr ⟨_, hin, rfl⟩, by rw [nsD_eqv]; exact decide_eq_true rfl⟩
            rw [ea]
            refine iteF ?_
            have fin : ∀ {H' : Hp}, Same HE H' → H' D = some (.frz od (.dK (fkv (far ps) (ends ps)))) ∧ ∀ c o, c ≠ D → HA c = some o → H' c = some o := fun {H'} s => ⟨s _ _ (sCE _ _ hz), fun c o hc e => s _ _ (sCE _ _ (oth c o hc e))⟩
            have fl : (nats (rnd (nextE (far ps) (wayL ws)) st kt)).all flatV = true := List.all_eq_true.mpr fun x hx => by
              obtain ⟨z, _, rfl⟩ := List.mem_map.mp hx
              rfl
            refine ⟨_, rfl, _, rfl, t, _, rfl, .inr (SqT.of htt), rfl, fl, _, rfl, ?_⟩
            show if (!inV (.int ((b : Nat) : Int)) (nats (rnd (nextE (far ps) (wayL ws)) st kt))) = true then _ else _
            rw [inV_nats]
            by_cases hm : b ∈ rnd (nextE (far ps) (wayL ws)) st kt
            · rw [decide_eq_true hm]
              refine iteF ?_
              refine iteF ?_
              obtain ⟨f1, f2⟩ := fin (Same.refl HE)
              exact ⟨_, _, rfl, f1, f2⟩
            · rw [decide_eq_false hm]
              refine iteT ?_
              have hf : far ps b ∈ rnd (nextE (far ps) (wayL ws)) st kt := mem.resolve_left hm
              obtain ⟨f1, f2⟩ := fin (Same.refl HE)
              refine ⟨_, rfl, _, rfl, D, V.int (far ps b : Nat), rfl, .inl ⟨_, Sum.inl ((b : Nat) : Int), .inr ⟨od, f1⟩, rfl, (fkv_in (ends_full L bl)).symm⟩, _, rfl, t, _, rfl, .inr (SqT.of htt), rfl, fl, _, rfl, ?_⟩
              show if (!inV (.int ((far ps b : Nat) : Int)) (nats (rnd (nextE (far ps) (wayL ws)) st kt))) = true then _ else _
              rw [inV_nats, decide_eq_true hf]
              refine iteF ?_
              exact ⟨_, _, rfl, f1, f2⟩
        · rintro σ HB ⟨v6, v7, rfl, hz, oth⟩
          refine ⟨hz, ?_⟩
          have sU : Same HA (upd HB D (.dK (fkv (far ps) (ends ps)))) := fun c o e => by
            by_cases hc : c = D
            · subst hc
              rw [upd_same, ← hDA]
              exact e
            · exact (upd_ne hc).trans (oth c o hc e)
          generalize upd HB D (.dK (fkv (far ps) (ends ps))) = HC at sU
          have s5C := s5A.trans sU
          have hSC := hS5.mono (sameT s5C)
          have hYC := hY5.mono (sameT s5C)
          refine ⟨_, rfl, _, rfl, y, .ref S, "tuple", m, ps, rfl, hYC, h40, .tup hSC.here, look_good hSC fun HD sD => ⟨S, ws, rfl, hSC.mono (sameT sD), fun HE rs2 sE R2 => ?_⟩⟩
          have er := R2.eq I hW R
          subst er
          try unfold tNil
          refine rq_int (by omega) (by omega) ?_
          have s5E := s5C.trans (sD.trans sE)
          have huE := s5E _ _ hu5
          refine ⟨_, rfl, u, _, rfl, .inr (SqT.of huE), ?_⟩
          try unfold tNil
          rw [la]
          refine rq_int (by omega) (by omega) ?_
          refine ⟨rfl, _, rfl, ?_⟩
          refine ite2 (fun _ => ?_) (fun hb => absurd (decide_eq_true rfl) hb)
          have hSE := hS5.mono (sameT s5E)
          refine ⟨_, rfl, _, rfl, y, .ref S, "tuple", m, ps, rfl, hY5.mono (sameT s5E), h40, .tup hSE.here, look_good hSE fun HF sF => ⟨S, ws, rfl, hSE.mono (sameT sF), fun HG u2 as2 rs3 sG hu2 hA2 R3 => ?_⟩⟩
          have er := R3.eq I hW R
          subst er
          try unfold tNil
          refine repr_rs hu2 hA2 I hW (by omega) R ?_
          have s5G := s5E.trans (sF.trans sG)
          refine ⟨_, rfl, ?_⟩
          try unfold tNil
          refine repr_rs (s5G _ _ hu5) (hA5.mono (sameT s5G)) I hW (by omega) R ?_
          have q := k HG (s05.trans s5G)
          have ed : decide (V.str (PyData.tuple (rsD (nextE (far ps) (wayL ws)) rs3)).shown = V.str (PyData.tuple (rsD (nextE (far ps) (wayL ws)) rs3)).shown) = true := decide_eq_true rfl
          rw [← ed] at q
          exact ⟨rfl, q⟩
end
end One
end P_V3

section P_V4
set_option linter.all false
set_option maxRecDepth 100000
set_option maxHeartbeats 16000000
namespace One
open PySem PySem.Spec PyProof.Rows L2
abbrev sLaw : Stmt := top 47
abbrev nLaw : List Str := ["script", "state", "turn", "yard", "fars", "kept", "more", "setting", "shown"]
theorem scLaw : FnScope nLaw ["script"] (defScope sLaw) := ⟨rfl, rfl, rfl, by decide +kernel, rfl, by decide +kernel, by decide +kernel⟩
def spLaw (K : PySem.W.Frag) : Sp := fun vs H Q _ => ∃ (a : Addr) (ns : List Int), vs = [.ref a] ∧ SqL K H a (ns.map V.int) ∧ ns.length ≤ 63 ∧ ∀ H', Q (.bl true) H'
theorem yard_small {n : Nat} {ps : List (Nat × Nat)} (L : Lines n ps) (hn : n ≤ 40) : (∀ p ∈ ps, p.1 < 1000 ∧ p.2 < 1000) ∧ ps.length ≤ 1000 := by
  refine ⟨fun p hp => ?_, ?_⟩
  · have h1 := L.lt _ (mem_ends.mpr ⟨p, hp, .inl rfl⟩)
    have h2 := L.lt _ (mem_ends.mpr ⟨p, hp, .inr rfl⟩)
    omega
  · have := L.len
    omega
section
variable {P : Program} {w : World} {K : PySem.W.Frag} {mg : Str → Option Value} {base : Heap}
theorem ok_law {f fB fY fS fFa fSt fT : Addr} {fd dB dY dS dFa dSt dT : FuncData} (F : Fun K "law" "law" sLaw f fd) (T : TB mg) (cB : Cal K mg "_law_begin" fB dB ["script"]) (gB : FnOk P w K mg base CX0 1 fB dB ["script"] (spBG K))
    (cY : Cal K mg "_law_yard" fY dY ["state", "many"]) (gY : FnOk P w K mg base CX0 4 fY dY ["state", "many"] spYD) (cS : Cal K mg "_law_size" fS dS ["state", "most"]) (gS : FnOk P w K mg base CX0 3 fS dS ["state", "most"] spSZ)
    (cFa : Cal K mg "_law_far" fFa dFa ["yard"]) (gFa : FnOk P w K mg base CX0 1 fFa dFa ["yard"] spFA) (cSt : Cal K mg "_law_setting" fSt dSt ["state", "fars"]) (gSt : FnOk P w K mg base CX0 4 fSt dSt ["state", "fars"] spST)
    (cT : Cal K mg "_law_told_right" fT dT ["yard", "fars", "setting"]) (gT : FnG P w K mg base CX0 10 fT dT ["yard", "fars", "setting"] spTo) :
    FnG P w K mg base CX0 11 f fd ["script"] (spLaw K) := by
  refine okG0 F scLaw (fun vs H Q E h => ?_) (fun cdv A outer s H vs Q E hgd hr h => ?_)
  · obtain ⟨a, ns, rfl, _⟩ := h
    rfl
  · obtain ⟨a, ns, rfl, hS, hl, k⟩ := h
    have nd := scLaw.nd
    have hu : (A.deeper (envOfC "law" (defScope sLaw) s.heap.objs.size f cdv)).units + 64 < cLine := hr.units
    have rm : ∀ {j : Nat}, j ≤ 10 → Room j (A.deeper (envOfC "law" (defScope sLaw) s.heap.objs.size f cdv)) := fun h => hr.mono h
    have rp : ∀ {X' : Cx}, X'.A = A.deeper (envOfC "law" (defScope sLaw) s.heap.objs.size f cdv) → CallR X' (.builtin "repr") (rRepr X'.K) := fun e => cr_repr (by rw [e]; exact hgd) (by rw [e]; exact hu)
    refine ⟨_, pss_cons (ps_set (i := 1) nd rfl (Or.inl rfl) (pe_call gB (rm (by decide)) rfl cB.g cB.kp cB.b .nil pass0 (pa_cons (pv 0) pa_nil)))
      (pss_cons (ps_for PassesOwn.never rfl (pi_range1 (by rfl) T.range (pa_cons pe_int pa_nil)) (pg_name (i := 2) nd rfl (Or.inl rfl))
        (pss_cons (ps_set (i := 3) nd rfl (Or.inl rfl) (pe_call gY (rm (by decide)) rfl cY.g cY.kp cY.b .nil pass0 (pa_cons (pv 1) (pa_cons (pe_call gS (rm (by decide)) rfl cS.g cS.kp cS.b .nil pass0 (pa_cons (pv 1) (pa_cons pe_int pa_nil))) pa_nil))))
      (pss_cons (ps_par (i := 4) (j := 5) (by rfl) nd rfl rfl (by decide) rfl rfl (pa_cons (pe_call gFa (rm (by decide)) rfl cFa.g cFa.kp cFa.b .nil pass0 (pa_cons (pv 3) pa_nil)) (pa_cons (pe_callB (rp rfl) (by rfl) T.repr boot_repr (pa_cons (pv 3) pa_nil)) pa_nil)) (by rfl))
      (pss_one (ps_for PassesOwn.never rfl (pi_range1 (by rfl) T.range (pa_cons pe_int pa_nil)) (pg_name (i := 6) nd rfl (Or.inl rfl))
        (pss_cons (ps_set (i := 7) nd rfl (Or.inl rfl) (pe_call gSt (rm (by decide)) rfl cSt.g cSt.kp cSt.b .nil pass0 (pa_cons (pv 1) (pa_cons (pv 4) pa_nil))))
      (pss_cons (ps_set (i := 8) nd rfl (Or.inl rfl) (pe_callB (rp rfl) (by rfl) T.repr boot_repr (pa_cons (pv 7) pa_nil)))
      (pss_one (ps_if (PW.pt (pw_or (pt_not (pt_val (pe_callG gT (by exact hgd) (rm (by decide)) rfl cT.g cT.kp cT.b .nil pass0 (pa_cons (pv 3) (pa_cons (pv 4) (pa_cons (pv 7) pa_nil)))))) (pw_or (pt_cmpR op_ne (pe_callB (rp rfl) (by rfl) T.repr boot_repr (pa_cons (pv 7) pa_nil)) (pv 8) (nomark _)) (pw_or1 (pt_cmpR op_ne (pe_callB (rp rfl) (by rfl) T.repr boot_repr (pa_cons (pv 3) pa_nil)) (pv 5) (nomark _)))))) (pss_one (ps_ret pe_bl)) pss_nil)))))))))
      (pss_one (ps_ret pe_bl))), ?_⟩
    have same_ne : ∀ x : Str, (!decide (V.str x = V.str x)) = false := fun x => by rw [decide_eq_true rfl]; rfl
    refine ⟨_, rfl, a, ns, rfl, hS, hl, fun H0 p c l s0 hp hc' hl' M0 => ?_⟩
    refine ⟨3, rfl, by decide, by decide, ?_⟩
    refine for_range (lo := 0) (n := (3 : Int).toNat) (fun i σ H' => ∃ v2 v3 v4 v5 v6 v7 v8 : Option V, σ = [some (.ref a), some (.ref p), v2, v3, v4, v5, v6, v7, v8] ∧ ML H' p c l (1000 * i)) ⟨none, none, none, none, none, none, none, rfl, M0⟩ ?_ ?_
    · rintro i σ H1 hi ⟨v2, v3, v4, v5, v6, v7, v8, rfl, M1⟩
      have hi : i < 3 := hi
      refine ⟨_, rfl, _, rfl, p, c, l, _, 40, rfl, M1, by omega, by decide, by decide, fun H2 m M2 e2 m0 m40 => ?_⟩
      refine ⟨p, c, l, _, m, rfl, M2, by omega, m0, m40, fun H3 y ps M3 e3 hY => ?_⟩
      obtain ⟨Y, as, ht, hP⟩ := id hY
      obtain ⟨y1, y2⟩ := yard_small Y.lines m40
      refine ⟨_, rfl, y, m, as, ps, rfl, ht, hP, Y.lines, by omega, fun H4 D s4 hDn hD => ?_⟩
      refine ⟨_, rfl, ?_⟩
      unfold tNil
      refine repr_yd (s4 _ _ ht) (hP.mono (sameT s4)) y1 y2 ?_
      refine ⟨_, _, rfl, ?_⟩
      have M4 := M3.keep s4
      obtain ⟨np, nl⟩ := M3.apart hDn
      have hY4 := hY.mono (sameT s4)
      refine ⟨2, rfl, by decide, by decide, ?_⟩
      refine for_range (lo := 0) (n := (2 : Int).toNat) (fun j σ H' => ∃ v6 v7 v8 : Option V, σ = [some (.ref a), some (.ref p), some (.int (0 + ((i : Nat) : Int))), some (.ref y), some (.ref D), some (.str (yd ps).shown), v6, v7, v8] ∧ ML H' p c l (1000 * i + 600 + 130 * j) ∧ ExtL p l H4 H') ⟨_, _, _, rfl, M4.lt (by omega) (by omega), ExtL.refl p l H4⟩ ?_ ?_
      · rintro j σ H5 hj ⟨v6, v7, v8, rfl, M5, e5⟩
        have hj : j < 2 := hj
        have tu5 := tupL M4 e5
        have hD5 := e5 _ _ np nl hD
        refine ⟨_, rfl, _, rfl, p, c, l, D, _, m, ps, rfl, M5, by omega, Y.lines, m0, m40, np, hD5, fun H6 u ws M6 e6 hSt => ?_⟩
        have hY6 : YAt H6 y m ps := (hY4.mono tu5).mono (tupL M5 e6)
        have hD6 := e6 _ _ np nl hD5
        have wsm : ∀ x ∈ ws, x < 1000 := fun x hx => by
          have := hSt.lt x hx
          omega
        have wl : ws.length ≤ 1000 := by rw [hSt.len]; omega
        refine ⟨_, rfl, ?_⟩
        try unfold tNil
        refine repr_ns hSt.here wsm wl ?_
        refine ⟨_, rfl, _, rfl, _, rfl, y, D, u, m, ps, ws, rfl, hY6, m40, hD6, hSt, fun H7 s7 => ⟨_, rfl, ?_⟩⟩
        refine iteF ?_
        refine ⟨_, rfl, ?_⟩
        try unfold tNil
        refine repr_ns (s7 _ _ hSt.here) wsm wl ?_
        refine ⟨_, rfl, rfl, _, rfl, ?_⟩
        rw [same_ne]
        refine iteF ⟨_, rfl, ?_⟩
        obtain ⟨_, as5, ht5, hP5⟩ := id hY6
        try unfold tNil
        refine repr_yd (s7 _ _ ht5) (hP5.mono (sameT s7)) y1 y2 ?_
        refine ⟨_, rfl, rfl, _, rfl, ?_⟩
        rw [same_ne]
        refine iteF ?_
        exact ⟨_, _, _, rfl, (M6.keep s7).lt (by omega) (by omega), e5.trans (e6.trans (ExtL.same s7))⟩
      · rintro σ H5 ⟨v6, v7, v8, rfl, M5, e5⟩
        have M5 : ML H5 p c l (1000 * i + 860) := M5
        exact ⟨_, _, _, _, _, _, _, rfl, M5.lt (by omega) (by omega)⟩
    · rintro σ H1 ⟨v2, v3, v4, v5, v6, v7, v8, rfl, M1⟩
      exact k _
end
end One
end P_V4

section P_H10
set_option linter.all false
set_option maxRecDepth 100000
set_option maxHeartbeats 8000000
namespace One
open PySem PySem.W PySem.Calls PyProof.Rows PySem.HandSPX L2
/-- a class's __init__, its first statement -/
def initOf : Stmt → Stmt
  | .ClassDef (body := b) .. => b.getD 0 (.Pass ⟨0, 0, 0, 0⟩)
  | s => s
theorem shape0 : Shape (initOf (top 2)) "place" := ⟨_, _, _, _, _, _, _, _, _, _, _, _, _, _, _, _, rfl, rfl, rfl, by decide +kernel, fun _ => rfl⟩
theorem shape1 : Shape (initOf (top 4)) "place" := ⟨_, _, _, _, _, _, _, _, _, _, _, _, _, _, _, _, rfl, rfl, rfl, by decide +kernel, fun _ => rfl⟩
theorem shape2 : Shape (initOf (top 3)) "place" := ⟨_, _, _, _, _, _, _, _, _, _, _, _, _, _, _, _, rfl, rfl, rfl, by decide +kernel, fun _ => rfl⟩
/-- a def of the top -/
structure DefAt (K : Frag) (x : Str) (st : Stmt) (f : Addr) (fd : FuncData) : Prop where
  ns : nsIn K mainGlobals x = some (some (.ref f))
  fn : L2.Fun K x x st f fd
theorem def_at {K : Frag} {x : Str} {st : Stmt} {f : Addr} {oc kV dc pm cd ct : Value} {od an : Option Addr} {sl : Array (Option Value)} (a : nsIn K mainGlobals x = some (some (.ref f))) (l : K.lookup f = some ⟨oc, od, .func (fnOf x x (defArgs st) (defBody st) (defScope st) .none kV dc pm an cd ct), sl⟩)
    (c : codeIn K cd x = true) (k : keepIn K (.ref f) = true) : DefAt K x st f (fnOf x x (defArgs st) (defBody st) (defScope st) .none kV dc pm an cd ct) := ⟨a, fun_mk l c k⟩
theorem DefAt.cal {K : Frag} {x : Str} {st : Stmt} {f : Addr} {fd : FuncData} {h : Heap} {mg : Str → Option Value} {ps : List Str} (D : DefAt K x st f fd) (X : K.In h) (G : h.Ns mainGlobals mg)
    (hb : ∀ (kV doc pm : Value) (an : Option Addr) (cdv ct : Value) (us : List Value), us.length = ps.length → bindArgs (fnOf x x (defArgs st) (defBody st) (defScope st) .none kV doc pm an cdv ct) ⟨us, []⟩ = pure (ps.zip us)) : Cal K mg x f fd ps := ⟨mg_of X G D.ns, D.fn.kp, D.fn.binds hb⟩
/-- an own exception class: what the top has written of it -/
structure ClsAt (P : Program) (K : Frag) (x : Str) (st : Stmt) (fld : Str) (C fI : Addr) : Prop where
  ns : nsIn K mainGlobals x = some (some (.ref C))
  own : OwnTxt P K st fld C fI
  iC : findIn K (.ref C) "__init__" = some (some (.ref fI))
  tC : typeIn K (.ref fI) = some (.type "function")
  kC : keepIn K (.ref C) = true
  exC : subIn K (.ref C) (.type "BaseException") = some true
  tyC : typeIn K (.ref C) = some (.type "type")
theorem al_of {K : Frag} {nm q : Str} {RE N : Addr} {bs : List Value} {sn : List Str} {sub : List Value} {ab : Bool} {col : Option Bool} {dd : Option Addr} {m0 m1 m2 m3 m5 : Option Value} {r : Option (Option Value)} {hdct : Bool}
    (xR : K.lookup RE = some (excClassObj nm q RE N bs [.type "ValueError", .type "Exception", .type "BaseException", .type "object"] hdct sn sub ab col dd m0 m1 m2 m3 m5 "ValueError.__new__")) (fR : findIn K (.ref RE) "__init__" = r) : alongIn K "__init__" [.ref RE, .type "ValueError", .type "Exception", .type "BaseException", .type "object"] = r := by
  unfold findIn at fR
  dsimp only at fR
  rw [xR] at fR
  exact fR
theorem cls_at {P : Program} {K : Frag} {x : Str} {st : Stmt} {fld nm q : Str} {C fI N RE cda cc : Addr} {bs : List Value} {sn : List Str} {sub : List Value} {ab : Bool} {col : Option Bool} {dd od an cdd cld : Option Addr} {m0 m1 m2 m3 m5 : Option Value} {oc doc pm ct ccl cl : Value} {osl ccs csl : Array (Option Value)} {vs : Array Value} {file qual : Str} {tf : Tok}
    (ns : nsIn K mainGlobals x = some (some (.ref C))) (xL : K.lookup C = some (excClassObj nm q C N bs [.ref RE, .type "ValueError", .type "Exception", .type "BaseException", .type "object"] true sn sub ab col dd m0 m1 m2 m3 m5 "ValueError.__new__"))
    (al : alongIn K "__init__" [.ref RE, .type "ValueError", .type "Exception", .type "BaseException", .type "object"] = some (some (.builtin "ValueError.__init__"))) (sa : findIn K (.ref C) "__setattr__" = some (some (.builtin "object.__setattr__"))) (noF : findIn K (.ref C) fld = some none)
    (veB : subIn K (.ref C) (.type "ValueError") = some true) (slf : mroIn K C (.ref C) = some true) (op : nsIn K cStatics "thirdparty.any" = some none) (tp : (P.main.scope.names.lookup ("super" : Str)).isSome = false) (sh : Shape st fld)
    (iC : findIn K (.ref C) "__init__" = some (some (.ref fI))) (l1 : K.lookup fI = some ⟨oc, od, .func (ksFn "__init__" qual (defArgs st) (defBody st) (defScope st) .none .none doc pm an (.ref cda) ct cc), osl⟩) (c1 : codeIn K (.ref cda) qual = true)
    (lc : K.lookup cda = some ⟨ccl, cdd, .fields vs, ccs⟩) (hvs : vs[2]? = some (.str file tf)) (hfile : ((P.main.file : Str) == file) = true) (lcc : K.lookup cc = some ⟨cl, cld, .cell (some (.ref C)), csl⟩)
    (tC : typeIn K (.ref fI) = some (.type "function")) (kC : keepIn K (.ref C) = true) (exC : subIn K (.ref C) (.type "BaseException") = some true) (tyC : typeIn K (.ref C) = some (.type "type")) : ClsAt P K x st fld C fI :=
  ⟨ns, ⟨⟨_, _, _, _, _, _, _, _, _, _, _, _, _, _, _, xL, rfl, by rw [PySem.ESX.drop_own]; exact al⟩, sa, noF, veB, slf, op, tp, sh, ⟨_, _, _, _, _, _, _, _, _, _, _, _, _, _, _, _, _, _, _, l1, c1, lc, hvs, hfile, lcc⟩⟩, iC, tC, kC, exC, tyC⟩
theorem ClsAt.cls {P : Program} {K : Frag} {x : Str} {st : Stmt} {fld : Str} {C fI : Addr} {h : Heap} {mg : Str → Option Value} (D : ClsAt P K x st fld C fI) (X : K.In h) (G : h.Ns mainGlobals mg) : OwnCls K mg x C fI := ⟨mg_of X G D.ns, D.iC, D.tC, D.kC, D.exC, D.tyC⟩
end One
end P_H10

section P_G3
set_option linter.all false
set_option maxRecDepth 100000
set_option maxHeartbeats 4000000
namespace One
open PySem PySem.Spec PyProof.Rows L2
/-- the one call of a law that has lambdas: cs, its code objects with their tables -/
theorem law_goesT {P : Program} {w : World} {K : PySem.W.Frag} {mg mb : Str → Option Value} {CX : CXT} {k : Nat} {fa a : Addr} {cs : List (Addr × Addr)} {fd : FuncData} {x : Str} {sp : Sp} {s : Shared} {vs : List Value} {ns : List Int} (inK : K.In s.heap) (nsm : s.heap.Ns mainGlobals mg)
    (nsb : s.heap.Ns builtinsNs mb) (boot : ∀ y : Str, y ≠ "__name__" → mb y = bootBuiltins y) (nolim : s.heap.NoLimit) (nogen : s.gens = #[]) (tab : ∀ p ∈ cs, s.heap.get? p.2 = some { cls := .none, data := .fields #[] }) (ntab : ∀ p ∈ cs, K.lookup p.2 = none) (heads : ∀ p ∈ cs, PySem.W.CodeHd s.heap p.1 p.2)
    (blt : ∃ (bm : Addr) (ob : Obj), mg "__builtins__" = some (.ref bm) ∧ bm ≠ builtinsNs ∧ s.heap.get? bm = some ob ∧ ob.cls = .type "module" ∧ ob.dict = some builtinsNs ∧ ob.data = .plain) (ha : s.heap.get? a = some { cls := .type "list", data := .seq vs.toArray }) (hi : IntsAre vs ns) (hl : ns.length ≤ sizeLine)
    (hr : Room k callerA) (F : ∀ base : Heap, K.In base → base.Ns mainGlobals mg → (∀ p ∈ cs, LamX.TabB base mg p.1 p.2) → FnG P w K mg base CX k fa fd [x] sp) (bind : ∀ (s : Shared) (u : Value), BindsTo s fd ⟨[u], []⟩ [(x, u)])
    (hsp : ∀ H : Hp, (∀ p ∈ cs, H p.2 = some (.tbl #[])) → SqL K H a (ns.map V.int) → sp [.ref a] H (fun v _ => v = .bl true) fun _ _ _ => False) (none_out : ∀ H e s', CX [] H s (fun _ _ _ => False) e s' → False) :
    codeAny (model P w) callerA (.call (.ref fa) ⟨[.ref a], []⟩) (fun r s' => r = .ok (.ret (.bool true)) ∧ OldK s.heap s'.heap ∧ s'.os = s.os ∧ AllBare s'.gens) s := by
  have rv := vals_ints hi
  have hlen := hi.length
  have isT : ∀ {b : Addr}, b ∈ cs.map (·.2) → s.heap.get? b = some { cls := .none, data := .fields #[] } := fun {b} hb => by
    obtain ⟨p, hp, e⟩ := List.mem_map.mp hb
    exact e ▸ tab p hp
  have toT : ∀ {p}, p ∈ cs → p.2 ∈ cs.map (·.2) := fun {p} hp => List.mem_map.mpr ⟨p, hp, rfl⟩
  have aT : a ∉ cs.map (·.2) := fun z => Data.noConfusion (show Data.seq vs.toArray _ = Data.fields #[] from congrArg Obj.data (Option.some.inj (ha.symm.trans (isT z))))
  have main : ∀ H : Hp, (∀ b ∈ cs.map (·.2), H b = some (.tbl #[])) → (∀ b u, H b = some u → (b ∈ cs.map (·.2) ∧ u = .tbl #[]) ∨ (b = a ∧ K.lookup a = none ∧ u = .frz { cls := .type "list", data := .seq vs.toArray } (.lst (ns.map V.int)))) → SqL K H a (ns.map V.int) →
      codeAny (model P w) callerA (.call (.ref fa) ⟨[.ref a], []⟩) (fun r s' => r = .ok (.ret (.bool true)) ∧ OldK s.heap s'.heap ∧ s'.os = s.os ∧ AllBare s'.gens) s := by
    intro H hT inv hS
    have ok : HOk P w H s.heap := fun b u e => by
      rcases inv b u e with ⟨hb, rfl⟩ | ⟨rfl, _, rfl⟩
      · exact isT hb
      · exact ⟨ha, by rw [List.length_map]; exact hl, vs, _, rv, ha⟩
    have put : ∀ {b : Addr} {o : Obj}, s.heap.get? b = some o → H b = none → (hidT s.heap H).get? b = some o := fun e n => hidT_get e n
    have free : ∀ {b : Addr} {o : Obj}, s.heap.get? b = some o → (∀ us n, o.data ≠ .seq us n) → o.data ≠ .fields #[] → H b = none := fun {b o} e h1 h2 => by
      match q : H b with
      | none => rfl
      | some u =>
        rcases inv b u q with ⟨hb, _⟩ | ⟨rfl, _, _⟩
        · cases (isT hb).symm.trans e
          exact (h2 rfl).elim
        · cases ha.symm.trans e
          exact (h1 _ _ rfl).elim
    have nsH : ∀ {b : Addr} {m : Str → Option Value}, s.heap.Ns b m → (hidT s.heap H).Ns b m := fun ⟨o, es, ep, e, d, r⟩ => ⟨o, es, ep, put e (free e (fun us n z => by cases d.symm.trans z) (fun z => by cases d.symm.trans z)), d, r⟩
    have inH : K.In (hidT s.heap H) := fun b o e => put (inK b o e) (by
      match q : H b with
      | none => rfl
      | some u =>
        rcases inv b u q with ⟨hb, _⟩ | ⟨rfl, z, _⟩
        · obtain ⟨p, hp, rfl⟩ := List.mem_map.mp hb
          cases (ntab p hp).symm.trans e
        · cases z.symm.trans e)
    obtain ⟨mc, n1, n2⟩ := nolim
    have tabB : ∀ p ∈ cs, LamX.TabB (hidT s.heap H) mg p.1 p.2 := fun p hp => by
      have hTp := tab p hp
      obtain ⟨og, es, ep, eg, dg, _⟩ := nsm
      refine ⟨?_, ?_, fun z => ?_⟩
      · obtain ⟨o, us, file, tf, flags, tg, inF, text, tt, e1, r1, r2, r3, rest⟩ := heads p hp
        refine ⟨o, us, file, tf, flags, tg, inF, text, tt, put e1 (free e1 (fun vs n z => by cases r2.symm.trans z) (fun z => ?_)), r1, r2, r3, rest⟩
        have z' : us = #[] := Data.fields.inj (r2.symm.trans z)
        rw [z'] at r3
        simp at r3
      · obtain ⟨bm, ob, b1, b2, b3, b4, b5, b6⟩ := blt
        refine ⟨bm, ob, b1, b2, fun q => ?_, fun q => ?_, put b3 (free b3 (fun vs n z => by cases b6.symm.trans z) (fun z => by cases b6.symm.trans z)), b4, b5, b6⟩
        · cases (q ▸ b3 : s.heap.get? mainGlobals = some ob).symm.trans eg
          cases b6.symm.trans dg
        · cases (q ▸ b3 : s.heap.get? p.2 = some ob).symm.trans hTp
          cases b6
      · cases (z ▸ hTp : s.heap.get? mainGlobals = _).symm.trans eg
        cases dg
    have env : Env0 P w K mg (hidT s.heap H) callerA [] s H := ⟨rfl, ⟨inH, nsH nsm, ⟨mb, nsH nsb, boot⟩, ⟨mc, nsH n1, n2⟩⟩, fun b o e => of_hidT e, Nat.le_of_eq (hidT_size _ _), trivial, fun b hb => absurd (show b ∈ ([] : List Addr) from hb) List.not_mem_nil, ok, .of_eq nogen⟩
    refine codeAny_mono ((F _ inH (nsH nsm) tabB).go callerA [] s H ⟨[.ref a], []⟩ [.ref a] [.ref a] _ _ rfl hr env (bind s (.ref a)) (.cons rfl .nil) (hsp H (fun p hp => hT _ (toT hp)) hS)) fun r s' h => ?_
    match r, h with
    | .error e, h => exact (none_out H e s' h).elim
    | .ok .next, h => exact h.elim
    | .ok .brk, h => exact h.elim
    | .ok .cont, h => exact h.elim
    | .ok (.ret u), ⟨v, H', os, bare, un, ok', rel, q⟩ =>
      cases (show v = .bl true from q)
      cases (show u = Value.bool true from rel)
      have key : ∀ b o, b ∉ cs.map (·.2) → s.heap.get? b = some o → s'.heap.get? b = some o := fun b o nb e => by
        match q : H b with
        | none => exact un.keep b o e q (fun z => absurd (show b ∈ ([] : List Addr) from z) List.not_mem_nil) (fun z => absurd z List.not_mem_nil)
        | some u =>
          rcases inv b u q with ⟨hb, _⟩ | ⟨rfl, _, rfl⟩
          · exact absurd hb nb
          · obtain ⟨e2, _⟩ := ok' b _ (un.frzs b _ _ q)
            cases ha.symm.trans e
            exact e2
      have more : ∀ p ∈ cs, ∃ m : Array Value, s'.heap.get? p.2 = some { cls := .none, data := .fields m } := fun p hp => let ⟨m, z⟩ := un.tbls p.2 #[] (hT _ (toT hp)); ⟨_, ok' p.2 _ z⟩
      refine ⟨rfl, ⟨fun b o e => ?_, fun b o e => ?_⟩, os, bare⟩
      · rcases Classical.em (b ∈ cs.map (·.2)) with hb | hb
        · obtain ⟨p, hp, rfl⟩ := List.mem_map.mp hb
          obtain ⟨m, hm⟩ := more p hp
          cases (tab p hp).symm.trans e
          exact .inr (.inl ⟨((heads p hp).tab (tab p hp)).isCodeTable, rfl, #[], m, rfl, by rw [Array.empty_append]; exact hm⟩)
        · exact .inl (key b o hb e)
      · rcases Classical.em (b ∈ cs.map (·.2)) with hb | hb
        · obtain ⟨p, hp, rfl⟩ := List.mem_map.mp hb
          obtain ⟨m, hm⟩ := more p hp
          exact ⟨_, hm⟩
        · exact ⟨o, key b o hb e⟩
  match hk : K.lookup a with
  | some o =>
    cases ha.symm.trans (inK a o hk)
    refine main (fun b => if b ∈ cs.map (·.2) then some (.tbl #[]) else none) (fun b hb => if_pos hb) (fun b u z => ?_) (.inr ⟨_, vs.toArray, _, hk, rfl, rfl, rfl, by rw [List.size_toArray, hlen]; exact hl, by simpa using rv⟩)
    rcases Classical.em (b ∈ cs.map (·.2)) with hb | hb
    · exact .inl ⟨hb, (Option.some.inj ((if_pos hb).symm.trans z)).symm⟩
    · cases (if_neg hb).symm.trans z
  | none =>
    refine main (fun b => if b ∈ cs.map (·.2) then some (.tbl #[]) else if b = a then some (.frz { cls := .type "list", data := .seq vs.toArray } (.lst (ns.map V.int))) else none) (fun b hb => if_pos hb) (fun b u z => ?_) (.inl (.inr ⟨{ cls := .type "list", data := .seq vs.toArray }, (if_neg aT).trans (if_pos rfl)⟩))
    rcases Classical.em (b ∈ cs.map (·.2)) with hb | hb
    · exact .inl ⟨hb, (Option.some.inj ((if_pos hb).symm.trans z)).symm⟩
    · have z1 := (if_neg hb).symm.trans z
      rcases Classical.em (b = a) with e | e
      · exact .inr ⟨e, hk, (Option.some.inj ((if_pos e).symm.trans z1)).symm⟩
      · cases (if_neg e).symm.trans z1
/-- what is known of the law's promise behind its top -/
def LawG (l : PySem.W.OpenLaw) (w : World) (K : PySem.W.Frag) (CX : CXT) (k n : Nat) (x : Str) (mg : Str → Option Value) (fa : Addr) (h : Heap) : Prop :=
  ∃ (fd : FuncData) (cs : List (Addr × Addr)) (sp : Sp), (∀ y ∈ cs, h.get? y.2 = some { cls := .none, data := .fields #[] }) ∧ (∀ y ∈ cs, K.lookup y.2 = none) ∧ (∀ y ∈ cs, PySem.W.CodeHd h y.1 y.2) ∧ (∀ (s : Shared) (u : Value), BindsTo s fd ⟨[u], []⟩ [(x, u)]) ∧
    (∀ (H : Hp) (a : Addr) (ns : List Int), ns.length ≤ n → (∀ z ∈ ns, Builtin.Int.intBits z ≤ 1048576) → (∀ y ∈ cs, H y.2 = some (.tbl #[])) → SqL K H a (ns.map V.int) → sp [.ref a] H (fun v _ => v = .bl true) fun _ _ _ => False) ∧
    (∀ base : Heap, K.In base → base.Ns mainGlobals mg → (∀ p ∈ cs, LamX.TabB base mg p.1 p.2) → FnG l.prog w K mg base CX k fa fd [x] sp)
theorem walkGT {l : PySem.W.OpenLaw} {n k : Nat} {q : Program} {loose : List Str} {XP : (Str → Option Value) → Heap → Prop} {YP : World → Heap → Prop} {d : DefRec} {K : Params → PySem.W.Frag} {CX : World → CXT} {x : Str} (hn : l.most = some n) (small : n ≤ sizeLine) (nodef : d.params.defaults = []) (hr : Room k callerA)
    (inY : ∀ (w : World) (h : Heap), YP w h → (K w.params).In h) (F : ∀ (w : World) (mg : Str → Option Value) (fa : Addr) (h : Heap), YP w h → (K w.params).In h → h.Ns mainGlobals mg → mg d.name = some (.ref fa) → LawG l w (K w.params) (CX w) k n x mg fa h)
    (none_out : ∀ (w : World) (H : Hp) (s : Shared) (e : Value) (s' : Shared), CX w [] H s (fun _ _ _ => False) e s' → False) : PySem.W.WalkO q loose XP YP l.row.toRowW d [] (fun f vs => PySem.call f vs) := by
  refine Att.attach_callB hn nodef fun w s0 s1 mg mb fa o pm cd doc a vs ns G Y ho hd hcd hmg hobj hints hlen hbits hg => ?_
  obtain ⟨fd, cs, sp, hT, nT, C, hb, hsp, hF⟩ := F w mg fa _ Y (inY w _ Y) G.T.g hmg
  exact law_goesT (inY w _ Y) G.T.g G.T.b G.T.builtins G.T.nolimit hg hT nT C G.T.bmain hobj hints (Nat.le_trans hlen small) hr hF hb (fun H hH hS => hsp H a ns hlen hbits hH hS) fun H e s' => none_out w H s1 e s'
end One
end P_G3

section P_H13
set_option linter.all false
set_option maxRecDepth 100000
set_option maxHeartbeats 8000000
namespace One
open PySem PySem.W PySem.Calls PyProof.Rows PySem.HandSPX L2
theorem tab_mkX {K : Frag} {x : Str} {f c Pt : Addr} {oc oc2 : Value} {od od2 : Option Addr} {fd : FuncData} {sl sl2 : Array (Option Value)} {vs : Array Value} (a : nsIn K mainGlobals x = some (some (.ref f))) (l : K.lookup f = some ⟨oc, od, .func fd, sl⟩) (hc : fd.code = .ref c)
    (lc : K.lookup c = some ⟨oc2, od2, .fields vs, sl2⟩) (hv : (vs[11]? : Option Value) = some (.ref Pt)) : tabIn K x = some (c, Pt) := by
  unfold tabIn
  rw [a]
  simp only [l, hc, lc, hv]
theorem walkGX {l : OpenLaw} {n k : Nat} {q : Program} {loose : List Str} {XP : (Str → Option Value) → Heap → Prop} {YP : World → Heap → Prop} {d : DefRec} {K : Params → Frag} {CX : World → CXT} {x : Str} (hn : l.most = some n) (small : n ≤ sizeLine) (nodef : d.params.defaults = []) (hr : Room k callerA)
    (inY : ∀ (w : World) (h : Heap), YP w h → (K w.params).In h)
    (F : ∀ (w : World) (mg : Str → Option Value) (fa : Addr) (h : Heap), YP w h → (K w.params).In h → h.Ns mainGlobals mg → mg d.name = some (.ref fa) →
      (∀ {x : Str} {dL : DefRec}, (recsOf q).find? (fun e => e.name == x) = some dL → ∀ {c P : Addr}, tabIn (K w.params) x = some (c, P) → CodeHd h c P ∧ h.get? P = some { cls := .none, data := .fields #[] }) → LawG l w (K w.params) (CX w) k n x mg fa h)
    (none_out : ∀ (w : World) (H : Hp) (s : Shared) (e : Value) (s' : Shared), CX w [] H s (fun _ _ _ => False) e s' → False) : WalkO q loose XP YP l.row.toRowW d [] (fun f vs => PySem.call f vs) := by
  refine Att.attach_callB hn nodef fun w s0 s1 mg mb fa o pm cd doc a vs ns G Y ho hd hcd hmg hobj hints hlen hbits hg => ?_
  have X := inY w _ Y
  obtain ⟨fd, cs, sp, hT, nT, C, hb, hsp, hF⟩ := F w mg fa _ Y X G.T.g hmg (@fun _ _ hrec _ _ ht => tab_of G.T X hrec ht)
  exact law_goesT X G.T.g G.T.b G.T.builtins G.T.nolimit hg hT nT C G.T.bmain hobj hints (Nat.le_trans hlen small) hr hF hb (fun H hH hS => hsp H a ns hlen hbits hH hS) fun H e s' => none_out w H s1 e s'
end One
end P_H13

section P_H11
set_option linter.all false
set_option maxRecDepth 100000
set_option maxHeartbeats 16000000
namespace One
open PySem PySem.W PySem.Calls PyProof.Rows PySem.HandSPX L2
theorem all_mk {l : OpenLaw} {w : World} {K : Frag} {h : Heap} {mg : Str → Option Value} {fa C0 i0 C1 i1 C2 i2 : Addr} {f_law c_law : Addr} {t0 t1 t2 : Tok} {f_is_number f_is_below f_reached f_need_yard f_yard_fault f_can_be_many_lines f_is_line f_is_whole f_crossings_beside f_crossings f_fars_of_lines f_mate f_need_setting f_ways_fault f_rounds_of f_rounds_by_fars f_round_from f_end_after f_many_rounds f_round_at f_law_mixed f_law_begin f_law_draw f_law_order f_law_across f_law_yard f_law_size f_law_far f_law_outer f_law_setting f_law_parts f_law_are_ends f_law_goes_round f_law_told_right : Addr} {e_is_number e_is_below e_reached e_need_yard e_yard_fault e_can_be_many_lines e_is_line e_is_whole e_crossings_beside e_crossings e_fars_of_lines e_mate e_need_setting e_ways_fault e_rounds_of e_rounds_by_fars e_round_from e_end_after e_many_rounds e_round_at e_law_mixed e_law_begin e_law_draw e_law_order e_law_across e_law_yard e_law_size e_law_far e_law_outer e_law_setting e_law_parts e_law_are_ends e_law_goes_round e_law_told_right : FuncData} {oc kV doc pm ct : Value} {od an : Option Addr} {sl : Array (Option Value)}
    (X : K.In h) (G : h.Ns mainGlobals mg) (hfa : mg "law" = some (.ref fa))
    (z_len : nsIn K mainGlobals "len" = some none)
    (z_range : nsIn K mainGlobals "range" = some none)
    (z_tuple : nsIn K mainGlobals "tuple" = some none)
    (z_list : nsIn K mainGlobals "list" = some none)
    (z_sorted : nsIn K mainGlobals "sorted" = some none)
    (z_enumerate : nsIn K mainGlobals "enumerate" = some none)
    (z_isinstance : nsIn K mainGlobals "isinstance" = some none)
    (z_int : nsIn K mainGlobals "int" = some none)
    (z_bool : nsIn K mainGlobals "bool" = some none)
    (z_repr : nsIn K mainGlobals "repr" = some none)
    (z_all : nsIn K mainGlobals "all" = some none)
    (z_super : nsIn K mainGlobals "super" = some none)
    (z_min : nsIn K mainGlobals "min" = some none)
    (z_max : nsIn K mainGlobals "max" = some none)
    (z_dict : nsIn K mainGlobals "dict" = some none)
    (z_set : nsIn K mainGlobals "set" = some none)
    (k_MOST_CROSSINGS : nsIn K mainGlobals "MOST_CROSSINGS" = some (some (.int 40 t0)))
    (k_PLACES : nsIn K mainGlobals "PLACES" = some (some (.int 4 t1)))
    (k_MANY_WAYS : nsIn K mainGlobals "MANY_WAYS" = some (some (.int 3 t2)))
    (d_is_number : DefAt K "is_number" (top 6) f_is_number e_is_number)
    (d_is_below : DefAt K "is_below" (top 7) f_is_below e_is_below)
    (d_reached : DefAt K "reached" (top 9) f_reached e_reached)
    (d_need_yard : DefAt K "need_yard" (top 14) f_need_yard e_need_yard)
    (d_yard_fault : DefAt K "yard_fault" (top 15) f_yard_fault e_yard_fault)
    (d_can_be_many_lines : DefAt K "can_be_many_lines" (top 16) f_can_be_many_lines e_can_be_many_lines)
    (d_is_line : DefAt K "is_line" (top 17) f_is_line e_is_line)
    (d_is_whole : DefAt K "is_whole" (top 18) f_is_whole e_is_whole)
    (d_crossings_beside : DefAt K "crossings_beside" (top 19) f_crossings_beside e_crossings_beside)
    (d_crossings : DefAt K "crossings" (top 20) f_crossings e_crossings)
    (d_fars_of_lines : DefAt K "fars_of_lines" (top 21) f_fars_of_lines e_fars_of_lines)
    (d_mate : DefAt K "mate" (top 22) f_mate e_mate)
    (d_need_setting : DefAt K "need_setting" (top 24) f_need_setting e_need_setting)
    (d_ways_fault : DefAt K "ways_fault" (top 25) f_ways_fault e_ways_fault)
    (d_rounds_of : DefAt K "rounds_of" (top 26) f_rounds_of e_rounds_of)
    (d_rounds_by_fars : DefAt K "rounds_by_fars" (top 27) f_rounds_by_fars e_rounds_by_fars)
    (d_round_from : DefAt K "round_from" (top 28) f_round_from e_round_from)
    (d_end_after : DefAt K "end_after" (top 29) f_end_after e_end_after)
    (d_many_rounds : DefAt K "many_rounds" (top 30) f_many_rounds e_many_rounds)
    (d_round_at : DefAt K "round_at" (top 31) f_round_at e_round_at)
    (d_law_mixed : DefAt K "_law_mixed" (top 33) f_law_mixed e_law_mixed)
    (d_law_begin : DefAt K "_law_begin" (top 34) f_law_begin e_law_begin)
    (d_law_draw : DefAt K "_law_draw" (top 35) f_law_draw e_law_draw)
    (d_law_order : DefAt K "_law_order" (top 36) f_law_order e_law_order)
    (d_law_across : DefAt K "_law_across" (top 37) f_law_across e_law_across)
    (d_law_yard : DefAt K "_law_yard" (top 38) f_law_yard e_law_yard)
    (d_law_size : DefAt K "_law_size" (top 39) f_law_size e_law_size)
    (d_law_far : DefAt K "_law_far" (top 40) f_law_far e_law_far)
    (d_law_outer : DefAt K "_law_outer" (top 41) f_law_outer e_law_outer)
    (d_law_setting : DefAt K "_law_setting" (top 42) f_law_setting e_law_setting)
    (d_law_parts : DefAt K "_law_parts" (top 43) f_law_parts e_law_parts)
    (d_law_are_ends : DefAt K "_law_are_ends" (top 44) f_law_are_ends e_law_are_ends)
    (d_law_goes_round : DefAt K "_law_goes_round" (top 45) f_law_goes_round e_law_goes_round)
    (d_law_told_right : DefAt K "_law_told_right" (top 46) f_law_told_right e_law_told_right)
    (k0 : ClsAt l.prog K "BadYard" (initOf (top 2)) "place" C0 i0) (k1 : ClsAt l.prog K "BadSetting" (initOf (top 4)) "place" C1 i1) (k2 : ClsAt l.prog K "BadEnd" (initOf (top 3)) "place" C2 i2)
   
    (lawNs : nsIn K mainGlobals "law" = some (some (.ref f_law))) (lawLk : K.lookup f_law = some ⟨oc, od, .func (fnOf "law" "law" (defArgs sLaw) (defBody sLaw) (defScope sLaw) .none kV doc pm an (.ref c_law) ct), sl⟩) (lawCd : codeIn K (.ref c_law) "law" = true) (lawKp : keepIn K (.ref f_law) = true)
 : LawG l w K CX0 11 63 "script" mg fa h := by
  have e := hfa.symm.trans (mg_of X G lawNs)
  cases e
  refine ⟨fnOf "law" "law" (defArgs sLaw) (defBody sLaw) (defScope sLaw) .none kV doc pm an (.ref c_law) ct, [], spLaw K , (fun p hp => absurd hp List.not_mem_nil), (fun p hp => absurd hp List.not_mem_nil), (fun p hp => absurd hp List.not_mem_nil), fun s u => .of_eq rfl, fun H a ns hl _ hT hS => ⟨a, ns, rfl, hS, hl, fun _ => rfl⟩, fun base inB nsB tB => ?_⟩
  have no : ∀ {x : Str}, nsIn K mainGlobals x = some none → mg x = none := fun z => mg_none_of X G z
  have T : TB mg := ⟨no z_len, no z_range, no z_tuple, no z_list, no z_sorted, no z_enumerate, no z_isinstance, no z_int, no z_bool, no z_repr, no z_all⟩
  have TCo : TC mg := ⟨⟨_, mg_of X G k_MOST_CROSSINGS⟩, ⟨_, mg_of X G k_PLACES⟩⟩
  have noS : mg "super" = none := no z_super
  have c_is_number := d_is_number.cal (ps := ["thing"]) X G fun _ _ _ _ _ _ us hl => match us, hl with | [_], _ => rfl
  have c_is_below := d_is_below.cal (ps := ["thing", "many"]) X G fun _ _ _ _ _ _ us hl => match us, hl with | [_, _], _ => rfl
  have c_reached := d_reached.cal (ps := ["beside", "start"]) X G fun _ _ _ _ _ _ us hl => match us, hl with | [_, _], _ => rfl
  have c_need_yard := d_need_yard.cal (ps := ["thing"]) X G fun _ _ _ _ _ _ us hl => match us, hl with | [_], _ => rfl
  have c_yard_fault := d_yard_fault.cal (ps := ["thing"]) X G fun _ _ _ _ _ _ us hl => match us, hl with | [_], _ => rfl
  have c_can_be_many_lines := d_can_be_many_lines.cal (ps := ["many"]) X G fun _ _ _ _ _ _ us hl => match us, hl with | [_], _ => rfl
  have c_is_line := d_is_line.cal (ps := ["thing", "many_ends"]) X G fun _ _ _ _ _ _ us hl => match us, hl with | [_, _], _ => rfl
  have c_is_whole := d_is_whole.cal (ps := ["lines"]) X G fun _ _ _ _ _ _ us hl => match us, hl with | [_], _ => rfl
  have c_crossings_beside := d_crossings_beside.cal (ps := ["lines", "many"]) X G fun _ _ _ _ _ _ us hl => match us, hl with | [_, _], _ => rfl
  have c_crossings := d_crossings.cal (ps := ["yard"]) X G fun _ _ _ _ _ _ us hl => match us, hl with | [_], _ => rfl
  have c_fars_of_lines := d_fars_of_lines.cal (ps := ["lines"]) X G fun _ _ _ _ _ _ us hl => match us, hl with | [_], _ => rfl
  have c_mate := d_mate.cal (ps := ["end", "way"]) X G fun _ _ _ _ _ _ us hl => match us, hl with | [_, _], _ => rfl
  have c_need_setting := d_need_setting.cal (ps := ["yard", "thing"]) X G fun _ _ _ _ _ _ us hl => match us, hl with | [_, _], _ => rfl
  have c_ways_fault := d_ways_fault.cal (ps := ["thing", "many", "is_draft"]) X G fun _ _ _ _ _ _ us hl => match us, hl with | [_, _, _], _ => rfl
  have c_rounds_of := d_rounds_of.cal (ps := ["yard", "setting"]) X G fun _ _ _ _ _ _ us hl => match us, hl with | [_, _], _ => rfl
  have c_rounds_by_fars := d_rounds_by_fars.cal (ps := ["fars", "setting"]) X G fun _ _ _ _ _ _ us hl => match us, hl with | [_, _], _ => rfl
  have c_round_from := d_round_from.cal (ps := ["fars", "setting", "start"]) X G fun _ _ _ _ _ _ us hl => match us, hl with | [_, _, _], _ => rfl
  have c_end_after := d_end_after.cal (ps := ["fars", "setting", "end"]) X G fun _ _ _ _ _ _ us hl => match us, hl with | [_, _, _], _ => rfl
  have c_many_rounds := d_many_rounds.cal (ps := ["yard", "setting"]) X G fun _ _ _ _ _ _ us hl => match us, hl with | [_, _], _ => rfl
  have c_round_at := d_round_at.cal (ps := ["yard", "setting", "end"]) X G fun _ _ _ _ _ _ us hl => match us, hl with | [_, _, _], _ => rfl
  have c_law_mixed := d_law_mixed.cal (ps := ["cell", "k"]) X G fun _ _ _ _ _ _ us hl => match us, hl with | [_, _], _ => rfl
  have c_law_begin := d_law_begin.cal (ps := ["script"]) X G fun _ _ _ _ _ _ us hl => match us, hl with | [_], _ => rfl
  have c_law_draw := d_law_draw.cal (ps := ["state", "many"]) X G fun _ _ _ _ _ _ us hl => match us, hl with | [_, _], _ => rfl
  have c_law_order := d_law_order.cal (ps := ["state", "size"]) X G fun _ _ _ _ _ _ us hl => match us, hl with | [_, _], _ => rfl
  have c_law_across := d_law_across.cal (ps := ["lines", "many", "one", "other"]) X G fun _ _ _ _ _ _ us hl => match us, hl with | [_, _, _, _], _ => rfl
  have c_law_yard := d_law_yard.cal (ps := ["state", "many"]) X G fun _ _ _ _ _ _ us hl => match us, hl with | [_, _], _ => rfl
  have c_law_size := d_law_size.cal (ps := ["state", "most"]) X G fun _ _ _ _ _ _ us hl => match us, hl with | [_, _], _ => rfl
  have c_law_far := d_law_far.cal (ps := ["yard"]) X G fun _ _ _ _ _ _ us hl => match us, hl with | [_], _ => rfl
  have c_law_outer := d_law_outer.cal (ps := ["fars", "setting", "crossing"]) X G fun _ _ _ _ _ _ us hl => match us, hl with | [_, _, _], _ => rfl
  have c_law_setting := d_law_setting.cal (ps := ["state", "fars"]) X G fun _ _ _ _ _ _ us hl => match us, hl with | [_, _], _ => rfl
  have c_law_parts := d_law_parts.cal (ps := ["fars", "setting"]) X G fun _ _ _ _ _ _ us hl => match us, hl with | [_, _], _ => rfl
  have c_law_are_ends := d_law_are_ends.cal (ps := ["fars", "told"]) X G fun _ _ _ _ _ _ us hl => match us, hl with | [_, _], _ => rfl
  have c_law_goes_round := d_law_goes_round.cal (ps := ["fars", "setting", "one"]) X G fun _ _ _ _ _ _ us hl => match us, hl with | [_, _, _], _ => rfl
  have c_law_told_right := d_law_told_right.cal (ps := ["yard", "fars", "setting"]) X G fun _ _ _ _ _ _ us hl => match us, hl with | [_, _, _], _ => rfl
  have G_is_number := ok_isnum (P := l.prog) (w := w) (base := base) d_is_number.fn T
  have G_is_below := ok_isbelow d_is_below.fn c_is_number G_is_number
  have G_can := ok_canbe (P := l.prog) (w := w) (base := base) d_can_be_many_lines.fn T TCo
  have G_is_line := ok_isline d_is_line.fn T c_is_below G_is_below
  have G_reached := ok_reached (P := l.prog) (w := w) (base := base) d_reached.fn T
  have G_beside := ok_besideX (P := l.prog) (w := w) (base := base) d_crossings_beside.fn T TCo
  have G_whole := ok_iswhole d_is_whole.fn T c_reached G_reached c_crossings_beside G_beside
  have G_fault := ok_fault d_yard_fault.fn T c_can_be_many_lines G_can c_is_line G_is_line c_is_whole G_whole
  have G_need := ok_need d_need_yard.fn k0.own (k0.cls X G) noS c_yard_fault G_fault
  have G_cross := ok_cross d_crossings.fn T c_need_yard G_need
  have G_fars := ok_fars (P := l.prog) (w := w) (base := base) d_fars_of_lines.fn T
  have G_mate := ok_mate (P := l.prog) (w := w) (mg := mg) (base := base) d_mate.fn
  have G_ea := ok_ea d_end_after.fn TCo c_mate G_mate
  have G_rf := ok_rf d_round_from.fn T c_end_after G_ea
  have G_rb := ok_rb d_rounds_by_fars.fn T c_round_from G_rf
  have G_ways := ok_ways d_ways_fault.fn T ⟨_, mg_of X G k_MANY_WAYS⟩ c_is_below G_is_below
  have G_ns := ok_ns d_need_setting.fn k1.own (k1.cls X G) noS c_ways_fault G_ways c_crossings G_cross
  have G_ro := ok_ro d_rounds_of.fn c_need_setting G_ns c_rounds_by_fars G_rb c_fars_of_lines G_fars
  have G_mr := ok_mr d_many_rounds.fn T c_rounds_of G_ro
  have G_ra := ok_ra d_round_at.fn T (no z_min) k2.own (k2.cls X G) noS c_need_setting G_ns c_round_from G_rf c_fars_of_lines G_fars c_is_below G_is_below
  have G_mixed := ok_mixed (P := l.prog) (w := w) (mg := mg) (base := base) d_law_mixed.fn
  have G_begin := ok_begin (P := l.prog) (w := w) (base := base) d_law_begin.fn T
  have G_draw := ok_draw d_law_draw.fn T c_law_mixed G_mixed
  have G_order := ok_order d_law_order.fn T c_law_draw G_draw
  have G_across := ok_across (P := l.prog) (w := w) (base := base) d_law_across.fn T
  have G_yard := ok_yard d_law_yard.fn T (no z_min) (no z_max) c_law_draw G_draw c_law_order G_order c_law_across G_across
  have G_size := ok_size d_law_size.fn (no z_min) c_law_draw G_draw
  have G_far := ok_far (P := l.prog) (w := w) (mg := mg) (base := base) d_law_far.fn
  have G_outer := ok_outer (P := l.prog) (w := w) (mg := mg) (base := base) d_law_outer.fn
  have G_setting := ok_setting d_law_setting.fn T c_law_draw G_draw c_law_order G_order c_law_outer G_outer
  have G_lp := ok_lp (P := l.prog) (w := w) (base := base) d_law_parts.fn T (no z_min) (no z_max) (no z_dict) (no z_set)
  have G_ae := ok_ae (P := l.prog) (w := w) (base := base) d_law_are_ends.fn T
  have G_gr := ok_gr (P := l.prog) (w := w) (base := base) d_law_goes_round.fn T (no z_min)
  have G_to := ok_to d_law_told_right.fn T c_rounds_of G_ro c_round_at G_ra c_many_rounds G_mr c_law_are_ends G_ae c_law_goes_round G_gr c_law_parts G_lp
  exact ok_law (fun_mk lawLk lawCd lawKp) T c_law_begin G_begin c_law_yard G_yard c_law_size G_size c_law_far G_far c_law_setting G_setting c_law_told_right G_to
end One
end P_H11

open PySem PySem.W PyProof.Rows in
set_option maxRecDepth 100000 in
set_option maxHeartbeats 0 in
theorem PySem.Challenge.cw_oneround_k09_rounds_told_holds : PySem.Challenge.rw_oneround_k09_rounds_told.Holds := by
  w_on; o_law; k_head; (case hw => w_witness2)
  k_fill
  refine One.walkGX (l := PySem.Challenge.rw_oneround_k09_rounds_told) (n := 63) (k := 11) (CX := fun _ => L2.CX0) (x := "script") rfl (by decide) rfl ⟨rfl, by decide, by decide⟩ (fun w h Y => PySem.W.kIn_of Y) ?F (fun _ _ _ _ _ z => z)
  case F =>
    intro w mg fa h Y KX G hmg tabs
    refine' One.all_mk KX G hmg  ?z_len ?z_range ?z_tuple ?z_list ?z_sorted ?z_enumerate ?z_isinstance ?z_int ?z_bool ?z_repr ?z_all ?z_super ?z_min ?z_max ?z_dict ?z_set ?k_MOST_CROSSINGS ?k_PLACES ?k_MANY_WAYS ?d_is_number ?d_is_below ?d_reached ?d_need_yard ?d_yard_fault ?d_can_be_many_lines ?d_is_line ?d_is_whole ?d_crossings_beside ?d_crossings ?d_fars_of_lines ?d_mate ?d_need_setting ?d_ways_fault ?d_rounds_of ?d_rounds_by_fars ?d_round_from ?d_end_after ?d_many_rounds ?d_round_at ?d_law_mixed ?d_law_begin ?d_law_draw ?d_law_order ?d_law_across ?d_law_yard ?d_law_size ?d_law_far ?d_law_outer ?d_law_setting ?d_law_parts ?d_law_are_ends ?d_law_goes_round ?d_law_told_right ?k0 ?k1 ?k2 ?lawNs ?lawLk ?lawCd ?lawKp
    (case z_len => k_is)
    (case z_range => k_is)
    (case z_tuple => k_is)
    (case z_list => k_is)
    (case z_sorted => k_is)
    (case z_enumerate => k_is)
    (case z_isinstance => k_is)
    (case z_int => k_is)
    (case z_bool => k_is)
    (case z_repr => k_is)
    (case z_all => k_is)
    (case z_super => k_is)
    (case z_min => k_is)
    (case z_max => k_is)
    (case z_dict => k_is)
    (case z_set => k_is)
    (case k_MOST_CROSSINGS => k_is)
    (case k_PLACES => k_is)
    (case k_MANY_WAYS => k_is)
    (case d_is_number => refine' One.def_at ?a ?l ?c ?k; (case a => k_is); (case l => k_is); (case c => k_is); (case k => k_is))
    (case d_is_below => refine' One.def_at ?a ?l ?c ?k; (case a => k_is); (case l => k_is); (case c => k_is); (case k => k_is))
    (case d_reached => refine' One.def_at ?a ?l ?c ?k; (case a => k_is); (case l => k_is); (case c => k_is); (case k => k_is))
    (case d_need_yard => refine' One.def_at ?a ?l ?c ?k; (case a => k_is); (case l => k_is); (case c => k_is); (case k => k_is))
    (case d_yard_fault => refine' One.def_at ?a ?l ?c ?k; (case a => k_is); (case l => k_is); (case c => k_is); (case k => k_is))
    (case d_can_be_many_lines => refine' One.def_at ?a ?l ?c ?k; (case a => k_is); (case l => k_is); (case c => k_is); (case k => k_is))
    (case d_is_line => refine' One.def_at ?a ?l ?c ?k; (case a => k_is); (case l => k_is); (case c => k_is); (case k => k_is))
    (case d_is_whole => refine' One.def_at ?a ?l ?c ?k; (case a => k_is); (case l => k_is); (case c => k_is); (case k => k_is))
    (case d_crossings_beside => refine' One.def_at ?a ?l ?c ?k; (case a => k_is); (case l => k_is); (case c => k_is); (case k => k_is))
    (case d_crossings => refine' One.def_at ?a ?l ?c ?k; (case a => k_is); (case l => k_is); (case c => k_is); (case k => k_is))
    (case d_fars_of_lines => refine' One.def_at ?a ?l ?c ?k; (case a => k_is); (case l => k_is); (case c => k_is); (case k => k_is))
    (case d_mate => refine' One.def_at ?a ?l ?c ?k; (case a => k_is); (case l => k_is); (case c => k_is); (case k => k_is))
    (case d_need_setting => refine' One.def_at ?a ?l ?c ?k; (case a => k_is); (case l => k_is); (case c => k_is); (case k => k_is))
    (case d_ways_fault => refine' One.def_at ?a ?l ?c ?k; (case a => k_is); (case l => k_is); (case c => k_is); (case k => k_is))
    (case d_rounds_of => refine' One.def_at ?a ?l ?c ?k; (case a => k_is); (case l => k_is); (case c => k_is); (case k => k_is))
    (case d_rounds_by_fars => refine' One.def_at ?a ?l ?c ?k; (case a => k_is); (case l => k_is); (case c => k_is); (case k => k_is))
    (case d_round_from => refine' One.def_at ?a ?l ?c ?k; (case a => k_is); (case l => k_is); (case c => k_is); (case k => k_is))
    (case d_end_after => refine' One.def_at ?a ?l ?c ?k; (case a => k_is); (case l => k_is); (case c => k_is); (case k => k_is))
    (case d_many_rounds => refine' One.def_at ?a ?l ?c ?k; (case a => k_is); (case l => k_is); (case c => k_is); (case k => k_is))
    (case d_round_at => refine' One.def_at ?a ?l ?c ?k; (case a => k_is); (case l => k_is); (case c => k_is); (case k => k_is))
    (case d_law_mixed => refine' One.def_at ?a ?l ?c ?k; (case a => k_is); (case l => k_is); (case c => k_is); (case k => k_is))
    (case d_law_begin => refine' One.def_at ?a ?l ?c ?k; (case a => k_is); (case l => k_is); (case c => k_is); (case k => k_is))
    (case d_law_draw => refine' One.def_at ?a ?l ?c ?k; (case a => k_is); (case l => k_is); (case c => k_is); (case k => k_is))
    (case d_law_order => refine' One.def_at ?a ?l ?c ?k; (case a => k_is); (case l => k_is); (case c => k_is); (case k => k_is))
    (case d_law_across => refine' One.def_at ?a ?l ?c ?k; (case a => k_is); (case l => k_is); (case c => k_is); (case k => k_is))
    (case d_law_yard => refine' One.def_at ?a ?l ?c ?k; (case a => k_is); (case l => k_is); (case c => k_is); (case k => k_is))
    (case d_law_size => refine' One.def_at ?a ?l ?c ?k; (case a => k_is); (case l => k_is); (case c => k_is); (case k => k_is))
    (case d_law_far => refine' One.def_at ?a ?l ?c ?k; (case a => k_is); (case l => k_is); (case c => k_is); (case k => k_is))
    (case d_law_outer => refine' One.def_at ?a ?l ?c ?k; (case a => k_is); (case l => k_is); (case c => k_is); (case k => k_is))
    (case d_law_setting => refine' One.def_at ?a ?l ?c ?k; (case a => k_is); (case l => k_is); (case c => k_is); (case k => k_is))
    (case d_law_parts => refine' One.def_at ?a ?l ?c ?k; (case a => k_is); (case l => k_is); (case c => k_is); (case k => k_is))
    (case d_law_are_ends => refine' One.def_at ?a ?l ?c ?k; (case a => k_is); (case l => k_is); (case c => k_is); (case k => k_is))
    (case d_law_goes_round => refine' One.def_at ?a ?l ?c ?k; (case a => k_is); (case l => k_is); (case c => k_is); (case k => k_is))
    (case d_law_told_right => refine' One.def_at ?a ?l ?c ?k; (case a => k_is); (case l => k_is); (case c => k_is); (case k => k_is))
    (case k0 => refine' One.cls_at ?ns ?xL ?al ?sa ?noF ?veB ?slf ?op ?tp ?sh ?iC ?l1 ?c1 ?lc ?hvs ?hfile ?lcc ?tC ?kC ?exC ?tyC; (case ns => k_is); (case xL => k_is); (case al => refine' One.al_of ?xR ?fR; (case xR => k_is); (case fR => k_is)); (case sa => k_is); (case noF => k_is); (case veB => k_is); (case slf => k_is); (case op => k_is); (case tp => rfl); (case sh => exact One.shape0); (case iC => k_is); (case l1 => k_is); (case c1 => k_is); (case lc => k_is); (case hvs => first | rfl | k_is); (case hfile => first | rfl | decide +kernel | k_is); (case lcc => k_is); (case tC => k_is); (case kC => k_is); (case exC => k_is); (case tyC => k_is))
    (case k1 => refine' One.cls_at ?ns ?xL ?al ?sa ?noF ?veB ?slf ?op ?tp ?sh ?iC ?l1 ?c1 ?lc ?hvs ?hfile ?lcc ?tC ?kC ?exC ?tyC; (case ns => k_is); (case xL => k_is); (case al => refine' One.al_of ?xR ?fR; (case xR => k_is); (case fR => k_is)); (case sa => k_is); (case noF => k_is); (case veB => k_is); (case slf => k_is); (case op => k_is); (case tp => rfl); (case sh => exact One.shape1); (case iC => k_is); (case l1 => k_is); (case c1 => k_is); (case lc => k_is); (case hvs => first | rfl | k_is); (case hfile => first | rfl | decide +kernel | k_is); (case lcc => k_is); (case tC => k_is); (case kC => k_is); (case exC => k_is); (case tyC => k_is))
    (case k2 => refine' One.cls_at ?ns ?xL ?al ?sa ?noF ?veB ?slf ?op ?tp ?sh ?iC ?l1 ?c1 ?lc ?hvs ?hfile ?lcc ?tC ?kC ?exC ?tyC; (case ns => k_is); (case xL => k_is); (case al => refine' One.al_of ?xR ?fR; (case xR => k_is); (case fR => k_is)); (case sa => k_is); (case noF => k_is); (case veB => k_is); (case slf => k_is); (case op => k_is); (case tp => rfl); (case sh => exact One.shape2); (case iC => k_is); (case l1 => k_is); (case c1 => k_is); (case lc => k_is); (case hvs => first | rfl | k_is); (case hfile => first | rfl | decide +kernel | k_is); (case lcc => k_is); (case tC => k_is); (case kC => k_is); (case exC => k_is); (case tyC => k_is))
    (case lawNs => k_is)
    (case lawLk => k_is)
    (case lawCd => k_is)
    (case lawKp => k_is)
