import PyProof.Rows.All
import Wide.All
import OpenK.AllK
import Wide.FinOn
import HandS.ForMost
import HandS.Wide
import HandS.Codes
import HandS.Flow
import HandS.SortRule
import HandS.IsInst
import HandS.Conv
import HandS.TupLe
import KE.GoesMore
import HandS.Lambda
import HandS.ExcInit
import HandS.ExcIs
import HandS.ExcField
import HandS.ExcValue
import HandS.RaiseMore
import KE.KExcSuper
import HandS.WordsExc
import PyProof.ReprRoads
import PySem.Challenge.RW_oneround_k41_worths_looked_at
import HandS.Walk
import HandS.Ends
import HandS.FStrTup
import KE.KExcIs
import HandS.Deep
import HandS.Zip
import HandS.TupAny
import HandS.Style
import HandS.ExcSuper
import HandS.EndTab
set_option Elab.async false

section P_M1
set_option linter.all false
/-! Lines, yards: the mathematics of what a law's own growing and calling makes. -/
namespace One
/-- the ends of lines -/
def ends : List (Nat × Nat) → List Nat
  | [] => []
  | p :: r => p.1 :: p.2 :: ends r
/-- the items whose place, counted from k, is let by p -/
def keepIx {α : Type} (p : Nat → Bool) : Nat → List α → List α
  | _, [] => []
  | k, x :: r => if p k then x :: keepIx p (k + 1) r else keepIx p (k + 1) r
theorem ends_append : ∀ (a b : List (Nat × Nat)), ends (a ++ b) = ends a ++ ends b
  | [], _ => rfl
  | p :: r, b => by simp [ends, ends_append r b]
theorem ends_perm {a b : List (Nat × Nat)} (h : a.Perm b) : (ends a).Perm (ends b) := by
  induction h with
  | nil => exact .refl _
  | cons x _ ih => exact .cons _ (.cons _ ih)
  | swap x y l => 
    show (y.1 :: y.2 :: x.1 :: x.2 :: ends l).Perm (x.1 :: x.2 :: y.1 :: y.2 :: ends l)
    have : ([y.1, y.2] ++ ([x.1, x.2] ++ ends l)).Perm ([x.1, x.2] ++ ([y.1, y.2] ++ ends l)) := by
      rw [← List.append_assoc, ← List.append_assoc]
      exact List.Perm.append_right _ List.perm_append_comm
    exact this
  | trans _ _ i j => exact i.trans j
theorem ends_length : ∀ a : List (Nat × Nat), (ends a).length = 2 * a.length
  | [] => rfl
  | p :: r => by simp [ends, ends_length r]; omega
theorem mem_ends : ∀ {a : List (Nat × Nat)} {e : Nat}, e ∈ ends a ↔ ∃ p ∈ a, e = p.1 ∨ e = p.2
  | [], e => by simp [ends]
  | p :: r, e => by
    simp only [ends, List.mem_cons, mem_ends (a := r)]
    constructor
    · rintro (h | h | ⟨q, hq, h⟩)
      · exact ⟨p, .inl rfl, .inl h⟩
      · exact ⟨p, .inl rfl, .inr h⟩
      · exact ⟨q, .inr hq, h⟩
    · rintro ⟨q, rfl | hq, h⟩
      · rcases h with h | h
        · exact .inl h
        · exact .inr (.inl h)
      · exact .inr (.inr ⟨q, hq, h⟩)
theorem keepIx_length_le {α : Type} (p : Nat → Bool) : ∀ (k : Nat) (l : List α), (keepIx p k l).length ≤ l.length
  | _, [] => Nat.le_refl _
  | k, x :: r => by
    unfold keepIx
    have := keepIx_length_le p (k + 1) r
    split <;> simp <;> omega
theorem keepIx_snoc {α : Type} (p : Nat → Bool) : ∀ (k : Nat) (l : List α) (x : α), keepIx p k (l ++ [x]) = keepIx p k l ++ (if p (k + l.length) then [x] else [])
  | k, [], x => by simp [keepIx]
  | k, y :: r, x => by
    simp only [List.cons_append, keepIx, keepIx_snoc p (k + 1) r x, List.length_cons]
    have : k + 1 + r.length = k + (r.length + 1) := by omega
    rw [this]
    split <;> simp
theorem keepIx_congr {α : Type} {p q : Nat → Bool} : ∀ (k : Nat) (l : List α), (∀ m, k ≤ m → p m = q m) → keepIx p k l = keepIx q k l
  | _, [], _ => rfl
  | k, x :: r, h => by
    unfold keepIx
    rw [h k (Nat.le_refl _), keepIx_congr (k + 1) r (fun m hm => h m (by omega))]
theorem keepIx_out {α : Type} (p : Nat → Bool) : ∀ (k i : Nat) (l : List α) (x : α), l[i]? = some x → p (k + i) = true → (keepIx p k l).Perm (x :: keepIx (fun m => p m && !decide (m = k + i)) k l)
  | k, _, [], x, h, _ => by simp at h
  | k, 0, y :: r, x, h, hp => by
    have e : y = x := Option.some.inj h
    subst e
    have hp' : p k = true := hp
    simp only [keepIx, hp', Nat.add_zero, decide_true, Bool.not_true, Bool.and_false, if_true]
    refine .cons _ ?_
    have e : keepIx (fun m => p m && !decide (m = k)) (k + 1) r = keepIx p (k + 1) r := keepIx_congr (k + 1) r fun m hm => by
      have : ¬ m = k := by omega
      simp [this]
    simp [e]
  | k, i + 1, y :: r, x, h, hp => by
    have ih := keepIx_out p (k + 1) i r x (by simpa using h) (by rw [show k + 1 + i = k + (i + 1) by omega]; exact hp)
    have hk : ¬ k = k + (i + 1) := by omega
    simp only [keepIx, hk, decide_false, Bool.not_false, Bool.and_true]
    rw [show (fun m => p m && !decide (m = k + (i + 1))) = (fun m => p m && !decide (m = k + 1 + i)) by funext m; rw [show k + (i + 1) = k + 1 + i by omega]]
    split
    · exact (List.Perm.cons _ ih).trans (.swap _ _ _)
    · exact ih
theorem keepIx_all {α : Type} : ∀ (k : Nat) (l : List α), keepIx (fun _ => true) k l = l
  | _, [] => rfl
  | k, x :: r => by simp [keepIx, keepIx_all (k + 1) r]
/-- lines of n crossings: each end in just one of them -/
structure Lines (n : Nat) (ps : List (Nat × Nat)) : Prop where
  len : ps.length = 2 * n
  nd : (ends ps).Nodup
  lt : ∀ e ∈ ends ps, e < 4 * n
/-- all hangs together: what is closed under lines and has crossing 0 has all -/
def Whole (n : Nat) (ps : List (Nat × Nat)) : Prop := ∀ P : Nat → Prop, (∀ p ∈ ps, P (p.1 / 4) ↔ P (p.2 / 4)) → P 0 → ∀ c, c < n → P c
theorem Whole.from {n : Nat} {ps : List (Nat × Nat)} (w : Whole n ps) {P : Nat → Prop} (h : ∀ p ∈ ps, P (p.1 / 4) ↔ P (p.2 / 4)) {a : Nat} (ha : a < n) (hp : P a) {c : Nat} (hc : c < n) : P c := by
  by_cases h0 : P 0
  · exact w P h h0 c hc
  · exact absurd hp (w (fun x => ¬ P x) (fun p m => not_congr (h p m)) h0 a ha)
theorem Whole.perm {n : Nat} {ps qs : List (Nat × Nat)} (w : Whole n ps) (h : ps.Perm qs) : Whole n qs := fun P hP h0 c hc => w P (fun p m => hP p (h.mem_iff.mp m)) h0 c hc
theorem Lines.perm {n : Nat} {ps qs : List (Nat × Nat)} (w : Lines n ps) (h : ps.Perm qs) : Lines n qs :=
  ⟨h.length_eq ▸ w.len, (ends_perm h).nodup_iff.mp w.nd, fun e m => w.lt e ((ends_perm h).mem_iff.mpr m)⟩
/-- the fresh lines of crossing n put across two lines, or twice across one -/
def fresh (n : Nat) (i j : Nat) (a b : Nat × Nat) : List (Nat × Nat) :=
  if i = j then [(a.1, 4 * n), (4 * n + 1, 4 * n + 2), (a.2, 4 * n + 3)] else [(a.1, 4 * n), (a.2, 4 * n + 2), (b.1, 4 * n + 1), (b.2, 4 * n + 3)]
/-- the places but two -/
def notIJ (i j : Nat) : Nat → Bool := fun m => !decide (m = i) && !decide (m = j)
def putOn (n : Nat) (ps : List (Nat × Nat)) (i j : Nat) (a b : Nat × Nat) : List (Nat × Nat) := keepIx (notIJ i j) 0 ps ++ fresh n i j a b
theorem keep_one {α : Type} {ps : List α} {i : Nat} {a : α} (ha : ps[i]? = some a) : ps.Perm (a :: keepIx (notIJ i i) 0 ps) := by
  have h := keepIx_out (fun _ => true) 0 i ps a ha rfl
  rw [keepIx_all] at h
  refine h.trans ?_
  rw [keepIx_congr (q := notIJ i i) 0 ps fun m _ => by simp [notIJ]]
theorem keep_two {α : Type} {ps : List α} {i j : Nat} {a b : α} (hij : i ≠ j) (ha : ps[i]? = some a) (hb : ps[j]? = some b) : ps.Perm (a :: b :: keepIx (notIJ i j) 0 ps) := by
  have h := keepIx_out (fun _ => true) 0 i ps a ha rfl
  rw [keepIx_all] at h
  refine h.trans (.cons _ ?_)
  have h2 := keepIx_out (fun m => true && !decide (m = 0 + i)) 0 j ps b hb (by simp; omega)
  refine h2.trans ?_
  rw [keepIx_congr (q := notIJ i j) 0 ps fun m _ => by simp [notIJ]]
theorem mem_keep {α : Type} (p : Nat → Bool) : ∀ (k : Nat) (l : List α) (x : α), x ∈ keepIx p k l → x ∈ l
  | _, [], _, h => h
  | k, y :: r, x, h => by
    unfold keepIx at h
    split at h
    · rcases List.mem_cons.mp h with e | h
      · exact List.mem_cons.mpr (.inl e)
      · exact List.mem_cons.mpr (.inr (mem_keep p (k + 1) r x h))
    · exact List.mem_cons.mpr (.inr (mem_keep p (k + 1) r x h))
theorem put_ends {n : Nat} {ps : List (Nat × Nat)} {i j : Nat} {a b : Nat × Nat} (ha : ps[i]? = some a) (hb : ps[j]? = some b) :
    (ends (putOn n ps i j a b)).Perm (ends ps ++ [4 * n, 4 * n + 1, 4 * n + 2, 4 * n + 3]) := by
  unfold putOn
  rw [ends_append]
  unfold fresh
  by_cases hij : i = j
  · subst hij
    rw [if_pos rfl]
    have h := ends_perm (keep_one ha)
    refine List.Perm.trans ?_ (List.Perm.append_right _ h.symm)
    show (ends (keepIx (notIJ i i) 0 ps) ++ [a.1, 4 * n, 4 * n + 1, 4 * n + 2, a.2, 4 * n + 3]).Perm ((a.1 :: a.2 :: ends (keepIx (notIJ i i) 0 ps)) ++ [4 * n, 4 * n + 1, 4 * n + 2, 4 * n + 3])
    refine List.perm_iff_count.mpr fun x => ?_
    simp only [List.count_append, List.count_cons, List.count_nil]
    omega
  · rw [if_neg hij]
    have h := ends_perm (keep_two hij ha hb)
    refine List.Perm.trans ?_ (List.Perm.append_right _ h.symm)
    show (ends (keepIx (notIJ i j) 0 ps) ++ [a.1, 4 * n, a.2, 4 * n + 2, b.1, 4 * n + 1, b.2, 4 * n + 3]).Perm ((a.1 :: a.2 :: b.1 :: b.2 :: ends (keepIx (notIJ i j) 0 ps)) ++ [4 * n, 4 * n + 1, 4 * n + 2, 4 * n + 3])
    refine List.perm_iff_count.mpr fun x => ?_
    simp only [List.count_append, List.count_cons, List.count_nil]
    omega
theorem put_len {n : Nat} {ps : List (Nat × Nat)} {i j : Nat} {a b : Nat × Nat} (ha : ps[i]? = some a) (hb : ps[j]? = some b) : (putOn n ps i j a b).length = ps.length + 2 := by
  have h := (put_ends (n := n) ha hb).length_eq
  rw [List.length_append, ends_length, ends_length] at h
  simp at h
  omega
theorem put_lines {n : Nat} {ps : List (Nat × Nat)} {i j : Nat} {a b : Nat × Nat} (L : Lines n ps) (ha : ps[i]? = some a) (hb : ps[j]? = some b) : Lines (n + 1) (putOn n ps i j a b) := by
  have hp := put_ends (n := n) ha hb
  refine ⟨by rw [put_len ha hb, L.len]; omega, hp.nodup_iff.mpr (List.nodup_append.mpr ⟨L.nd, ?_, fun x hx y hy => ?_⟩), fun e he => ?_⟩
  · simp
  · have := L.lt x hx
    simp at hy
    omega
  · rcases List.mem_append.mp (hp.mem_iff.mp he) with h | h
    · have := L.lt e h
      omega
    · simp at h
      omega
theorem put_whole {n : Nat} {ps : List (Nat × Nat)} {i j : Nat} {a b : Nat × Nat} (hn : 0 < n) (L : Lines n ps) (w : Whole n ps) (ha : ps[i]? = some a) (hb : ps[j]? = some b) : Whole (n + 1) (putOn n ps i j a b) := by
  intro P hP h0
  have old : ∀ p ∈ keepIx (notIJ i j) 0 ps, P (p.1 / 4) ↔ P (p.2 / 4) := fun p m => hP p (List.mem_append.mpr (.inl m))
  have d0 : 4 * n / 4 = n := by omega
  have d1 : (4 * n + 1) / 4 = n := by omega
  have d2 : (4 * n + 2) / 4 = n := by omega
  have d3 : (4 * n + 3) / 4 = n := by omega
  have new : ∀ p ∈ fresh n i j a b, P (p.1 / 4) ↔ P (p.2 / 4) := fun p m => hP p (List.mem_append.mpr (.inr m))
  have hA : (P (a.1 / 4) ↔ P n) ∧ (P (a.2 / 4) ↔ P n) ∧ (i ≠ j → (P (b.1 / 4) ↔ P n) ∧ (P (b.2 / 4) ↔ P n)) := by
    unfold fresh at new
    by_cases hij : i = j
    · rw [if_pos hij] at new
      have q1 := new (a.1, 4 * n) (by simp)
      have q2 := new (a.2, 4 * n + 3) (by simp)
      simp only [d0, d3] at q1 q2
      exact ⟨q1, q2, fun z => absurd hij z⟩
    · rw [if_neg hij] at new
      have q1 := new (a.1, 4 * n) (by simp)
      have q2 := new (a.2, 4 * n + 2) (by simp)
      have q3 := new (b.1, 4 * n + 1) (by simp)
      have q4 := new (b.2, 4 * n + 3) (by simp)
      simp only [d0, d1, d2, d3] at q1 q2 q3 q4
      exact ⟨q1, q2, fun _ => ⟨q3, q4⟩⟩
  have clo : ∀ p ∈ ps, P (p.1 / 4) ↔ P (p.2 / 4) := by
    intro p m
    by_cases hij : i = j
    · subst hij
      rcases List.mem_cons.mp ((keep_one ha).mem_iff.mp m) with e | m
      · subst e
        exact hA.1.trans hA.2.1.symm
      · exact old p m
    · rcases List.mem_cons.mp ((keep_two hij ha hb).mem_iff.mp m) with e | m
      · subst e
        exact hA.1.trans hA.2.1.symm
      · rcases List.mem_cons.mp m with e | m
        · subst e
          exact (hA.2.2 hij).1.trans (hA.2.2 hij).2.symm
        · exact old p m
  have all := w P clo h0
  intro c hc
  by_cases h : c < n
  · exact all c h
  · have e : c = n := by omega
    subst e
    have am : a.1 ∈ ends ps := mem_ends.mpr ⟨a, List.mem_of_getElem? ha, .inl rfl⟩
    have := L.lt _ am
    exact hA.1.mp (all _ (by omega))
end One
end P_M1

section P_M2
set_option linter.all false
namespace One
/-- what a law's own growing makes -/
structure Grown (n : Nat) (ps : List (Nat × Nat)) : Prop where
  pos : 0 < n
  lines : Lines n ps
  whole : Whole n ps
theorem grown_one {a b c d : Nat} (h : [a, b, c, d].Perm [0, 1, 2, 3]) : Grown 1 [(a, b), (c, d)] := by
  refine ⟨by decide, ⟨rfl, h.nodup_iff.mpr (by decide), fun e he => ?_⟩, fun P _ h0 x hx => ?_⟩
  · have := h.mem_iff.mp he
    simp at this
    omega
  · have e : x = 0 := by omega
    subst e
    exact h0
theorem Grown.put {n : Nat} {ps : List (Nat × Nat)} {i j : Nat} {a b : Nat × Nat} (g : Grown n ps) (ha : ps[i]? = some a) (hb : ps[j]? = some b) : Grown (n + 1) (putOn n ps i j a b) :=
  ⟨by omega, put_lines g.lines ha hb, put_whole g.pos g.lines g.whole ha hb⟩
/-- how ends are called otherwise, crossing by crossing -/
structure Called (n : Nat) (ns : List Nat) : Prop where
  perm : ns.Perm (List.range (4 * n))
  blk : ∀ i j, i < 4 * n → j < 4 * n → i / 4 = j / 4 → ns.getD i 0 / 4 = ns.getD j 0 / 4
theorem Called.len {n : Nat} {ns : List Nat} (c : Called n ns) : ns.length = 4 * n := by rw [c.perm.length_eq, List.length_range]
theorem Called.lt {n : Nat} {ns : List Nat} (c : Called n ns) {i : Nat} (hi : i < 4 * n) : ns.getD i 0 < 4 * n := by
  have h : i < ns.length := by rw [c.len]; exact hi
  rw [List.getD_eq_getElem?_getD, List.getElem?_eq_getElem h, Option.getD_some]
  exact List.mem_range.mp (c.perm.mem_iff.mp (List.getElem_mem h))
theorem Called.inj {n : Nat} {ns : List Nat} (c : Called n ns) {i j : Nat} (hi : i < 4 * n) (hj : j < 4 * n) (e : ns.getD i 0 = ns.getD j 0) : i = j := by
  have h1 : i < ns.length := by rw [c.len]; exact hi
  have h2 : j < ns.length := by rw [c.len]; exact hj
  rw [List.getD_eq_getElem?_getD, List.getElem?_eq_getElem h1, Option.getD_some, List.getD_eq_getElem?_getD, List.getElem?_eq_getElem h2, Option.getD_some] at e
  exact (List.getElem_inj (c.perm.nodup_iff.mpr List.nodup_range)).mp e
theorem Called.onto {n : Nat} {ns : List Nat} (c : Called n ns) {x : Nat} (hx : x < 4 * n) : ∃ i, i < 4 * n ∧ ns.getD i 0 = x := by
  have h := c.perm.mem_iff.mpr (List.mem_range.mpr hx)
  obtain ⟨i, hi, e⟩ := List.mem_iff_getElem.mp h
  refine ⟨i, by rw [← c.len]; exact hi, ?_⟩
  rw [List.getD_eq_getElem?_getD, List.getElem?_eq_getElem hi, Option.getD_some, e]
/-- a line, the lesser end ahead -/
def low (x y : Nat) : Nat × Nat := if y < x then (y, x) else (x, y)
def callL (ns : List Nat) (p : Nat × Nat) : Nat × Nat := low (ns.getD p.1 0) (ns.getD p.2 0)
theorem low_mem (x y : Nat) : ∀ e, (e = (low x y).1 ∨ e = (low x y).2) ↔ (e = x ∨ e = y) := by
  intro e
  unfold low
  split
  · exact Or.comm
  · exact Iff.rfl
theorem ends_map (ns : List Nat) : ∀ ps : List (Nat × Nat), (ends (ps.map (callL ns))).Perm ((ends ps).map fun e => ns.getD e 0)
  | [] => .refl _
  | p :: r => by
    have ih := ends_map ns r
    show ((callL ns p).1 :: (callL ns p).2 :: ends (r.map (callL ns))).Perm (ns.getD p.1 0 :: ns.getD p.2 0 :: (ends r).map fun e => ns.getD e 0)
    unfold callL low
    split
    · exact (List.Perm.swap _ _ _).trans (.cons _ (.cons _ ih))
    · exact .cons _ (.cons _ ih)
theorem nodup_map_on {α β : Type} {f : α → β} : ∀ {l : List α}, (∀ x ∈ l, ∀ y ∈ l, f x = f y → x = y) → l.Nodup → (l.map f).Nodup
  | [], _, _ => List.nodup_nil
  | a :: r, h, hn => by
    obtain ⟨h1, h2⟩ := List.nodup_cons.mp hn
    refine List.nodup_cons.mpr ⟨fun m => ?_, nodup_map_on (fun x hx y hy => h x (List.mem_cons.mpr (.inr hx)) y (List.mem_cons.mpr (.inr hy))) h2⟩
    obtain ⟨y, hy, e⟩ := List.mem_map.mp m
    have := h y (List.mem_cons.mpr (.inr hy)) a (List.mem_cons.mpr (.inl rfl)) e
    exact h1 (this ▸ hy)
theorem called_lines {n : Nat} {ps : List (Nat × Nat)} {ns : List Nat} (L : Lines n ps) (c : Called n ns) : Lines n (ps.map (callL ns)) := by
  have hp := ends_map ns ps
  refine ⟨by rw [List.length_map]; exact L.len, hp.nodup_iff.mpr (nodup_map_on (fun x hx y hy e => c.inj (L.lt x hx) (L.lt y hy) e) L.nd), fun e he => ?_⟩
  obtain ⟨x, hx, rfl⟩ := List.mem_map.mp (hp.mem_iff.mp he)
  exact c.lt (L.lt x hx)
theorem called_whole {n : Nat} {ps : List (Nat × Nat)} {ns : List Nat} (hn : 0 < n) (L : Lines n ps) (w : Whole n ps) (c : Called n ns) : Whole n (ps.map (callL ns)) := by
  intro P hP h0 x hx
  have clo : ∀ p ∈ ps, P (ns.getD (4 * (p.1 / 4)) 0 / 4) ↔ P (ns.getD (4 * (p.2 / 4)) 0 / 4) := by
    intro p m
    have l1 := L.lt p.1 (mem_ends.mpr ⟨p, m, .inl rfl⟩)
    have l2 := L.lt p.2 (mem_ends.mpr ⟨p, m, .inr rfl⟩)
    rw [c.blk (4 * (p.1 / 4)) p.1 (by omega) l1 (by omega), c.blk (4 * (p.2 / 4)) p.2 (by omega) l2 (by omega)]
    have q := hP (callL ns p) (List.mem_map.mpr ⟨p, m, rfl⟩)
    unfold callL low at q
    split at q
    · exact q.symm
    · exact q
  obtain ⟨i, hi, ei⟩ := c.onto (x := 0) (by omega)
  obtain ⟨j, hj, ej⟩ := c.onto (x := 4 * x) (by omega)
  have start : P (ns.getD (4 * (i / 4)) 0 / 4) := by
    rw [c.blk (4 * (i / 4)) i (by omega) hi (by omega), ei]
    exact h0
  have all := w.from (P := fun k => P (ns.getD (4 * k) 0 / 4)) clo (a := i / 4) (by omega) start (c := j / 4) (by omega)
  have all : P (ns.getD (4 * (j / 4)) 0 / 4) := all
  rw [c.blk (4 * (j / 4)) j (by omega) hj (by omega), ej] at all
  rw [show 4 * x / 4 = x by omega] at all
  exact all
/-- pairs in order -/
def ltP (p q : Nat × Nat) : Prop := p.1 < q.1 ∨ (p.1 = q.1 ∧ p.2 < q.2)
def leP (p q : Nat × Nat) : Prop := p.1 < q.1 ∨ (p.1 = q.1 ∧ p.2 ≤ q.2)
/-- a yard of n crossings -/
structure Yard (n : Nat) (L : List (Nat × Nat)) : Prop where
  pos : 0 < n
  lines : Lines n L
  whole : Whole n L
  up : L.Pairwise ltP
  low : ∀ p ∈ L, p.1 < p.2
theorem nodup_firsts : ∀ {L : List (Nat × Nat)}, (ends L).Nodup → L.Pairwise fun p q => p.1 ≠ q.1 ∧ p.1 ≠ q.2 ∧ p.2 ≠ q.1 ∧ p.2 ≠ q.2
  | [], _ => .nil
  | p :: r, h => by
    have h : (p.1 :: p.2 :: ends r).Nodup := h
    obtain ⟨h1, h2⟩ := List.nodup_cons.mp h
    obtain ⟨h3, h4⟩ := List.nodup_cons.mp h2
    refine List.pairwise_cons.mpr ⟨fun q hq => ?_, nodup_firsts h4⟩
    have m1 : q.1 ∈ ends r := mem_ends.mpr ⟨q, hq, .inl rfl⟩
    have m2 : q.2 ∈ ends r := mem_ends.mpr ⟨q, hq, .inr rfl⟩
    exact ⟨fun e => h1 (List.mem_cons.mpr (.inr (e ▸ m1))), fun e => h1 (List.mem_cons.mpr (.inr (e ▸ m2))), fun e => h3 (e ▸ m1), fun e => h3 (e ▸ m2)⟩
theorem nodup_pair : ∀ {L : List (Nat × Nat)}, (ends L).Nodup → ∀ p ∈ L, p.1 ≠ p.2
  | p :: r, h, q, m => by
    have h : (p.1 :: p.2 :: ends r).Nodup := h
    obtain ⟨h1, h2⟩ := List.nodup_cons.mp h
    rcases List.mem_cons.mp m with e | m
    · subst e
      exact fun e => h1 (List.mem_cons.mpr (.inl e))
    · exact nodup_pair (List.nodup_cons.mp h2).2 q m
/-- lines with the lesser ends ahead, sorted, are a yard -/
theorem yard_of_sorted {n : Nat} {L M : List (Nat × Nat)} (hn : 0 < n) (hL : Lines n L) (w : Whole n L) (hl : ∀ p ∈ L, p.1 ≤ p.2) (hp : M.Perm L) (hs : M.Pairwise leP) : Yard n M := by
  have hM := hL.perm hp.symm
  refine ⟨hn, hM, w.perm hp.symm, ?_, fun p m => ?_⟩
  · refine (hs.and (nodup_firsts hM.nd)).imp ?_
    rintro p q ⟨h1, h2, _⟩
    rcases h1 with h1 | ⟨h1, _⟩
    · exact .inl h1
    · exact absurd h1 h2
  · have h1 := hl p (hp.mem_iff.mp m)
    have h2 := nodup_pair hM.nd p m
    omega
theorem low_le (x y : Nat) : (low x y).1 ≤ (low x y).2 := by
  unfold low
  split <;> simp <;> omega
theorem called_yard {n : Nat} {ps M : List (Nat × Nat)} {ns : List Nat} (g : Grown n ps) (c : Called n ns) (hp : M.Perm (ps.map (callL ns))) (hs : M.Pairwise leP) : Yard n M :=
  yard_of_sorted g.pos (called_lines g.lines c) (called_whole g.pos g.lines g.whole c) (fun p m => by
    obtain ⟨q, _, rfl⟩ := List.mem_map.mp m
    exact low_le _ _) hp hs
/-! ### the calling, block by block -/
def blocks : List (Nat × List Nat) → List Nat
  | [] => []
  | b :: r => b.2.map (fun p => 4 * b.1 + p) ++ blocks r
theorem blocks_snoc : ∀ (l : List (Nat × List Nat)) (b : Nat × List Nat), blocks (l ++ [b]) = blocks l ++ b.2.map (fun p => 4 * b.1 + p)
  | [], b => by simp [blocks]
  | a :: r, b => by simp [blocks, blocks_snoc r b]
theorem blocks_len : ∀ {l : List (Nat × List Nat)}, (∀ b ∈ l, b.2.length = 4) → (blocks l).length = 4 * l.length
  | [], _ => rfl
  | a :: r, h => by
    have h1 := h a (List.mem_cons.mpr (.inl rfl))
    have h2 := blocks_len (l := r) fun b hb => h b (List.mem_cons.mpr (.inr hb))
    simp [blocks, h1, h2]
    omega
theorem blocks_get : ∀ {l : List (Nat × List Nat)}, (∀ b ∈ l, b.2.Perm [0, 1, 2, 3]) → ∀ i, i < 4 * l.length → ∃ b ∈ l, l[i / 4]? = some b ∧ (blocks l).getD i 0 / 4 = b.1
  | [], _, i, hi => by simp at hi
  | a :: r, h, i, hi => by
    have ha := h a (List.mem_cons.mpr (.inl rfl))
    have hlen : (a.2.map (fun p => 4 * a.1 + p)).length = 4 := by rw [List.length_map, ha.length_eq]; rfl
    by_cases hi4 : i < 4
    · refine ⟨a, List.mem_cons.mpr (.inl rfl), by rw [show i / 4 = 0 by omega]; rfl, ?_⟩
      have hx : i < a.2.length := by rw [ha.length_eq]; exact hi4
      have hm := ha.mem_iff.mp (List.getElem_mem hx)
      have e : (blocks (a :: r)).getD i 0 = 4 * a.1 + a.2[i] := by
        show (a.2.map (fun p => 4 * a.1 + p) ++ blocks r).getD i 0 = _
        rw [List.getD_eq_getElem?_getD, List.getElem?_append_left (by rw [hlen]; exact hi4), List.getElem?_map, List.getElem?_eq_getElem hx]
        rfl
      rw [e]
      simp at hm
      omega
    · have hi' : i - 4 < 4 * r.length := by simp at hi; omega
      obtain ⟨b, hb, h1, h2⟩ := blocks_get (l := r) (fun b hb => h b (List.mem_cons.mpr (.inr hb))) (i - 4) hi'
      refine ⟨b, List.mem_cons.mpr (.inr hb), ?_, ?_⟩
      · rw [show i / 4 = (i - 4) / 4 + 1 by omega]
        exact h1
      · have e : (blocks (a :: r)).getD i 0 = (blocks r).getD (i - 4) 0 := by
          show (a.2.map (fun p => 4 * a.1 + p) ++ blocks r).getD i 0 = _
          rw [List.getD_eq_getElem?_getD, List.getElem?_append_right (by rw [hlen]; omega), hlen, List.getD_eq_getElem?_getD]
        rw [e]
        exact h2
theorem blocks_perm : ∀ {l m : List (Nat × List Nat)}, l.Perm m → (blocks l).Perm (blocks m) := fun h => by
  induction h with
  | nil => exact .refl _
  | cons x _ ih => exact List.Perm.append_left _ ih
  | swap x y l =>
    show (y.2.map (fun p => 4 * y.1 + p) ++ (x.2.map (fun p => 4 * x.1 + p) ++ blocks l)).Perm (x.2.map (fun p => 4 * x.1 + p) ++ (y.2.map (fun p => 4 * y.1 + p) ++ blocks l))
    rw [← List.append_assoc, ← List.append_assoc]
    exact List.Perm.append_right _ List.perm_append_comm
  | trans _ _ i j => exact i.trans j
theorem blocks_std : ∀ (l : List (Nat × List Nat)), (∀ b ∈ l, b.2.Perm [0, 1, 2, 3]) → (blocks l).Perm (blocks (l.map fun b => (b.1, [0, 1, 2, 3])))
  | [], _ => .refl _
  | a :: r, h => List.Perm.append (List.Perm.map _ (h a (List.mem_cons.mpr (.inl rfl)))) (blocks_std r fun b hb => h b (List.mem_cons.mpr (.inr hb)))
theorem blocks_range : ∀ n : Nat, blocks ((List.range n).map fun c => (c, [0, 1, 2, 3])) = List.range (4 * n)
  | 0 => rfl
  | n + 1 => by
    rw [List.range_succ, List.map_append, List.map_cons, List.map_nil, blocks_snoc, blocks_range n, show 4 * (n + 1) = 4 * n + 4 by omega]
    rw [show 4 * n + 4 = (4 * n + 3) + 1 by omega, List.range_succ, show 4 * n + 3 = (4 * n + 2) + 1 by omega, List.range_succ, show 4 * n + 2 = (4 * n + 1) + 1 by omega, List.range_succ, List.range_succ]
    simp
theorem called_of_blocks {n : Nat} {l : List (Nat × List Nat)} (hp : (l.map Prod.fst).Perm (List.range n)) (hb : ∀ b ∈ l, b.2.Perm [0, 1, 2, 3]) : Called n (blocks l) := by
  have hlen : l.length = n := by rw [← List.length_map (f := Prod.fst) (as := l), hp.length_eq, List.length_range]
  refine ⟨?_, fun i j hi hj e => ?_⟩
  · refine (blocks_std l hb).trans ?_
    rw [← blocks_range n]
    refine blocks_perm ?_
    rw [show (fun b : Nat × List Nat => (b.1, [0, 1, 2, 3])) = (fun c => (c, [0, 1, 2, 3])) ∘ Prod.fst from rfl, ← List.map_map]
    exact List.Perm.map _ hp
  · obtain ⟨b, _, h1, h2⟩ := blocks_get hb i (by rw [hlen]; exact hi)
    obtain ⟨d, _, h3, h4⟩ := blocks_get hb j (by rw [hlen]; exact hj)
    rw [e, h3] at h1
    cases h1
    rw [h2, h4]
end One
end P_M2

section P_N0
set_option linter.all false
set_option maxRecDepth 100000
set_option maxHeartbeats 4000000
namespace One
open PySem PySem.Spec PyProof.Rows L2
def top (i : Nat) : Stmt := PySem.Challenge.pw_oneround_k41_worths_looked_at.main.body.getD i (.Pass ⟨0, 0, 0, 0⟩)

/-! ### a list that is only read, with a list behind it -/
theorem add_read (l : Addr) (items : Array Value) (n : Nat) (sl : Array (Option Value)) (b : Addr) (items2 : Array Value) (n2 : Nat) (hc0 : items.size + items2.size ≤ sizeLine) :
    Meets (Builtin.«list.__add__» ⟨[.ref l, .ref b], []⟩) (fun _ R s => s.heap.get? l = some ⟨.type "list", none, .seq items n, sl⟩ ∧ s.heap.get? b = some ⟨.type "list", none, .seq items2 n2, #[]⟩ ∧
      R (.ok (.ret (Value.ref s.heap.objs.size))) { s with heap := s.heap.push { cls := Value.type "list", data := Data.seq (items ++ items2) }, toks := s.toks }) :=
  .of_wp fun prog w A R s h => by
    obtain ⟨hp, g, d, tk, os⟩ := s
    obtain ⟨hl, hb, h⟩ := h
    have f1 := PySem.AutoSeq1.idx_int
    have f3 := PySem.AutoSeq1.sub_list_list
    wp_walk using PySem.AutoSeq1.wpAny_loadPart' hl, PySem.AutoSeq1.wpAny_loadPart' hb
    exact ⟨_, rfl, h⟩
section
variable {X : Cx}
def rCatS (K : PySem.W.Frag) : R2 := fun x y H Q => ∃ l b xs zs, x = .ref l ∧ y = .ref b ∧ SqL K H l xs ∧ H b = some (.lst zs) ∧ xs.length + zs.length ≤ sizeLine ∧ ∀ p, H p = none → Q (.ref p) (upd H p (.lst (xs ++ zs)))
theorem op_catS : OpR X (binaryOp .Add) (rCatS X.K) := by
  intro pins s σ H x y v u Q I rx ry h
  obtain ⟨l, b, xs, zs, rfl, rfl, hS, hB, hz, q⟩ := h
  cases rx
  cases ry
  obtain ⟨its, r, ⟨⟨oc, od, oda, osl⟩, n, e, ec, ed, edd⟩, hl⟩ := I.list hS
  dsimp only at ec ed edd
  subst ec ed edd
  obtain ⟨z2, its2, n2, r2, hl2, e2⟩ := I.lstM hB
  have ha : s.TypeIs (.ref l) "list" := ⟨_, e, rfl⟩
  have hb : s.TypeIs (.ref b) "list" := ⟨_, e2, rfl⟩
  have hsz : its.toArray.size + its2.toArray.size ≤ sizeLine := by
    rw [List.size_toArray, List.size_toArray, ← r.length, ← r2.length]
    exact hz
  refine PySem.concat_meets ha hb PySem.noFill_list_add PySem.seq_list_add F.slot_list_add F.entry_list_add (F.args_list_add_2 _ _) (add_read l its.toArray n osl b its2.toArray n2 hsz) ⟨e, e2, ?_⟩
  have ea : its.toArray ++ its2.toArray = (its ++ its2).toArray := by simp
  rw [ea]
  exact ⟨.ref _, _, I.lnew (t' := s.toks) (r.append r2) (by rw [List.length_append]; exact hz), rfl, q _ I.fresh⟩
end
/-- all but p stands as it stood -/
def But (p : Addr) (H H' : Hp) : Prop := ∀ b, b ≠ p → H' b = H b
/-- all that stood but p stands as it stood -/
def Ext (p : Addr) (H H' : Hp) : Prop := ∀ b o, b ≠ p → H b = some o → H' b = some o
theorem But.ext {p : Addr} {H H' : Hp} (h : But p H H') : Ext p H H' := fun b o hb e => (h b hb).trans e
theorem But.trans {p : Addr} {H H1 H2 : Hp} (h : But p H H1) (k : But p H1 H2) : But p H H2 := fun b hb => (k b hb).trans (h b hb)
theorem Ext.refl (p : Addr) (H : Hp) : Ext p H H := fun _ _ _ e => e
theorem Ext.trans {p : Addr} {H H1 H2 : Hp} (h : Ext p H H1) (k : Ext p H1 H2) : Ext p H H2 := fun b o hb e => k b o hb (h b o hb e)
theorem Ext.same {p : Addr} {H H1 : Hp} (h : Same H H1) : Ext p H H1 := fun b o _ e => h b o e
theorem Ext.new {p q : Addr} {H : Hp} {o : HO} (h : H q = none) : Ext p H (upd H q o) := fun b u _ e => by
  rw [upd_ne (ne_of_none e h)]
  exact e
/-- the names that the program's top leaves to the built-ins -/
structure TB (mg : Str → Option Value) : Prop where
  len : mg "len" = none
  range : mg "range" = none
  tuple : mg "tuple" = none
  list : mg "list" = none
  sorted : mg "sorted" = none
  enumerate : mg "enumerate" = none
  isinstance : mg "isinstance" = none
  int : mg "int" = none
  bool : mg "bool" = none
  repr : mg "repr" = none
  all : mg "all" = none
theorem get_cell {cells : List Int} {i : Int} (h0 : 0 ≤ i) (h1 : i < (cells.length : Int)) : ∃ z, atI (cells.map V.int) i = some (V.int z) := by
  have hlt : i.toNat < cells.length := by omega
  refine ⟨cells[i.toNat], at_of (j := i.toNat) (by omega) ?_⟩
  rw [List.getElem?_map, List.getElem?_eq_getElem hlt]
  rfl
theorem But.upd {p : Addr} {H H' : Hp} {o : HO} (h : But p H H') : But p H (upd H' p o) := fun b hb => (upd_ne hb).trans (h b hb)
/-- a test, then what comes of it, with a word between them -/
def tMid (t : TT) : TT := fun σ H Q => ∃ M : Bool → Hp → Prop, t σ H M ∧ ∀ b H', M b H' → Q b H'
theorem pt_mid {X : Cx} {e : Expr} {t : TT} (h : PT X e t) : PT X e (tMid t) := ⟨fun pins s σ H Q I ⟨M, h1, h2⟩ =>
  thn (h.run pins s σ H M I h1) fun b s' ⟨H', I', q⟩ => ⟨H', I', h2 b H' q⟩⟩
/-- an expression, then what comes of it, with a word between them -/
def tMidE (t : TE) : TE := fun σ H Q => ∃ M : V → Hp → Prop, t σ H M ∧ ∀ v H', M v H' → Q v H'
theorem pe_mid {X : Cx} {e : Expr} {t : TE} (h : PE X e t) : PE X e (tMidE t) := ⟨fun pins s σ H Q I ⟨M, h1, h2⟩ =>
  thn (h.run pins s σ H M I h1) fun u s' ⟨v, H', I', r, q⟩ => ⟨v, H', I', r, h2 v H' q⟩⟩

/-- a def that is called by its name -/
structure Cal (K : PySem.W.Frag) (mg : Str → Option Value) (x : Str) (f : Addr) (fd : FuncData) (ps : List Str) : Prop where
  g : mg x = some (.ref f)
  kp : PySem.W.keepIn K (.ref f) = true
  b : Binds K fd ps []
/-- at a stands the pair p -/
def PAt (H : Hp) (a : Addr) (p : Nat × Nat) : Prop := H a = some (.tup [.int (p.1 : Nat), .int (p.2 : Nat)])
/-- at these addresses stand these pairs -/
inductive PL (H : Hp) : List Addr → List (Nat × Nat) → Prop
  | nil : PL H [] []
  | cons {a p as ps} : PAt H a p → PL H as ps → PL H (a :: as) (p :: ps)
theorem PL.len {H : Hp} {as : List Addr} {ps : List (Nat × Nat)} (h : PL H as ps) : as.length = ps.length := by
  induction h with
  | nil => rfl
  | cons _ _ ih => simp [ih]
theorem PL.get {H : Hp} {as : List Addr} {ps : List (Nat × Nat)} (h : PL H as ps) : ∀ {i : Nat} {p : Nat × Nat}, ps[i]? = some p → ∃ a, as[i]? = some a ∧ PAt H a p := by
  induction h with
  | nil => intro i p e; simp at e
  | cons h1 _ ih =>
    intro i p e
    cases i with
    | zero =>
      have e := Option.some.inj e
      subst e
      exact ⟨_, rfl, h1⟩
    | succ i => exact ih (i := i) (by simpa using e)
theorem PL.got {H : Hp} {as : List Addr} {ps : List (Nat × Nat)} (h : PL H as ps) : ∀ {i : Nat} {a : Addr}, as[i]? = some a → ∃ p, ps[i]? = some p ∧ PAt H a p := by
  induction h with
  | nil => intro i p e; simp at e
  | cons h1 _ ih =>
    intro i p e
    cases i with
    | zero =>
      have e := Option.some.inj e
      subst e
      exact ⟨_, rfl, h1⟩
    | succ i => exact ih (i := i) (by simpa using e)
theorem PL.app {H : Hp} {as bs : List Addr} {ps qs : List (Nat × Nat)} (h : PL H as ps) (k : PL H bs qs) : PL H (as ++ bs) (ps ++ qs) := by
  induction h with
  | nil => exact k
  | cons h1 _ ih => exact .cons h1 ih
theorem PL.mono {H H' : Hp} {as : List Addr} {ps : List (Nat × Nat)} (h : PL H as ps) (k : ∀ b xs, H b = some (.tup xs) → H' b = some (.tup xs)) : PL H' as ps := by
  induction h with
  | nil => exact .nil
  | cons h1 _ ih => exact .cons (k _ _ h1) ih
theorem PL.keep {H : Hp} {as : List Addr} {ps : List (Nat × Nat)} (h : PL H as ps) (f : Nat → Bool) : ∀ k, PL H (keepIx f k as) (keepIx f k ps) := by
  induction h with
  | nil => intro k; exact .nil
  | cons h1 _ ih =>
    intro k
    unfold keepIx
    split
    · exact .cons h1 (ih _)
    · exact ih _
theorem sameT {H H' : Hp} (e : Same H H') : ∀ b xs, H b = some (.tup xs) → H' b = some (.tup xs) := fun b xs h => e b _ h
theorem Same.new {H : Hp} {q : Addr} {o : HO} (h : H q = none) : Same H (upd H q o) := fun b u e => by
  rw [upd_ne (ne_of_none e h)]
  exact e
abbrev refs (as : List Addr) : List V := as.map V.ref
/-- a display of two pairs of written numbers -/
theorem rd_two {a b c d : Int} {σ : L2.St} {H : Hp} {Q : VK} (h : ∀ (H' : Hp) (l t1 t2 : Addr), Same H H' → H' l = some (.lst [.ref t1, .ref t2]) → H' t1 = some (.tup [.int a, .int b]) → H' t2 = some (.tup [.int c, .int d]) → Q (.ref l) H') :
    tLst (tCons (tTup (tCons (tC (.int a)) (tCons (tC (.int b)) tNil))) (tCons (tTup (tCons (tC (.int c)) (tCons (tC (.int d)) tNil))) tNil)) σ H Q := by
  refine ⟨by show 2 ≤ sizeLine; decide, fun t1 h1 => ⟨by show 2 ≤ sizeLine; decide, fun t2 h2 => ⟨by show 2 ≤ sizeLine; decide, fun l hl => ?_⟩⟩⟩
  have s1 := Same.new (o := .tup [.int a, .int b]) h1
  have s2 := Same.new (o := .tup [.int c, .int d]) h2
  have s3 := Same.new (o := .lst [.ref t1, .ref t2]) hl
  exact h _ l t1 t2 (s1.trans (s2.trans s3)) upd_same (s3 _ _ (s2 _ _ upd_same)) (s3 _ _ upd_same)
/-- where the dict of the draws stands -/
def DictAt (H : Hp) (p : Addr) : Prop := ∃ kvs, H p = some (.dK kvs)
theorem tupD {p : Addr} {H H' : Hp} (hd : DictAt H p) (e : Ext p H H') : ∀ b xs, H b = some (.tup xs) → H' b = some (.tup xs) := fun b xs h => by
  obtain ⟨kvs, h1⟩ := hd
  exact e b _ (ne_of h h1 (by intro z; cases z)) h
theorem DictAt.neL {p L : Addr} {H : Hp} {xs : List V} (hd : DictAt H p) (h : H L = some (.lst xs)) : L ≠ p := fun z => by
  obtain ⟨kvs, h1⟩ := hd
  rw [z, h1] at h
  cases h
theorem two_le : 2 ≤ sizeLine := by decide
/-- two tuples and a list of both, made one behind another -/
theorem made_two {H : Hp} {t1 t2 l : Addr} {x y : List V} {zs : List V} (h1 : H t1 = none) (h2 : upd H t1 (.tup x) t2 = none) (h3 : upd (upd H t1 (.tup x)) t2 (.tup y) l = none) :
    ∃ H', H' = upd (upd (upd H t1 (.tup x)) t2 (.tup y)) l (.lst zs) ∧ Same H H' ∧ H' l = some (.lst zs) ∧ H' t1 = some (.tup x) ∧ H' t2 = some (.tup y) := by
  have s1 := Same.new (o := .tup x) h1
  have s2 := Same.new (o := .tup y) h2
  have s3 := Same.new (o := .lst zs) h3
  exact ⟨_, rfl, s1.trans (s2.trans s3), upd_same, s3 _ _ (s2 _ _ upd_same), s3 _ _ upd_same⟩
theorem PAt.of {H : Hp} {t : Addr} {x y : Int} {a b : Nat} (h : H t = some (.tup [.int x, .int y])) (hx : x = (a : Nat)) (hy : y = (b : Nat)) : PAt H t (a, b) := by
  subst hx hy
  exact h
theorem refs_app (a b : List Addr) : refs (a ++ b) = refs a ++ refs b := List.map_append
theorem in_two (j j1 j2 : Nat) : (!inV (V.int (j : Nat)) [V.int (j1 : Nat), V.int (j2 : Nat)]) = notIJ j1 j2 j := by
  unfold inV notIJ
  simp only [List.any_cons, List.any_nil, Bool.or_false]
  have e : ∀ k : Nat, eqV (V.int (k : Nat)) (V.int (j : Nat)) = decide (j = k) := by
    intro k
    show ((k : Int) == (j : Int)) = decide (j = k)
    by_cases q : j = k
    · subst q
      simp
    · have q' : ¬ (k : Int) = (j : Int) := by omega
      simp [q, q']
  rw [e, e, Bool.not_or]
theorem ref_at {as : List Addr} {i : Nat} {a : Addr} (h : as[i]? = some a) : atI (refs as) (i : Nat) = some (.ref a) := at_of (j := i) rfl (by rw [List.getElem?_map, h]; rfl)
abbrev nats (ns : List Nat) : List V := ns.map fun x => V.int (x : Nat)
theorem nats_app (a b : List Nat) : nats (a ++ b) = nats a ++ nats b := List.map_append
theorem nats_at {ns : List Nat} {i x : Nat} (h : ns[i]? = some x) : (nats ns)[i]? = some (V.int (x : Nat)) := by rw [List.getElem?_map, h]; rfl
theorem nats_erase : ∀ (ns : List Nat) (k : Nat), (nats ns).eraseIdx k = nats (ns.eraseIdx k)
  | [], _ => rfl
  | x :: r, 0 => rfl
  | x :: r, k + 1 => by
    show V.int (x : Nat) :: (nats r).eraseIdx k = V.int (x : Nat) :: nats (r.eraseIdx k)
    rw [nats_erase r k]
theorem nats_range (n : Nat) : rgV 0 (n : Nat) = nats (List.range n) := by
  unfold rgV
  have e : (((n : Nat) : Int) - 0).toNat = n := by omega
  rw [e]
  refine List.map_congr_left fun x _ => ?_
  rw [Int.zero_add]
theorem seq_ix {j n : Nat} (h : j < n) : seqIndex? ((j : Nat) : Int) n = some j := by
  unfold seqIndex?
  simp
  omega
theorem erase_perm : ∀ {l : List Nat} {k x : Nat}, l[k]? = some x → l.Perm (x :: l.eraseIdx k)
  | [], k, x, h => by simp at h
  | y :: r, 0, x, h => by
    have e : y = x := Option.some.inj h
    subst e
    exact .refl _
  | y :: r, k + 1, x, h => (List.Perm.cons y (erase_perm (l := r) (k := k) (by simpa using h))).trans (.swap _ _ _)
theorem Ext.wr {p q : Addr} {H H' : Hp} {o : HO} (e : Ext p H H') (h : H q = none) : Ext p H (upd H' q o) := fun b u hb hu => by
  rw [upd_ne (ne_of_none hu h)]
  exact e b u hb hu
theorem Ext.free {p q : Addr} {H H' : Hp} (e : Ext p H H') (hq : q ≠ p) (h : H' q = none) : H q = none := by
  cases z : H q with
  | none => rfl
  | some o =>
    rw [e q o hq z] at h
    cases h
theorem yes {σ : L2.St} {H : Hp} {A B : Hp → Prop} (h : A H) : tYes σ H (fun b H3 => if b = true then A H3 else B H3) := by
  show if true = true then A H else B H
  rw [if_pos rfl]
  exact h
def rLen (K : PySem.W.Frag) : List V → Hp → VK → Prop := fun xs H Q => ∃ p ys, xs = [.ref p] ∧ (SqL K H p ys ∨ SqT K H p ys) ∧ Q (.int ys.length) H

/-! ### sorting pairs -/
/-- the pair that stands at an address -/
def keyN (H : Hp) (a : Addr) : Nat × Nat := match H a with
  | some (.tup [.int i, .int j]) => (i.toNat, j.toNat)
  | _ => (0, 0)
theorem keyN_of {H : Hp} {a : Addr} {p : Nat × Nat} (h : PAt H a p) : keyN H a = p := by
  unfold keyN
  rw [show H a = some (.tup [.int (p.1 : Nat), .int (p.2 : Nat)]) from h]
  rfl
theorem PL.keys {H : Hp} {as : List Addr} {ps : List (Nat × Nat)} (h : PL H as ps) : ps = as.map (keyN H) ∧ ∀ a ∈ as, PAt H a (keyN H a) := by
  induction h with
  | nil => exact ⟨rfl, fun a m => absurd m (by simp)⟩
  | cons h1 _ ih =>
    rw [List.map_cons, keyN_of h1]
    refine ⟨by rw [← ih.1], fun a m => ?_⟩
    rcases List.mem_cons.mp m with e | m
    · subst e
      rw [keyN_of h1]
      exact h1
    · exact ih.2 a m
theorem PL.of_keys {H : Hp} : ∀ {as : List Addr}, (∀ a ∈ as, PAt H a (keyN H a)) → PL H as (as.map (keyN H))
  | [], _ => .nil
  | a :: r, h => .cons (h a (List.mem_cons.mpr (.inl rfl))) (PL.of_keys fun b hb => h b (List.mem_cons.mpr (.inr hb)))
def backA : V → Addr
  | .ref a => a
  | _ => 0
theorem refs_of : ∀ {ys : List V}, (∀ y ∈ ys, ∃ a, y = V.ref a) → ys = refs (ys.map backA)
  | [], _ => rfl
  | y :: r, h => by
    obtain ⟨a, rfl⟩ := h y (List.mem_cons.mpr (.inl rfl))
    show V.ref a :: r = V.ref a :: refs (r.map backA)
    rw [← refs_of fun z hz => h z (List.mem_cons.mpr (.inr hz))]
theorem back_refs (as : List Addr) : (refs as).map backA = as := by
  rw [refs, List.map_map]
  exact List.map_id' as
/-- sorted(xs), xs a list of pairs -/
theorem rd_sorted {K : PySem.W.Frag} {H : Hp} {Q : VK} {a : Addr} {as : List Addr} {ps : List (Nat × Nat)} (hs : SqL K H a (refs as)) (hP : PL H as ps)
    (h : ∀ (bs : List Addr) (qs : List (Nat × Nat)) (p : Addr), PL H bs qs → qs.Perm ps → qs.Pairwise leP → H p = none → Q (.ref p) (upd H p (.lst (refs bs)))) : rSortedPO K [.ref a] H Q := by
  obtain ⟨e1, e2⟩ := hP.keys
  refine ⟨a, refs as, fun v => (((keyN H (backA v)).1 : Nat), ((keyN H (backA v)).2 : Nat)), rfl, hs, fun x hx => ?_, fun ys p h1 h2 hp => ?_⟩
  · obtain ⟨b, hb, rfl⟩ := List.mem_map.mp hx
    exact ⟨b, rfl, e2 b hb⟩
  · have hy : ys = refs (ys.map backA) := refs_of fun y m => by
      obtain ⟨b, _, e⟩ := List.mem_map.mp (h2.perm.mem_iff.mp m)
      exact ⟨b, e.symm⟩
    have hb : (ys.map backA).Perm as := by
      have := h2.perm.map backA
      rwa [back_refs] at this
    rw [hy]
    refine h (ys.map backA) ((ys.map backA).map (keyN H)) p (PL.of_keys fun b m => e2 b (hb.mem_iff.mp m)) (by rw [e1]; exact hb.map _) ?_ hp
    rw [List.map_map, List.pairwise_map]
    refine List.Pairwise.imp ?_ h1
    intro x y hxy
    have q := SrtO.lexB_no.mp hxy
    show leP (keyN H (backA x)) (keyN H (backA y))
    unfold leP
    simp only at q
    omega
/-- sorted([x, y]) -/
theorem low_of {x y : Nat} {ns : List Int} (hp : ns.Perm [((x : Nat) : Int), ((y : Nat) : Int)]) (hs : ns.Pairwise (· ≤ ·)) : ns = [(((low x y).1 : Nat) : Int), (((low x y).2 : Nat) : Int)] := by
  have hl := hp.length_eq
  match ns, hl with
  | [a, b], _ =>
    have hab : a ≤ b := by
      have := (List.pairwise_cons.mp hs).1 b (by simp)
      exact this
    have ha := hp.mem_iff (a := a)
    have hb := hp.mem_iff (a := b)
    have c1 := hp.count_eq a
    have c2 := hp.count_eq b
    simp only [List.mem_cons, List.not_mem_nil, or_false, true_or, or_true, true_iff] at ha hb
    unfold low
    rcases ha with rfl | rfl <;> rcases hb with rfl | rfl
    · simp only [List.count_cons, List.count_nil, beq_self_eq_true, if_true] at c1
      by_cases q : ((y : Int) == (x : Int)) = true
      · have : y = x := by
          have z : (y : Int) = (x : Int) := by simpa using q
          omega
        subst this
        split <;> rfl
      · rw [if_neg q] at c1
        omega
    · rw [if_neg (by omega)]
    · by_cases q : y < x
      · rw [if_pos q]
      · have : x = y := by omega
        subst this
        rw [if_neg q]
    · simp only [List.count_cons, List.count_nil, beq_self_eq_true, if_true] at c1
      by_cases q : ((x : Int) == (y : Int)) = true
      · have : x = y := by
          have z : (x : Int) = (y : Int) := by simpa using q
          omega
        subst this
        split <;> rfl
      · rw [if_neg q] at c1
        omega
/-- at t stands a yard of n crossings, a tuple of these pairs -/
def YAt (H : Hp) (t : Addr) (n : Nat) (ps : List (Nat × Nat)) : Prop := Yard n ps ∧ ∃ as : List Addr, H t = some (.tup (refs as)) ∧ PL H as ps
theorem YAt.mono {H H' : Hp} {t : Addr} {n : Nat} {ps : List (Nat × Nat)} (h : YAt H t n ps) (k : ∀ b xs, H b = some (.tup xs) → H' b = some (.tup xs)) : YAt H' t n ps := by
  obtain ⟨y, as, h1, h2⟩ := h
  exact ⟨y, as, k _ _ h1, h2.mono k⟩

end One
end P_N0

section P_E1
set_option linter.all false
set_option maxRecDepth 100000
set_option maxHeartbeats 4000000
/-! Ranges with a step as values; what kind a value is. -/
namespace One
open PySem PySem.Spec PyProof.Rows L2
def RngO (a : Addr) (lo hi c : Int) : HO := .ext fun h => ∃ t u v, h.get? a = some { cls := .type "range", data := .fields #[.int lo t, .int hi u, .int c v] }
theorem rng_has (r : Addr) (a b c i : Int) (t u v k : Tok) :
    Meets (Builtin.«range.__contains__» ⟨[.ref r, .int i k], []⟩) (fun _ R s => s.heap.get? r = some ⟨.type "range", none, .fields #[.int a t, .int b u, .int c v], #[]⟩ ∧ R (.ok (.ret (.bool (Builtin.Range.rangePlace? a b c i).isSome))) s) :=
  .of_wp fun prog w A R s h => by
    obtain ⟨hp, g, d, tk, os⟩ := s
    obtain ⟨hl, h⟩ := h
    wp_walk
    exact ⟨_, rfl, h⟩
section
variable {X : Cx}
theorem op_in_rngC : OpR X (compareOp .In) (fun x y H Q => ∃ i a lo hi c, x = V.int i ∧ y = V.ref a ∧ H a = some (RngO a lo hi c) ∧ Q (.bl (Builtin.Range.rangePlace? lo hi c i).isSome) H) := by
  intro pins s σ H x y v u Q I rx ry h
  obtain ⟨i, a, lo, hi, c, rfl, rfl, ha, q⟩ := h
  obtain ⟨k, rfl⟩ := rx
  obtain rfl : u = Value.ref a := ry
  obtain ⟨⟨t1, t2, t3, ho⟩, _, _⟩ := I.hok a _ ha
  refine (show wpAny _ _ (do return Value.bool (← contains (Value.ref a) (Value.int i k))) _ _ s from ?_)
  exact wpAny_bind (wpAny_contains_slot (T := "range") ⟨_, ho, rfl⟩ F.slot_range_contains (call_meets F.slot_range_contains ⟨_, ho, rfl⟩ F.entry_range_contains (F.args_range_contains_2 _ _) (rng_has a lo hi c i t1 t2 t3 k)
    ⟨ho, wpAny_truthy_bool (wpAny_pure ⟨.bl _, H, I, rfl, q⟩)⟩))
theorem cr_range3 : CallR X (.type "range") (fun vs H Q => ∃ i j c, vs = [V.int i, V.int j, V.int c] ∧ (c ≠ 0 ∧ c.natAbs < 1073741824) ∧ ∀ p, H p = none → Q (.ref p) (upd H p (RngO p i j c))) := by
  intro pins s σ H vs us Q I r h
  obtain ⟨i, j, c, rfl, hc, q⟩ := h
  obtain ⟨u1, u2, u3, rfl, ri, rj, rc⟩ : ∃ u1 u2 u3, us = [u1, u2, u3] ∧ RelV (V.int i) u1 ∧ RelV (V.int j) u2 ∧ RelV (V.int c) u3 := by
    cases r with
    | cons p q =>
      cases q with
      | cons p' q' =>
        cases q' with
        | cons p'' q'' =>
          cases q''
          exact ⟨_, _, _, rfl, p, p', p''⟩
  obtain ⟨t, rfl⟩ := ri
  obtain ⟨t2, rfl⟩ := rj
  obtain ⟨t3, rfl⟩ := rc
  have hget : (s.heap.push { cls := .type "range", data := .fields #[.int i t, .int j t2, .int c t3] }).get? s.heap.objs.size = some { cls := .type "range", data := .fields #[.int i t, .int j t2, .int c t3] } := Heap.get?_push_size _ rfl
  refine call_range_3 hc.1 ?_ (.inl (PyProof.noPylong_small hc.2))
  exact ⟨.ref s.heap.objs.size, upd H s.heap.objs.size (RngO s.heap.objs.size i j c), I.laid (t' := s.toks) (fun b o e => Heap.get?_push_of_some _ e) (Nat.le_refl _) ⟨⟨t, t2, t3, hget⟩, ⟨_, hget⟩, fun h1 h2 ⟨a, b, d, e⟩ st => ⟨a, b, d, st _ e⟩⟩, rfl, q _ (I.hok.fresh (Nat.le_refl _))⟩
end
end One
end P_E1

section P_E2
set_option linter.all false
set_option maxRecDepth 100000
set_option maxHeartbeats 4000000
namespace One
open PySem PySem.Spec PyProof.Rows L2
/-! ### what kind a value is -/
inductive TV (H : Hp) : V → String → Prop
  | non : TV H .non "NoneType"
  | bl (b : Bool) : TV H (.bl b) "bool"
  | int (i : Int) : TV H (.int i) "int"
  | str (x : Str) : TV H (.str x) "str"
  | tup {a : Addr} {xs : List V} (e : H a = some (.tup xs)) : TV H (.ref a) "tuple"
  | lst {a : Addr} {xs : List V} (e : H a = some (.lst xs)) : TV H (.ref a) "list"
  | dct {a : Addr} {kvs : List (Key × V)} (e : H a = some (.dK kvs)) : TV H (.ref a) "dict"
theorem TV.tyx {K : PySem.W.Frag} {H : Hp} {v : V} {T : String} (h : TV H v T) : TyX K H v (.type T) := by
  cases h with
  | non => exact .base .non
  | bl b => exact .base (.bl b)
  | int i => exact .base (.int i)
  | str x => exact .base (.str x)
  | tup e => exact .base (.tup e)
  | lst e => exact .base (.lst e)
  | dct e => exact .base (.dK e)
def isI : V → Bool
  | .int _ => true
  | _ => false
def belowV (v : V) (n : Int) : Bool := match v with
  | .int i => decide (0 ≤ i) && decide (i < n)
  | _ => false
theorem nof {p : Prop} (z : false = true) : p := by cases z
theorem noT {p : Prop} (z : true = false) : p := by cases z
theorem TV.kInt {K : PySem.W.Frag} {H : Hp} {v : V} {T : String} (h : TV H v T) : ∃ b, PySem.W.kitOne K (.type T) (.type "int") = some b ∧ (b = true → ∃ b2, PySem.W.kitOne K (.type T) (.type "bool") = some b2 ∧ isI v = !b2) ∧ (b = false → isI v = false) := by
  cases h with
  | non => exact ⟨false, kit_ty (by decide +kernel), nof, fun _ => rfl⟩
  | bl b => exact ⟨true, kit_ty (by decide +kernel), fun _ => ⟨true, kit_ty (by decide +kernel), rfl⟩, noT⟩
  | int i => exact ⟨true, kit_ty (by decide +kernel), fun _ => ⟨false, kit_ty (by decide +kernel), rfl⟩, noT⟩
  | str x => exact ⟨false, kit_ty (by decide +kernel), nof, fun _ => rfl⟩
  | tup e => exact ⟨false, kit_ty (by decide +kernel), nof, fun _ => rfl⟩
  | lst e => exact ⟨false, kit_ty (by decide +kernel), nof, fun _ => rfl⟩
  | dct e => exact ⟨false, kit_ty (by decide +kernel), nof, fun _ => rfl⟩
def isTup (T : String) : Bool := T == "tuple"
theorem TV.kTup {K : PySem.W.Frag} {H : Hp} {v : V} {T : String} (h : TV H v T) : PySem.W.kitOne K (.type T) (.type "tuple") = some (isTup T) := by
  cases h <;> exact kit_ty (by decide +kernel)
/-- the constants of the program's top -/
structure TC (mg : Str → Option Value) : Prop where
  most : ∃ t, mg "MOST_CROSSINGS" = some (.int 40 t)
  places : ∃ t, mg "PLACES" = some (.int 4 t)
abbrev sIsNum : Stmt := top 23
abbrev sIsBelow : Stmt := top 24
abbrev sCanBe : Stmt := top 33
abbrev sIsLine : Stmt := top 34
theorem scIsNum : FnScope ["thing"] ["thing"] (defScope sIsNum) := ⟨rfl, rfl, rfl, by decide +kernel, rfl, by decide +kernel, by decide +kernel⟩
theorem scIsBelow : FnScope ["thing", "many"] ["thing", "many"] (defScope sIsBelow) := ⟨rfl, rfl, rfl, by decide +kernel, rfl, by decide +kernel, by decide +kernel⟩
theorem scCanBe : FnScope ["many"] ["many"] (defScope sCanBe) := ⟨rfl, rfl, rfl, by decide +kernel, rfl, by decide +kernel, by decide +kernel⟩
theorem scIsLine : FnScope ["thing", "many_ends", "low", "high"] ["thing", "many_ends"] (defScope sIsLine) := ⟨rfl, rfl, rfl, by decide +kernel, rfl, by decide +kernel, by decide +kernel⟩
def spIsNum : Sp := fun vs H Q _ => ∃ (v : V) (T : String), vs = [v] ∧ TV H v T ∧ Q (.bl (isI v)) H
def spIsBelow : Sp := fun vs H Q _ => ∃ (v : V) (n : Int) (T : String), vs = [v, .int n] ∧ TV H v T ∧ Q (.bl (belowV v n)) H
/-- as many lines as a yard may have -/
def canBe (n : Int) : Bool := decide (2 ≤ n) && decide (n ≤ 80) && decide (n % 2 = 0)
def spCanBe : Sp := fun vs H Q _ => ∃ n : Int, vs = [.int n] ∧ ∀ H', Same H H' → Q (.bl (canBe n)) H'
section
variable {P : Program} {w : World} {K : PySem.W.Frag} {mg : Str → Option Value} {base : Heap}
theorem ok_isnum {f : Addr} {fd : FuncData} (F : Fun K "is_number" "is_number" sIsNum f fd) (T : TB mg) : FnOk P w K mg base CX0 1 f fd ["thing"] spIsNum := by
  refine F.ok scIsNum (fun vs H Q E h => ?_) (fun cdv A outer s H vs Q E hr h => ?_)
  · obtain ⟨v, _, rfl, _⟩ := h
    rfl
  · obtain ⟨v, ty, rfl, hv, k⟩ := h
    refine ⟨_, pss_one (ps_ret (pe_and (pe_callB call_isi (by rfl) T.isinstance boot_isinstance (pa_cons (pv 0) (pa_cons (pe_bltn (v := .ty "int") (by rfl) T.int PyProof.Rows.boot_int rfl) pa_nil)))
      (pe_one (pe_not (pe_callB call_isi (by rfl) T.isinstance boot_isinstance (pa_cons (pv 0) (pa_cons (pe_bltn (v := .ty "bool") (by rfl) T.bool (by decide +kernel) rfl) pa_nil))))))), ?_⟩
    obtain ⟨b, kb, h1, h2⟩ := hv.kInt (K := K)
    refine ⟨_, rfl, v, _, _, _, b, rfl, .ty _, hv.tyx, kb, b, rfl, ?_⟩
    cases b with
    | true =>
      obtain ⟨b2, kb2, e⟩ := h1 rfl
      refine iteT ⟨_, rfl, v, _, _, _, b2, rfl, .ty _, hv.tyx, kb2, b2, rfl, ?_⟩
      rw [← e]
      exact k
    | false =>
      refine iteF ?_
      rw [h2 rfl] at k
      exact k
theorem ok_isbelow {f fN : Addr} {fd fdN : FuncData} (F : Fun K "is_below" "is_below" sIsBelow f fd) (N : Cal K mg "is_number" fN fdN ["thing"]) (GN : FnOk P w K mg base CX0 1 fN fdN ["thing"] spIsNum) : FnOk P w K mg base CX0 2 f fd ["thing", "many"] spIsBelow := by
  refine F.ok scIsBelow (fun vs H Q E h => ?_) (fun cdv A outer s H vs Q E hr h => ?_)
  · obtain ⟨v, n, _, rfl, _⟩ := h
    rfl
  · obtain ⟨v, n, ty, rfl, hv, k⟩ := h
    refine ⟨_, pss_one (ps_ret (pe_and (pe_call GN hr rfl N.g N.kp N.b .nil pass0 (pa_cons (pv 0) pa_nil)) (pe_one (pe_chain op_le op_lt pe_int (pv 0) (pv 1))))), ?_⟩
    refine ⟨_, rfl, v, ty, rfl, hv, _, rfl, ?_⟩
    cases v with
    | int i =>
      refine iteT ⟨_, rfl, _, _, rfl, rfl, _, rfl, ?_⟩
      by_cases h0 : 0 ≤ i
      · rw [if_pos (decide_eq_true h0)]
        refine ⟨_, rfl, _, _, rfl, rfl, ?_⟩
        have e : belowV (.int i) n = decide (i < n) := by
          show (decide (0 ≤ i) && decide (i < n)) = _
          rw [decide_eq_true h0, Bool.true_and]
        rw [e] at k
        exact k
      · rw [if_neg (by rw [decide_eq_false h0]; decide)]
        have e : belowV (.int i) n = false := by
          show (decide (0 ≤ i) && decide (i < n)) = _
          rw [decide_eq_false h0, Bool.false_and]
        rw [e] at k
        exact k
    | _ => exact iteF k
theorem ok_canbe {f : Addr} {fd : FuncData} (F : Fun K "can_be_many_lines" "can_be_many_lines" sCanBe f fd) (T : TB mg) (C : TC mg) : FnOk P w K mg base CX0 1 f fd ["many"] spCanBe := by
  refine F.ok scCanBe (fun vs H Q E h => ?_) (fun cdv A outer s H vs Q E hr h => ?_)
  · obtain ⟨n, rfl, _⟩ := h
    rfl
  · obtain ⟨n, rfl, k⟩ := h
    obtain ⟨t, ht⟩ := C.most
    refine ⟨_, pss_one (ps_ret (pe_cmpR op_in_rngC (pv 0) (pe_callTy cr_range3 (by rfl) T.range boot_range (pa_cons pe_int (pa_cons (pe_op op_add (pe_op op_mul pe_int (pe_glob (v := .int 40) rfl ht ⟨_, rfl⟩)) pe_int) (pa_cons pe_int pa_nil)))) (by rfl))), ?_⟩
    refine ⟨_, rfl, _, _, rfl, rfl, .inl ⟨by decide, by decide⟩, _, _, rfl, rfl, _, _, _, rfl, ⟨by decide, by decide⟩, fun p hp => ?_⟩
    refine ⟨n, p, _, _, _, rfl, rfl, upd_same, ?_⟩
    have e : (Builtin.Range.rangePlace? 2 (2 * 40 + 1) 2 n).isSome = canBe n := by
      unfold Builtin.Range.rangePlace? canBe
      rw [Bool.eq_iff_iff]
      simp only [show (2 : Int) > 0 from by decide, if_true, Bool.and_eq_true, decide_eq_true_eq, beq_iff_eq]
      constructor
      · intro q
        split at q
        · omega
        · cases q
      · intro q
        rw [if_pos (by omega)]
        rfl
    show Q (.bl (Builtin.Range.rangePlace? 2 (2 * 40 + 1) 2 n).isSome) _
    rw [e]
    exact k _ (Same.new hp)
end
end One
end P_E2

section P_M3
set_option linter.all false
namespace One
/-! ### going to all that is beside -/
def R (r : List Bool) (i : Nat) : Prop := r[i]? = some true
structure Dfs (s n : Nat) (f : Nat → List Nat) (r : List Bool) (w : List Nat) (cur : Nat → Prop) : Prop where
  len : r.length = n
  z : R r s
  wt : ∀ i ∈ w, R r i
  cl : ∀ i, R r i → i ∈ w ∨ cur i ∨ ∀ j ∈ f i, R r j
  so : ∀ P : Nat → Prop, (∀ i j, j ∈ f i → P i → P j) → P s → ∀ i, R r i → P i
theorem R_set {r : List Bool} {i j : Nat} (h : R r i) : R (r.set j true) i := by
  unfold R at *
  by_cases e : j = i
  · subst e
    have : j < r.length := (List.getElem?_eq_some_iff.mp h).1
    rw [List.getElem?_set_self this]
  · rw [List.getElem?_set_ne e]
    exact h
theorem R_new {r : List Bool} {j : Nat} (h : j < r.length) : R (r.set j true) j := by
  unfold R
  rw [List.getElem?_set_self h]
theorem R_back {r : List Bool} {i j : Nat} (h : R (r.set j true) i) : i = j ∨ R r i := by
  unfold R at *
  by_cases e : j = i
  · exact .inl e.symm
  · rw [List.getElem?_set_ne e] at h
    exact .inr h
theorem dfs_start {s n : Nat} (f : Nat → List Nat) (hn : s < n) : Dfs s n f ((List.replicate n false).set s true) [s] (fun _ => False) := by
  have h0 : s < (List.replicate n false).length := by rw [List.length_replicate]; exact hn
  have back : ∀ i, R ((List.replicate n false).set s true) i → i = s := fun i h => by
    rcases R_back h with e | e
    · exact e
    · unfold R at e
      have hi := (List.getElem?_eq_some_iff.mp e).2
      simp at hi
  refine ⟨by simp, R_new h0, fun i hi => ?_, fun i hi => .inl ?_, fun P _ h i hi => ?_⟩
  · rw [List.mem_singleton.mp hi]
    exact R_new h0
  · rw [back i hi]
    exact List.mem_singleton.mpr rfl
  · rw [back i hi]
    exact h
theorem dfs_pop {s n c : Nat} {f : Nat → List Nat} {r : List Bool} {w : List Nat} (d : Dfs s n f r (w ++ [c]) fun _ => False) : Dfs s n f r w (· = c) := by
  refine ⟨d.len, d.z, fun i hi => d.wt i (List.mem_append.mpr (.inl hi)), fun i hi => ?_, d.so⟩
  rcases d.cl i hi with h | h | h
  · rcases List.mem_append.mp h with h | h
    · exact .inl h
    · exact .inr (.inl (List.mem_singleton.mp h))
  · exact h.elim
  · exact .inr (.inr h)
theorem dfs_mark {s n c j : Nat} {f : Nat → List Nat} {r : List Bool} {w : List Nat} (d : Dfs s n f r w (· = c)) (hc : R r c) (hj : j ∈ f c) (hlt : j < n) : Dfs s n f (r.set j true) (w ++ [j]) (· = c) := by
  have hjl : j < r.length := by rw [d.len]; exact hlt
  refine ⟨by rw [List.length_set]; exact d.len, R_set d.z, fun i hi => ?_, fun i hi => ?_, fun P hP h0 i hi => ?_⟩
  · rcases List.mem_append.mp hi with h | h
    · exact R_set (d.wt i h)
    · rw [List.mem_singleton.mp h]
      exact R_new hjl
  · rcases R_back hi with e | h
    · exact .inl (List.mem_append.mpr (.inr (List.mem_singleton.mpr e)))
    · rcases d.cl i h with q | q | q
      · exact .inl (List.mem_append.mpr (.inl q))
      · exact .inr (.inl q)
      · exact .inr (.inr fun k hk => R_set (q k hk))
  · rcases R_back hi with e | h
    · rw [e]
      exact hP c j hj (d.so P hP h0 c hc)
    · exact d.so P hP h0 i h
theorem dfs_finish {s n c : Nat} {f : Nat → List Nat} {r : List Bool} {w : List Nat} (d : Dfs s n f r w (· = c)) (h : ∀ j ∈ f c, R r j) : Dfs s n f r w fun _ => False := by
  refine ⟨d.len, d.z, d.wt, fun i hi => ?_, d.so⟩
  rcases d.cl i hi with q | q | q
  · exact .inl q
  · subst q
    exact .inr (.inr h)
  · exact .inr (.inr q)
theorem count_set {r : List Bool} {j : Nat} (h : r[j]? = some false) : (r.set j true).count false + 1 = r.count false := by
  induction r generalizing j with
  | nil => simp at h
  | cons a r ih =>
    cases j with
    | zero =>
      have e : a = false := Option.some.inj h
      subst e
      simp
    | succ j =>
      have := ih (j := j) (by simpa using h)
      show ((a :: r.set j true).count false) + 1 = (a :: r).count false
      rw [List.count_cons, List.count_cons]
      omega
/-- what is beside each crossing by these lines -/
def Beside (ps : List (Nat × Nat)) (f : Nat → List Nat) : Prop := ∀ i j, j ∈ f i ↔ ∃ p ∈ ps, (p.1 / 4 = i ∧ p.2 / 4 = j) ∨ (p.2 / 4 = i ∧ p.1 / 4 = j)
theorem dfs_whole {n : Nat} {ps : List (Nat × Nat)} {f : Nat → List Nat} {r : List Bool} (hb : Beside ps f) (d : Dfs 0 n f r [] fun _ => False) : r.all id = true ↔ Whole n ps := by
  constructor
  · intro h P hP h0 c hc
    refine d.so P (fun i j hj hi => ?_) h0 c ?_
    · obtain ⟨p, hp, q⟩ := (hb i j).mp hj
      rcases q with ⟨q1, q2⟩ | ⟨q1, q2⟩
      · rw [← q2]
        rw [← q1] at hi
        exact (hP p hp).mp hi
      · rw [← q2]
        rw [← q1] at hi
        exact (hP p hp).mpr hi
    · have hl : c < r.length := by rw [d.len]; exact hc
      unfold R
      rw [List.getElem?_eq_getElem hl]
      have := List.all_eq_true.mp h r[c] (List.getElem_mem hl)
      exact congrArg some this
  · intro w
    have all := w (fun i => R r i) (fun p hp => ?_) d.z
    · refine List.all_eq_true.mpr fun b hb' => ?_
      obtain ⟨i, hi, e⟩ := List.mem_iff_getElem.mp hb'
      have q := all i (by rw [← d.len]; exact hi)
      unfold R at q
      rw [List.getElem?_eq_getElem hi, e] at q
      exact Option.some.inj q
    · have clo : ∀ i j, j ∈ f i → R r i → R r j := fun i j hj hi => by
        rcases d.cl i hi with q | q | q
        · exact absurd q (by simp)
        · exact q.elim
        · exact q j hj
      exact ⟨clo _ _ ((hb _ _).mpr ⟨p, hp, .inl ⟨rfl, rfl⟩⟩), clo _ _ ((hb _ _).mpr ⟨p, hp, .inr ⟨rfl, rfl⟩⟩)⟩
/-- the lists with one more at one of them -/
def addTo (f : Nat → List Nat) (i x : Nat) : Nat → List Nat := fun k => if k = i then f k ++ [x] else f k
theorem beside_nil : Beside [] fun _ => [] := fun i j => ⟨fun h => absurd h (by simp), fun ⟨p, hp, _⟩ => absurd hp (by simp)⟩
theorem mem_addTo {f : Nat → List Nat} {i x k j : Nat} : j ∈ addTo f i x k ↔ j ∈ f k ∨ (k = i ∧ j = x) := by
  unfold addTo
  by_cases e : k = i
  · rw [if_pos e, List.mem_append, List.mem_singleton]
    exact or_congr Iff.rfl ⟨fun h => ⟨e, h⟩, fun h => h.2⟩
  · rw [if_neg e]
    exact ⟨.inl, fun h => h.elim id fun q => absurd q.1 e⟩
theorem beside_add {ps : List (Nat × Nat)} {f : Nat → List Nat} (p : Nat × Nat) (h : Beside ps f) : Beside (ps ++ [p]) (addTo (addTo f (p.1 / 4) (p.2 / 4)) (p.2 / 4) (p.1 / 4)) := by
  intro i j
  rw [mem_addTo, mem_addTo, h i j]
  constructor
  · rintro ((⟨q, hq, z⟩ | ⟨rfl, rfl⟩) | ⟨rfl, rfl⟩)
    · exact ⟨q, List.mem_append.mpr (.inl hq), z⟩
    · exact ⟨p, List.mem_append.mpr (.inr (List.mem_singleton.mpr rfl)), .inl ⟨rfl, rfl⟩⟩
    · exact ⟨p, List.mem_append.mpr (.inr (List.mem_singleton.mpr rfl)), .inr ⟨rfl, rfl⟩⟩
  · rintro ⟨q, hq, z⟩
    rcases List.mem_append.mp hq with hq | hq
    · exact .inl (.inl ⟨q, hq, z⟩)
    · rw [List.mem_singleton.mp hq] at z
      rcases z with ⟨a, b⟩ | ⟨a, b⟩
      · exact .inl (.inr ⟨a.symm, b.symm⟩)
      · exact .inr ⟨a.symm, b.symm⟩
end One
end P_M3

section P_E3
set_option linter.all false
set_option maxRecDepth 100000
set_option maxHeartbeats 4000000
namespace One
open PySem PySem.Spec PyProof.Rows L2
abbrev sIsWhole : Stmt := top 35
abbrev nWhole : List Str := ["lines"]
theorem scIsWhole : FnScope nWhole ["lines"] (defScope sIsWhole) := ⟨rfl, rfl, rfl, by decide +kernel, rfl, by decide +kernel, by decide +kernel⟩
def ltB : V → V → Bool
  | .int a, .int b => decide (a < b)
  | _, _ => false
def lineB (xs : List V) (n : Int) : Bool := match xs with
  | [x, y] => belowV x n && belowV y n && ltB x y
  | _ => false
def spIsLine : Sp := fun vs H Q _ => ∃ (v : V) (n : Int), vs = [v, .int n] ∧ ((∃ T, TV H v T ∧ isTup T = false ∧ Q (.bl false) H) ∨ ∃ (a : Addr) (xs : List V), v = .ref a ∧ H a = some (.tup xs) ∧ (∀ x ∈ xs, ∃ T, TV H x T) ∧ Q (.bl (lineB xs n)) H)
/-- lines that are asked whether they hang together -/
structure Asked (n : Nat) (ps : List (Nat × Nat)) : Prop where
  pos : 0 < n
  len : ps.length = 2 * n
  lt : ∀ p ∈ ps, p.1 < 4 * n ∧ p.2 < 4 * n
def spIsWhole : Sp := fun vs H Q _ => ∃ (t : Addr) (n : Nat) (as : List Addr) (ps : List (Nat × Nat)), vs = [.ref t] ∧ H t = some (.tup (refs as)) ∧ PL H as ps ∧ Asked n ps ∧ n ≤ 100 ∧
  ∀ (H' : Hp) (b : Bool), Same H H' → (b = true ↔ Whole n ps) → Q (.bl b) H'
section
variable {P : Program} {w : World} {K : PySem.W.Frag} {mg : Str → Option Value} {base : Heap}
theorem ok_isline {f fB : Addr} {fd fdB : FuncData} (F : Fun K "is_line" "is_line" sIsLine f fd) (T : TB mg) (B : Cal K mg "is_below" fB fdB ["thing", "many"]) (GB : FnOk P w K mg base CX0 2 fB fdB ["thing", "many"] spIsBelow) :
    FnOk P w K mg base CX0 3 f fd ["thing", "many_ends"] spIsLine := by
  refine F.ok scIsLine (fun vs H Q E h => ?_) (fun cdv A outer s H vs Q E hr h => ?_)
  · obtain ⟨v, n, rfl, _⟩ := h
    rfl
  · obtain ⟨v, n, rfl, h⟩ := h
    have nd := scIsLine.nd
    refine ⟨_, pss_cons (ps_if (PW.pt (pw_or (pt_not (pt_val (pe_callB call_isi (by rfl) T.isinstance boot_isinstance (pa_cons (pv 0) (pa_cons (pe_bltn (v := .ty "tuple") (by rfl) T.tuple boot_tuple rfl) pa_nil)))))
        (pw_or1 (pt_cmpR op_ne (pe_callB call_len_seq (by rfl) T.len PySem.boot_len (pa_cons (pv 0) pa_nil)) pe_int (nomark _))))) (pss_one (ps_ret pe_bl)) pss_nil)
      (pss_cons (ps_asg (pv 0) (pg_tup rfl (pgs_cons (pg_name (i := 2) nd rfl (Or.inl rfl)) (pgs_cons (pg_name (i := 3) nd rfl (Or.inl rfl)) pgs_nil))))
      (pss_one (ps_ret (pe_and (pe_call GB hr rfl B.g B.kp B.b .nil pass0 (pa_cons (pv 2) (pa_cons (pv 1) pa_nil))) (pe_and (pe_call GB hr rfl B.g B.kp B.b .nil pass0 (pa_cons (pv 3) (pa_cons (pv 1) pa_nil)))
        (pe_one (pe_cmpR op_lt (pv 2) (pv 3) (nomark _)))))))), ?_⟩
    rcases h with ⟨ty, hv, hT, k⟩ | ⟨a, xs, rfl, ha, hx, k⟩
    · refine ⟨_, rfl, v, _, _, _, _, rfl, .ty _, hv.tyx, hv.kTup, _, rfl, ?_⟩
      rw [hT]
      exact iteT k
    · refine ⟨_, rfl, _, _, _, _, _, rfl, .ty _, (TV.tup ha).tyx, (TV.tup ha).kTup, _, rfl, ?_⟩
      refine iteF ⟨_, rfl, a, _, rfl, .inr (SqT.of ha), rfl, _, rfl, ?_⟩
      refine ite2 (fun hne => ?_) (fun heq => ?_)
      · have e : lineB xs n = false := by
          match xs, hne with
          | [], _ => rfl
          | [_], _ => rfl
          | [_, _], hne => simp at hne
          | _ :: _ :: _ :: _, _ => rfl
        rw [e] at k
        exact k
      · have hl : xs.length = 2 := by
          have q : ((xs.length : Nat) : Int) = 2 := by simpa using heq
          omega
        match xs, hl, hx, ha, k with
        | [x, y], _, hx, ha, k =>
          obtain ⟨t1, h1⟩ := hx x (by simp)
          obtain ⟨t2, h2⟩ := hx y (by simp)
          refine ⟨_, rfl, a, _, rfl, SqT.of ha, rfl, _, _, rfl, _, _, rfl, rfl, ?_⟩
          refine ⟨_, rfl, _, rfl, x, n, t1, rfl, h1, _, rfl, ?_⟩
          have k : Q (.bl (belowV x n && belowV y n && ltB x y)) H := k
          refine ite2 (fun b1 => ?_) (fun b1 => ?_)
          · refine ⟨_, rfl, _, rfl, y, n, t2, rfl, h2, _, rfl, ?_⟩
            refine ite2 (fun b2 => ?_) (fun b2 => ?_)
            · rw [b1, b2] at k
              cases x with
              | int i =>
                cases y with
                | int j => exact ⟨_, rfl, _, rfl, _, _, rfl, rfl, k⟩
                | _ => cases b2
              | _ => cases b1
            · rw [b1, Bool.eq_false_iff.mpr b2] at k
              exact k
          · rw [Bool.eq_false_iff.mpr b1] at k
            exact k
end
end One
end P_E3

section P_R1
set_option linter.all false
set_option maxRecDepth 100000
set_option maxHeartbeats 8000000
namespace One
open PySem PySem.Spec PyProof.Rows L2
/-- a list of lists of numbers at B, at bl, f says what stands in each; all made behind H0 -/
structure BSt (H0 H : Hp) (B : Addr) (bl : List Addr) (f : Nat → List Nat) : Prop where
  same : Same H0 H
  b : H B = some (.lst (refs bl))
  at_ : ∀ i a, bl[i]? = some a → H a = some (.lst (nats (f i)))
  new : ∀ a ∈ bl, H0 a = none
  nd : bl.Nodup
  nb : B ∉ bl
theorem BSt.keep {H0 H H' : Hp} {B : Addr} {bl : List Addr} {f : Nat → List Nat} (s : BSt H0 H B bl f) (k : Same H H') : BSt H0 H' B bl f :=
  ⟨s.same.trans k, k _ _ s.b, fun i a h => k _ _ (s.at_ i a h), s.new, s.nd, s.nb⟩
theorem BSt.wr {H0 H : Hp} {B q : Addr} {bl : List Addr} {f : Nat → List Nat} {o : HO} (s : BSt H0 H B bl f) (h0 : H0 q = none) (h1 : q ≠ B) (h2 : q ∉ bl) : BSt H0 (upd H q o) B bl f := by
  refine ⟨fun b u e => ?_, by rw [upd_ne (Ne.symm h1)]; exact s.b, fun i a h => ?_, s.new, s.nd, s.nb⟩
  · rw [upd_ne (ne_of_none e h0)]
    exact s.same _ _ e
  · rw [upd_ne (fun z => h2 (by rw [← z]; exact List.mem_of_getElem? h))]
    exact s.at_ i a h
theorem BSt.add {H0 H : Hp} {B a : Addr} {bl : List Addr} {f : Nat → List Nat} {i x : Nat} (s : BSt H0 H B bl f) (ha : bl[i]? = some a) : BSt H0 (upd H a (.lst (nats (f i) ++ [V.int (x : Nat)]))) B bl (addTo f i x) := by
  have hm := List.mem_of_getElem? ha
  refine ⟨fun b u e => ?_, by rw [upd_ne (fun z => s.nb (by rw [z]; exact hm))]; exact s.b, fun j c h => ?_, s.new, s.nd, s.nb⟩
  · rw [upd_ne (ne_of_none e (s.new a hm))]
    exact s.same _ _ e
  · unfold addTo
    by_cases e : j = i
    · subst e
      rw [ha] at h
      cases h
      rw [if_pos rfl, upd_same, nats_app]
      rfl
    · rw [if_neg e, upd_ne (fun z => e (nd_ix s.nd h (by rw [z]; exact ha)))]
      exact s.at_ j c h
def lenAt (H : Hp) (a : Addr) : Nat := match H a with
  | some (.lst xs) => xs.length
  | _ => 0
def noAt (H : Hp) (a : Addr) : Nat := match H a with
  | some (.lst xs) => xs.countP fun v => match v with | .bl b => !b | _ => false
  | _ => 0
theorem lenAt_of {H : Hp} {a : Addr} {ns : List Nat} (h : H a = some (.lst (nats ns))) : lenAt H a = ns.length := by
  unfold lenAt
  rw [h]
  exact List.length_map _
theorem noAt_of {H : Hp} {a : Addr} {r : List Bool} (h : H a = some (.lst (r.map V.bl))) : noAt H a = r.count false := by
  unfold noAt
  rw [h]
  show (r.map V.bl).countP _ = _
  rw [List.countP_map]
  refine List.countP_congr fun b _ => ?_
  cases b <;> simp
theorem take_ends {H : Hp} {ps : List (Nat × Nat)} {i : Nat} {p : Nat × Nat} (h : ps[i]? = some p) : ps.take (i + 1) = ps.take i ++ [p] := by
  rw [List.take_succ, h]
  rfl
theorem fdiv4 (x : Nat) : ((x : Nat) : Int) / 4 = ((x / 4 : Nat) : Int) := by omega
theorem nodup_app {α : Type} {l : List α} {x : α} (h : l.Nodup) (hx : x ∉ l) : (l ++ [x]).Nodup := by
  refine List.nodup_append.mpr ⟨h, by simp, fun a ha b hb => ?_⟩
  rw [List.mem_singleton.mp hb]
  exact fun e => hx (e ▸ ha)
theorem ix_nat {n j : Nat} (h : j < n) : ixN n ((j : Nat) : Int) = some j := by
  unfold ixN
  rw [if_pos (by omega), if_pos (by omega)]
  rfl
theorem flat_rep {α : Type} (x : α) : ∀ n : Nat, (List.replicate n [x]).flatten = List.replicate n x
  | 0 => rfl
  | n + 1 => by
    rw [List.replicate_succ, List.flatten_cons, flat_rep x n, List.replicate_succ]
    rfl
abbrev sBesideX : Stmt := top 36
abbrev nBesideX : List Str := ["lines", "many", "beside", "low", "high", "_"]
theorem scBesideX : FnScope nBesideX ["lines", "many"] (defScope sBesideX) := ⟨rfl, rfl, rfl, by decide +kernel, rfl, by decide +kernel, by decide +kernel⟩
/-- what is beside each of n crossings by these lines, told as lists in a list, all new -/
def spBesideX : Sp := fun vs H Q _ => ∃ (t : Addr) (n : Nat) (as : List Addr) (ps : List (Nat × Nat)), vs = [.ref t, .int (n : Nat)] ∧ H t = some (.tup (refs as)) ∧ PL H as ps ∧ (∀ p ∈ ps, p.1 < 4 * n ∧ p.2 < 4 * n) ∧ n ≤ 200 ∧ ps.length ≤ 400 ∧
  ∀ (H' : Hp) (D : Addr) (bl : List Addr) (f : Nat → List Nat), BSt H H' D bl f → H D = none → bl.length = n → Beside ps f → Q (.ref D) H'
section
variable {P : Program} {w : World} {K : PySem.W.Frag} {mg : Str → Option Value} {base : Heap}
theorem ok_besideX {f : Addr} {fd : FuncData} (F : Fun K "crossings_beside" "crossings_beside" sBesideX f fd) (T : TB mg) (C : TC mg) : FnOk P w K mg base CX0 1 f fd ["lines", "many"] spBesideX := by
  refine F.ok scBesideX (fun vs H Q E h => ?_) (fun cdv A outer s H vs Q E hr h => ?_)
  · obtain ⟨t, n, as, ps, rfl, _⟩ := h
    rfl
  · obtain ⟨t, n, as, ps, rfl, ht, hP, hA, hn, hpl, k⟩ := h
    have nd := scBesideX.nd
    obtain ⟨t4, ht4⟩ := C.places
    refine ⟨_, pss_cons (ps_setLc (i := 2) (own := [("_", 5)]) (g := gName 5) (tt := tYes) (te := tLst tNil) rfl nd rfl rfl (sw_true rfl rfl rfl (by decide +kernel)) (pi_range1 (by rfl) T.range (pa_cons (pv 1) pa_nil)) (blkOk_by (N := nBesideX) (sc := defScope sBesideX) (by decide +kernel))
        (fun _ _ _ _ _ => pg_name (i := 5) nd rfl (Or.inl rfl)) (fun _ _ _ _ _ => pts_nil) (fun _ _ _ _ _ => pe_lst pa_nil))
      (pss_cons (ps_for PassesOwn.never rfl (pi_tup (pv 0)) (pg_tup rfl (pgs_cons (pg_name (i := 3) nd rfl (Or.inl rfl)) (pgs_cons (pg_name (i := 4) nd rfl (Or.inl rfl)) pgs_nil)))
        (pss_cons (ps_expr (pe_bm PySem.F.plainAttrs_list PySem.F.slot_list_append PySem.F.type_list_append mt_append (pe_ix ix_list (pv 2) (pe_op op_fdiv (pv 3) (pe_glob (v := .int 4) rfl ht4 ⟨_, rfl⟩)) (fun _ _ => rfl)) (pa_cons (pe_op op_fdiv (pv 4) (pe_glob (v := .int 4) rfl ht4 ⟨_, rfl⟩)) pa_nil)))
        (pss_one (ps_expr (pe_bm PySem.F.plainAttrs_list PySem.F.slot_list_append PySem.F.type_list_append mt_append (pe_ix ix_list (pv 2) (pe_op op_fdiv (pv 4) (pe_glob (v := .int 4) rfl ht4 ⟨_, rfl⟩)) (fun _ _ => rfl)) (pa_cons (pe_op op_fdiv (pv 3) (pe_glob (v := .int 4) rfl ht4 ⟨_, rfl⟩)) pa_nil))))))
      (pss_one (ps_ret (pv 2)))), ?_⟩
    have hal : as.length = ps.length := hP.len
    have nl : (refs as).length = as.length := List.length_map _
    refine ⟨_, rfl, n, rfl, by omega, by omega, fun D hD => ?_⟩
    refine lc_it (walk_range (lo := 0) (n := ((n : Nat) : Int).toNat)) (fun i H6 => ∃ bl : List Addr, BSt H H6 D bl (fun _ => []) ∧ bl.length = i) ⟨[], ⟨Same.new hD, upd_same, fun i a h => absurd h (by simp), fun a h => absurd h (by simp), .nil, by simp⟩, rfl⟩ (fun _ _ _ _ => trivial) ?_ ?_
    · rintro i x H6 H7 hi ⟨bl, hB, hl⟩ ⟨rfl, rfl⟩
      refine ⟨rfl, yes ⟨Nat.zero_le _, fun l hl' => ⟨_, (Same.new hl') _ _ hB.b, small1000 ?_, bl ++ [l], ?_, ?_⟩⟩⟩
      · rw [List.length_map]
        omega
      · have s1 := Same.new (o := .lst []) hl'
        have h0 : H l = none := hB.same.free hl'
        have nlD : l ≠ D := (ne_of_none hB.b hl').symm
        have nlb : l ∉ bl := fun m => by
          obtain ⟨j, hj, e⟩ := List.mem_iff_getElem.mp m
          have q := hB.at_ j l (by rw [List.getElem?_eq_getElem hj, e])
          rw [hl'] at q
          cases q
        refine ⟨fun b u e => ?_, by rw [upd_same, refs_app]; rfl, fun j a h => ?_, fun a m => ?_, nodup_app hB.nd nlb, fun m => ?_⟩
        · rw [upd_ne (ne_of_none e hD)]
          exact s1 _ _ (hB.same _ _ e)
        · by_cases hj : j < bl.length
          · rw [List.getElem?_append_left hj] at h
            have q := hB.at_ j a h
            rw [upd_ne (fun z => hB.nb (by rw [← z]; exact List.mem_of_getElem? h))]
            exact s1 _ _ q
          · rw [List.getElem?_append_right (by omega)] at h
            have ea : a = l := by
              have := List.mem_of_getElem? h
              exact List.mem_singleton.mp this
            rw [ea, upd_ne nlD, upd_same]
            rfl
        · rcases List.mem_append.mp m with m | m
          · exact hB.new a m
          · rw [List.mem_singleton.mp m]
            exact h0
        · rcases List.mem_append.mp m with m | m
          · exact hB.nb m
          · exact nlD (List.mem_singleton.mp m).symm
      · rw [List.length_append, hl]
        rfl
    · rintro H6 ⟨bl, hB, hl⟩
      have hl : bl.length = n := by rw [hl]; omega
      refine ⟨_, rfl, t, rfl, ⟨_, SqT.of (hB.same _ _ ht)⟩, for_tup (K := K) (a := t) (xs := refs as) (fun i σ H7 => ∃ (f : Nat → List Nat) (v2 v3 : Option V), σ = [some (.ref t), some (.int (n : Nat)), some (.ref D), v2, v3, none] ∧ BSt H H7 D bl f ∧ Beside (ps.take i) f ∧ ∀ j, (f j).length ≤ 2 * i)
        ⟨fun _ => [], none, none, rfl, hB, beside_nil, fun _ => Nat.zero_le _⟩ (fun i σ H7 _ ⟨f, _, _, _, h, _⟩ => SqT.of (h.same _ _ ht)) ?_ ?_⟩
      · rintro i x σ H7 hx ⟨f, v2, v3, rfl, hB7, hbs, hfl⟩
        obtain ⟨a, ha⟩ : ∃ a, as[i]? = some a := by
          rw [List.getElem?_map] at hx
          cases e : as[i]? with
          | none =>
            rw [e] at hx
            cases hx
          | some a => exact ⟨a, rfl⟩
        rw [List.getElem?_map, ha] at hx
        cases hx
        obtain ⟨p, hp, pa⟩ := hP.got ha
        have hi : i < ps.length := by
          have := (List.getElem?_eq_some_iff.mp ha).1
          omega
        obtain ⟨q1, q2⟩ := hA p (List.mem_of_getElem? hp)
        have g1 : p.1 / 4 < bl.length := by omega
        have g2 : p.2 / 4 < bl.length := by omega
        obtain ⟨b1, hb1⟩ : ∃ b, bl[p.1 / 4]? = some b := ⟨_, List.getElem?_eq_getElem g1⟩
        obtain ⟨b2, hb2⟩ : ∃ b, bl[p.2 / 4]? = some b := ⟨_, List.getElem?_eq_getElem g2⟩
        have pa7 := hB7.same _ _ pa
        refine ⟨a, _, rfl, SqT.of pa7, rfl, _, _, rfl, _, _, rfl, rfl, ?_⟩
        have c1 := hB7.at_ _ _ hb1
        refine ⟨_, rfl, _, rfl, _, _, rfl, rfl, ⟨by decide, by decide⟩, D, _, _, .ref b1, rfl, rfl, SqL.of hB7.b, (by show atI _ (((p.1 : Nat) : Int) / 4) = _; rw [fdiv4]; exact ref_at hb1), .inl ⟨rfl, _, SqL.of c1⟩, _, rfl, _, _, rfl, rfl, ⟨by decide, by decide⟩, b1, _, _, rfl, rfl, c1, small1000 ?_, ?_⟩
        · rw [List.length_map]
          have := hfl (p.1 / 4)
          omega
        have hB8 : BSt H (upd H7 b1 (.lst (nats (f (p.1 / 4)) ++ [V.int (((p.2 : Nat) : Int) / 4)]))) D bl (addTo f (p.1 / 4) (p.2 / 4)) := by
          rw [fdiv4]
          exact hB7.add hb1
        have c2 := hB8.at_ _ _ hb2
        refine ⟨_, rfl, _, rfl, _, _, rfl, rfl, ⟨by decide, by decide⟩, D, _, _, .ref b2, rfl, rfl, SqL.of hB8.b, (by show atI _ (((p.2 : Nat) : Int) / 4) = _; rw [fdiv4]; exact ref_at hb2), .inl ⟨rfl, _, SqL.of c2⟩, _, rfl, _, _, rfl, rfl, ⟨by decide, by decide⟩, b2, _, _, rfl, rfl, c2, small1000 ?_, ?_⟩
        · rw [List.length_map]
          have := hfl (p.2 / 4)
          unfold addTo
          split
          · rw [List.length_append, List.length_singleton]
            omega
          · omega
        have hB9 : BSt H (upd (upd H7 b1 (.lst (nats (f (p.1 / 4)) ++ [V.int (((p.2 : Nat) : Int) / 4)]))) b2 (.lst (nats (addTo f (p.1 / 4) (p.2 / 4) (p.2 / 4)) ++ [V.int (((p.1 : Nat) : Int) / 4)]))) D bl (addTo (addTo f (p.1 / 4) (p.2 / 4)) (p.2 / 4) (p.1 / 4)) := by
          rw [fdiv4 p.1]
          exact hB8.add hb2
        refine ⟨_, _, _, rfl, hB9, ?_, fun j => ?_⟩
        · rw [take_ends (H := H) hp]
          exact beside_add p hbs
        · have := hfl j
          unfold addTo
          split <;> split <;> (try simp only [List.length_append, List.length_singleton]) <;> omega
      · rintro σ H7 ⟨f, v2, v3, rfl, hB7, hbs, hfl⟩
        rw [nl, hP.len, List.take_length] at hbs
        exact ⟨_, rfl, k _ D bl f hB7 hD hl hbs⟩
end
end One
end P_R1

section P_R2
set_option linter.all false
set_option maxRecDepth 100000
set_option maxHeartbeats 8000000
namespace One
open PySem PySem.Spec PyProof.Rows L2
abbrev sReached : Stmt := top 26
abbrev nReached : List Str := ["beside", "start", "told", "waiting", "other"]
theorem scReached : FnScope nReached ["beside", "start"] (defScope sReached) := ⟨rfl, rfl, rfl, by decide +kernel, rfl, by decide +kernel, by decide +kernel⟩
/-- lists of numbers in a list -/
structure LL (H : Hp) (B : Addr) (bl : List Addr) (f : Nat → List Nat) : Prop where
  b : H B = some (.lst (refs bl))
  at_ : ∀ i a, bl[i]? = some a → H a = some (.lst (nats (f i)))
theorem LL.keep {H H' : Hp} {B : Addr} {bl : List Addr} {f : Nat → List Nat} (s : LL H B bl f) (k : Same H H') : LL H' B bl f := ⟨k _ _ s.b, fun i a h => k _ _ (s.at_ i a h)⟩
theorem BSt.ll {H0 H : Hp} {B : Addr} {bl : List Addr} {f : Nat → List Nat} (s : BSt H0 H B bl f) : LL H B bl f := ⟨s.b, s.at_⟩
/-- to which numbers one comes from s, told as a new list of truths -/
def spReached : Sp := fun vs H Q _ => ∃ (B : Addr) (bl : List Addr) (f : Nat → List Nat) (n s : Nat), vs = [.ref B, .int (s : Nat)] ∧ LL H B bl f ∧ bl.length = n ∧ s < n ∧ n ≤ 200 ∧ (∀ i j, i < n → j ∈ f i → j < n) ∧
  ∀ (H' : Hp) (R4 : Addr) (r : List Bool), Same H H' → H R4 = none → H' R4 = some (.lst (r.map V.bl)) → Dfs s n f r [] (fun _ => False) → Q (.ref R4) H'
section
variable {P : Program} {w : World} {K : PySem.W.Frag} {mg : Str → Option Value} {base : Heap}
theorem ok_reached {f : Addr} {fd : FuncData} (F : Fun K "reached" "reached" sReached f fd) (T : TB mg) : FnOk P w K mg base CX0 1 f fd ["beside", "start"] spReached := by
  refine F.ok scReached (fun vs H Q E h => ?_) (fun cdv A outer s H vs Q E hr h => ?_)
  · obtain ⟨B, bl, g, n, st, rfl, _⟩ := h
    rfl
  · obtain ⟨B, bl, g, n, st, rfl, hL, hl, hs, hn, flt, k⟩ := h
    have nd := scReached.nd
    refine ⟨_, pss_cons (ps_set (i := 2) nd rfl (Or.inl rfl) (pe_op op_rep (pe_lst (pa_cons pe_bl pa_nil)) (pe_callB call_len_seq (by rfl) T.len PySem.boot_len (pa_cons (pv 0) pa_nil))))
      (pss_cons (ps_asg pe_bl (pg_sub (pv 2) (pv 1) set_list))
      (C8.pss_cut (ps_set (i := 3) nd rfl (Or.inl rfl) (pe_lst (pa_cons (pv 1) pa_nil)))
      (pss_cons (ps_while PassesOwn.never (pt_truth (pv 3) (by intro _; rfl))
        (pss_one (ps_for PassesOwn.never rfl (pi_list (pe_ix ix_list (pv 0) (pe_bm0 PySem.F.plainAttrs_list PySem.F.slot_list_pop PySem.F.type_list_pop mt_pop (pv 3)) (fun _ _ => rfl))) (pg_name (i := 4) nd rfl (Or.inl rfl))
          (pss_one (ps_if (pt_not (pt_val (pe_ix ix_list (pv 2) (pv 4) (fun _ _ => rfl)))) (pss_cons (ps_asg pe_bl (pg_sub (pv 2) (pv 4) set_list))
            (pss_one (ps_expr (pe_bm PySem.F.plainAttrs_list PySem.F.slot_list_append PySem.F.type_list_append mt_append (pv 3) (pa_cons (pv 4) pa_nil))))) pss_nil)))))
      (pss_one (ps_ret (pv 2)))))), ?_⟩
    have nlb : (((refs bl).length : Nat)) = n := by rw [List.length_map]; exact hl
    refine ⟨by show 1 ≤ sizeLine; decide, fun l1 hl1 => ⟨_, rfl, B, _, rfl, .inl (SqL.of ((Same.new hl1) _ _ hL.b)), ?_⟩⟩
    have s1 := Same.new (o := .lst [V.bl false]) hl1
    refine ⟨l1, _, _, rfl, rfl, upd_same, by omega, by omega, (by rw [nlb]; show 1 * _ ≤ _; exact Nat.le_of_lt (small1000 (by omega))), fun R4 hR4 => ?_⟩
    have s2 := Same.new (o := .lst (List.replicate (((refs bl).length : Nat) : Int).toNat [V.bl false]).flatten) hR4
    have eR : (List.replicate (((refs bl).length : Nat) : Int).toNat [V.bl false]).flatten = (List.replicate n false).map V.bl := by
      rw [nlb, show ((n : Nat) : Int).toNat = n by omega, List.map_replicate]
      exact flat_rep _ n
    have hR0 : H R4 = none := s1.free hR4
    have s12 := s1.trans s2
    refine ⟨_, rfl, _, rfl, R4, _, _, st, rfl, rfl, upd_same, ix_nat (by rw [eR, List.length_map, List.length_replicate]; exact hs), ?_⟩
    rw [eR]
    rw [eR] at s12
    have sa : Same H (upd (upd (upd H l1 (.lst [V.bl false])) R4 (.lst ((List.replicate n false).map V.bl))) R4 (.lst (((List.replicate n false).map V.bl).set st (V.bl true)))) := fun b u e => by
      rw [upd_ne (ne_of_none e hR0)]
      exact s12 _ _ e
    have setR : ∀ (r : List Bool) (j : Nat), (r.map V.bl).set j (V.bl true) = (r.set j true).map V.bl := fun r j => (List.map_set).symm
    refine ⟨fun σ H9 => ∃ (W : Addr) (r : List Bool) (w : List Nat) (v4 : Option V), (H W = none ∧ W ≠ R4) ∧ σ = [some (.ref B), some (.int (st : Nat)), some (.ref R4), some (.ref W), v4] ∧ Same H H9 ∧ H9 R4 = some (.lst (r.map V.bl)) ∧ H9 W = some (.lst (nats w)) ∧ Dfs st n g r w (fun _ => False) ∧ w.length + r.count false ≤ n, ⟨_, rfl, ⟨by show 1 ≤ sizeLine; decide, fun W hW => ?_⟩⟩, ?_⟩
    · have s3 := Same.new (o := .lst [V.int (st : Nat)]) hW
      have hW0 : H W = none := sa.free hW
      have nWR : W ≠ R4 := (ne_of_none upd_same hW).symm
      refine ⟨W, (List.replicate n false).set st true, [st], none, ⟨hW0, nWR⟩, rfl, sa.trans s3, ?_, upd_same, dfs_start g hs, ?_⟩
      · rw [upd_ne (Ne.symm nWR), upd_same, setR]
      · have := count_set (r := List.replicate n false) (j := st) (by rw [List.getElem?_replicate, if_pos hs])
        rw [List.count_replicate_self] at this
        show 1 + _ ≤ n
        omega
    · rintro σ0 H0 ⟨W, r0, w0, v4', ⟨hW0, nWR⟩, rfl, sH0, hR0', hw0, hd0, hm0⟩
      unfold tSeq
      refine while_by (fun σ H9 => ∃ (r : List Bool) (w : List Nat) (v4 : Option V), σ = [some (.ref B), some (.int (st : Nat)), some (.ref R4), some (.ref W), v4] ∧ Same H H9 ∧ H9 R4 = some (.lst (r.map V.bl)) ∧ H9 W = some (.lst (nats w)) ∧ Dfs st n g r w (fun _ => False) ∧ w.length + r.count false ≤ n)
        (fun σ H9 => 2 * noAt H9 R4 + lenAt H9 W) ⟨r0, w0, v4', rfl, sH0, hR0', hw0, hd0, hm0⟩ ?_ ?_
      · rintro σ H9 ⟨r, w, v4, rfl, sH, hR, hw, hd, hm⟩
        refine ⟨_, rfl, _, .inl ⟨_, SqL.of hw, rfl⟩, ?_⟩
        rcases List.eq_nil_or_concat w with rfl | ⟨w', c, rfl⟩
        · refine iteF ?_
          exact ⟨_, rfl, k _ R4 r sH hR0 hR hd⟩
        · rw [List.concat_eq_append] at hw hd hm ⊢
          have hne : (!(nats (w' ++ [c])).isEmpty) = true := by
            rw [nats_app]
            cases nats w' <;> rfl
          rw [hne]
          refine iteT ?_
          have hlast : (nats (w' ++ [c]))[(nats (w' ++ [c])).length - 1]? = some (V.int (c : Nat)) := by
            rw [nats_app, List.length_append]
            show (nats w' ++ [V.int (c : Nat)])[(nats w').length + 1 - 1]? = _
            rw [Nat.add_sub_cancel, List.getElem?_append_right (Nat.le_refl _), Nat.sub_self]
            rfl
          have hdrop : (nats (w' ++ [c])).dropLast = nats w' := by
            rw [nats_app]
            exact List.dropLast_concat
          have sH1 : Same H (upd H9 W (.lst (nats w'))) := fun b u e => by
            rw [upd_ne (ne_of_none e hW0)]
            exact sH _ _ e
          have hL1 := hL.keep sH1
          refine ⟨_, rfl, _, rfl, .inl ⟨rfl, _, SqL.of hw⟩, W, _, _, rfl, rfl, hw, hlast, ?_⟩
          rw [hdrop]
          have hRc : R r c := hd.wt c (List.mem_append.mpr (.inr (List.mem_singleton.mpr rfl)))
          have hcn : c < n := by
            have := (List.getElem?_eq_some_iff.mp hRc).1
            rw [hd.len] at this
            exact this
          have hR1 : (upd H9 W (.lst (nats w'))) R4 = some (.lst (r.map V.bl)) := by
            rw [upd_ne (Ne.symm nWR)]
            exact hR
          obtain ⟨b, hb⟩ : ∃ b, bl[c]? = some b := ⟨_, List.getElem?_eq_getElem (by omega)⟩
          have hbf := hL.at_ _ _ hb
          rw [List.length_append, List.length_singleton] at hm
          have hmu : 2 * noAt H9 R4 + lenAt H9 W = 2 * r.count false + (w'.length + 1) := by
            rw [noAt_of hR, lenAt_of hw, List.length_append, List.length_singleton]
          refine ⟨B, _, _, .ref b, rfl, rfl, SqL.of hL1.b, ref_at hb, b, rfl, ⟨_, SqL.of (sH1 _ _ hbf)⟩, for_list (K := K) (a := b) (xs := nats (g c)) (fun m σ Hm => ∃ (r2 : List Bool) (w2 : List Nat) (v4 : Option V), σ = [some (.ref B), some (.int (st : Nat)), some (.ref R4), some (.ref W), v4] ∧
              Same H Hm ∧ Hm R4 = some (.lst (r2.map V.bl)) ∧ Hm W = some (.lst (nats w2)) ∧ Dfs st n g r2 w2 (· = c) ∧ R r2 c ∧ w2.length + r2.count false + 1 ≤ n ∧ 2 * r2.count false + w2.length + 1 ≤ 2 * r.count false + (w'.length + 1) ∧ ∀ j ∈ (g c).take m, R r2 j)
            ⟨r, w', v4, rfl, sH1, hR1, upd_same, dfs_pop hd, hRc, by omega, by omega, fun j hj => absurd hj (by simp)⟩ (fun m σ Hm _ ⟨_, _, _, _, h, _⟩ => SqL.of (h _ _ hbf)) ?_ ?_⟩
          · rintro m x σ Hm hx ⟨r2, w2, v4, rfl, sH2, hR2, hw2, hd2, hRc2, hm1, hm2, hdone⟩
            obtain ⟨j, hj⟩ : ∃ j, (g c)[m]? = some j := by
              rw [List.getElem?_map] at hx
              cases e : (g c)[m]? with
              | none =>
                rw [e] at hx
                cases hx
              | some a => exact ⟨a, rfl⟩
            rw [List.getElem?_map, hj] at hx
            cases hx
            have hjf : j ∈ g c := List.mem_of_getElem? hj
            have hjn : j < n := flt c j hcn hjf
            have hjr : j < r2.length := by rw [hd2.len]; exact hjn
            obtain ⟨b2, hb2⟩ : ∃ b, r2[j]? = some b := ⟨_, List.getElem?_eq_getElem hjr⟩
            have etake : (g c).take (m + 1) = (g c).take m ++ [j] := by
              rw [List.take_succ, hj]
              rfl
            refine ⟨_, rfl, _, rfl, R4, _, _, .bl b2, rfl, rfl, SqL.of hR2, at_of (j := j) rfl (by rw [List.getElem?_map, hb2]; rfl), b2, rfl, ?_⟩
            cases b2 with
            | true =>
              refine iteF ⟨r2, w2, _, rfl, sH2, hR2, hw2, hd2, hRc2, hm1, hm2, fun i hi => ?_⟩
              rw [etake] at hi
              rcases List.mem_append.mp hi with hi | hi
              · exact hdone i hi
              · rw [List.mem_singleton.mp hi]
                exact hb2
            | false =>
              have hcnt := count_set hb2
              refine iteT ⟨_, rfl, _, rfl, R4, _, _, j, rfl, rfl, hR2, ix_nat (by rw [List.length_map]; exact hjr), ?_⟩
              have hw3 : (upd Hm R4 (.lst ((r2.map V.bl).set j (V.bl true)))) W = some (.lst (nats w2)) := by
                rw [upd_ne nWR]
                exact hw2
              refine ⟨_, rfl, .inl ⟨rfl, _, SqL.of hw3⟩, _, rfl, W, _, _, rfl, rfl, hw3, small1000 (by rw [List.length_map]; omega), ?_⟩
              refine ⟨r2.set j true, w2 ++ [j], _, rfl, (fun b u e => ?_), ?_, ?_, dfs_mark hd2 hRc2 hjf hjn, R_set hRc2, ?_, ?_, fun i hi => ?_⟩
              · rw [upd_ne (ne_of_none e hW0), upd_ne (ne_of_none e hR0)]
                exact sH2 _ _ e
              · rw [upd_ne (Ne.symm nWR), upd_same, setR]
              · rw [upd_same, nats_app]
                rfl
              · rw [List.length_append, List.length_singleton]
                omega
              · rw [List.length_append, List.length_singleton]
                omega
              · rw [etake] at hi
                rcases List.mem_append.mp hi with hi | hi
                · exact R_set (hdone i hi)
                · rw [List.mem_singleton.mp hi]
                  exact R_new hjr
          · rintro σ Hm ⟨r2, w2, v4, rfl, sH2, hR2, hw2, hd2, hRc2, hm1, hm2, hdone⟩
            rw [List.length_map, List.take_length] at hdone
            refine ⟨⟨r2, w2, _, rfl, sH2, hR2, hw2, dfs_finish hd2 hdone, by omega⟩, ?_⟩
            show 2 * noAt Hm R4 + lenAt Hm W < 2 * noAt H9 R4 + lenAt H9 W
            rw [hmu, noAt_of hR2, lenAt_of hw2]
            omega
      · intro σ H1 Q1 Q2 hq h
        obtain ⟨v, e, kk, ht, q⟩ := h
        exact ⟨v, e, kk, ht, hq _ _ q⟩
end
end One
end P_R2

section P_E4
set_option linter.all false
set_option maxRecDepth 100000
set_option maxHeartbeats 4000000
namespace One
open PySem PySem.Spec PyProof.Rows L2
section
variable {P : Program} {w : World} {K : PySem.W.Frag} {mg : Str → Option Value} {base : Heap}
theorem ok_iswhole {f fR fB : Addr} {fd fdR fdB : FuncData} (F : Fun K "is_whole" "is_whole" sIsWhole f fd) (T : TB mg) (DR : Cal K mg "reached" fR fdR ["beside", "start"]) (GR : FnOk P w K mg base CX0 1 fR fdR ["beside", "start"] spReached)
    (DB : Cal K mg "crossings_beside" fB fdB ["lines", "many"]) (GB : FnOk P w K mg base CX0 1 fB fdB ["lines", "many"] spBesideX) : FnOk P w K mg base CX0 2 f fd ["lines"] spIsWhole := by
  refine F.ok scIsWhole (fun vs H Q E h => ?_) (fun cdv A outer s H vs Q E hr h => ?_)
  · obtain ⟨t, n, as, ps, rfl, _⟩ := h
    rfl
  · obtain ⟨t, n, as, ps, rfl, ht, hP, hA, hn, k⟩ := h
    refine ⟨_, pss_one (ps_ret (pe_callB (cr_all rfl) (by rfl) T.all boot_all (pa_cons (pe_call GR hr rfl DR.g DR.kp DR.b .nil pass0 (pa_cons (pe_call GB hr rfl DB.g DB.kp DB.b .nil pass0 (pa_cons (pv 0) (pa_cons (pe_op op_fdiv (pe_callB call_len_seq (by rfl) T.len PySem.boot_len (pa_cons (pv 0) pa_nil)) pe_int) pa_nil))) (pa_cons pe_int pa_nil))) pa_nil))), ?_⟩
    have hal : as.length = 2 * n := by rw [hP.len, hA.len]
    have nl : (refs as).length = as.length := List.length_map _
    have e2 : (((refs as).length : Nat) : Int) / 2 = (n : Nat) := by rw [nl, hal]; omega
    refine ⟨_, rfl, _, rfl, t, _, rfl, .inr (SqT.of ht), _, _, rfl, rfl, ⟨by decide, by decide⟩, t, n, as, ps, (by show [V.ref t, V.int ((((refs as).length : Nat) : Int) / 2)] = _; rw [e2]), ht, hP, hA.lt, by omega, (by rw [hA.len]; omega), fun H1 D bl g hB hD hl hbs => ?_⟩
    refine ⟨D, bl, g, n, 0, rfl, hB.ll, hl, hA.pos, by omega, fun i j hi hj => ?_, fun H2 R4 r s2 hR0 hR hd => ?_⟩
    · obtain ⟨p, hp, q⟩ := (hbs i j).mp hj
      obtain ⟨q1, q2⟩ := hA.lt p hp
      rcases q with ⟨_, q⟩ | ⟨_, q⟩ <;> omega
    · exact ⟨R4, r, rfl, SqL.of hR, k _ _ (hB.same.trans s2) (dfs_whole hbs hd)⟩
end
end One
end P_E4

section P_E5
set_option linter.all false
set_option maxRecDepth 100000
set_option maxHeartbeats 4000000
namespace One
open PySem PySem.Spec PyProof.Rows L2
/-! ### enumerate of a tuple -/
theorem enum_newT (tt : Addr) (xs : Array Value) (sz : Nat) (dc : Option Addr) (sl : Array (Option Value)) :
    Meets (Builtin.«enumerate.__new__» ⟨[.type "enumerate", .ref tt], []⟩) (fun _ R s => s.heap.get? tt = some ⟨.type "tuple", dc, .seq xs sz, sl⟩ ∧
      R (.ok (.ret (.ref (s.heap.push { cls := .type "tuple_iterator", data := .fields #[.ref tt, .int 0 0] }).objs.size)))
        { s with heap := (s.heap.push { cls := .type "tuple_iterator", data := .fields #[.ref tt, .int 0 0] }).push { cls := .type "enumerate", data := .fields #[.none, .bool false, .ref s.heap.objs.size, rawInt 0, .none, .none] } }) :=
  .of_wp fun prog w A R s q => by
    obtain ⟨hp, g, d, tk, os⟩ := s
    obtain ⟨hl, q⟩ := q
    have su := sub_enumerate
    have hT : Heap.IsTuple (Shared.heap ⟨hp, g, d, tk, os⟩) tt xs := ⟨_, hl, rfl, sz, rfl⟩
    wp_walk using AutoSeq1.wpAny_loadPart' hl
    refine wpAny_stack_any fun stk => wpAny_pure ?_
    split
    · rename_i cl _ _ _ _ _
      cases (cl == Value.type "enumerate") <;> (wp_walk using AutoSeq1.wpAny_loadPart' hl, wpAny_pyIter_tuple hT; exact ⟨_, rfl, q⟩)
    · wp_walk using AutoSeq1.wpAny_loadPart' hl, wpAny_pyIter_tuple hT
      exact ⟨_, rfl, q⟩
section
variable {prog : Program} {w : World} {A : Around} {E : Value → Shared → Prop} {s : Shared}
theorem call_enumT {tt : Addr} {xs : Array Value} {Q : Value → Shared → Prop} (hL : s.heap.IsTuple tt xs)
    (k : ∀ g, IsEnum g (s.heap.objs.size + 1) s.heap.objs.size 0 .none → g.IsTupleIter s.heap.objs.size tt 0 → (∀ b o, s.heap.get? b = some o → g.get? b = some o) → Q (.ref (s.heap.objs.size + 1)) { s with heap := g }) :
    wpAny (model prog w) A (call (.type "enumerate") [.ref tt]) Q E s := by
  obtain ⟨⟨cl, dc, da, sl⟩, hl, hcl, sz, hda⟩ := hL
  dsimp only at hcl hda
  subst hcl hda
  refine callType_new F.called_enumerate (by decide) (F.typeCall_enumerate_1 _) (F.newCall_enumerate_1 _) (fun ob => F.args_object_init_2 ob _) F.entry_enumerate_new (enum_newT tt xs sz dc sl) ⟨hl, ?_⟩
  have e1 : (s.heap.push { cls := .type "tuple_iterator", data := .fields #[.ref tt, .int 0 0] }).objs.size = s.heap.objs.size + 1 := Heap.size_push ..
  show _ ∧ _
  rw [e1]
  have e2 : IsEnum ((s.heap.push { cls := .type "tuple_iterator", data := .fields #[.ref tt, .int 0 0] }).push { cls := .type "enumerate", data := .fields #[.none, .bool false, .ref s.heap.objs.size, rawInt 0, .none, .none] }) (s.heap.objs.size + 1) s.heap.objs.size 0 .none := by
    have z := Heap.get?_push_size (s.heap.push { cls := .type "tuple_iterator", data := .fields #[.ref tt, .int 0 0] }) (o := { cls := .type "enumerate", data := .fields #[.none, .bool false, .ref s.heap.objs.size, rawInt 0, .none, .none] }) rfl
    rw [e1] at z
    exact z
  exact ⟨⟨_, e2, rfl⟩, k _ e2 ⟨_, Heap.get?_push_of_some _ (Heap.get?_push_size _ rfl), rfl, rfl⟩ fun b o x => Heap.get?_push_of_some _ (Heap.get?_push_of_some _ x)⟩
end
/-- the tuple at a, each item in a new pair with its number -/
def IteT (K : PySem.W.Frag) (a : Addr) : It :=
  ⟨fun i H => ∃ (xs : List V) (x : V), SqT K H a xs ∧ xs[i]? = some x, fun i H v H' => ∃ T x, v = .ref T ∧ H T = none ∧ H' = upd H T (.tup [.int (i : Nat), x]) ∧ ∀ xs, SqT K H a xs → xs[i]? = some x, fun i H => ∃ xs : List V, SqT K H a xs ∧ xs.length ≤ i⟩
theorem turn_enumT {P : Program} {w : World} {K : PySem.W.Frag} {elts : List Expr} {kk : Nat} {tpos : Pos} (a e it : Addr) (hat : a ≠ it) (hae : a ≠ e) :
    Turn P w K (.Tuple elts kk tpos) (IteT K a) [e, it] e (fun i h => (∃ old, IsEnum h e it ((i : Nat) : Int) old) ∧ h.IsTupleIter it a i ∧ e ≠ it) where
  mem := List.mem_cons_self
  obj := fun i h st b hb => by
    obtain ⟨⟨old, he⟩, ⟨o, ho, _, hd⟩, _⟩ := st
    rcases List.mem_cons.mp hb with z | z
    · rw [z]
      exact ⟨_, he, fun v q => nomatch q⟩
    · exact ⟨o, by rw [List.mem_singleton.mp z]; exact ho, fun v q => by rw [hd] at q; cases q⟩
  keep := fun i h h' ⟨⟨old, he⟩, hi, hne⟩ k => ⟨⟨old, k e (by simp) _ he⟩, hi.at fun o e => k it (by simp) o e, hne⟩
  item := by
    intro X e1 e2 e3 hc i pins s σ H E I hf ⟨⟨old, he⟩, hit, hne⟩ ⟨xs, x, hq, hx⟩
    subst e1 e2 e3
    obtain ⟨its, rv, p, hz⟩ := I.tuple hq
    obtain ⟨u, hu, ru⟩ := rv.get hx
    have hel : e < s.heap.objs.size := Heap.lt_size he
    have hil : it < s.heap.objs.size := by
      obtain ⟨_, q, _⟩ := hit
      exact Heap.lt_size q
    have p' : s.heap.IsTuple a its.toArray := p
    have hlt : i < its.toArray.size := by
      rw [List.size_toArray]
      exact (List.getElem?_eq_some_iff.mp hu).1
    refine wpAny_pyNext_enum_itemD (fp := [it, a]) (Draws.tuple (A := X.A.in1) (show X.A.in1.handled = none from I.ok.hd hc) it a hat its.toArray) he ⟨hit, p'⟩ hlt hne (by simp [hne, Ne.symm hae]) fun x2 g tk hx2 ho hst hT hsz hk => ?_
    have ex : x2 = u := by
      have z : its.toArray[i]? = some x2 := hx2
      rw [List.getElem?_toArray, hu] at z
      exact (Option.some.inj z).symm
    subst ex
    refine ⟨_, rfl, wpAny_letOwnedTupleGo_enum (s := { s with heap := g, toks := tk + 1 }) ho fun g2 he2 sb => ?_⟩
    have hT2 : g2.get? s.heap.objs.size = some { cls := .type "tuple", data := .seq #[.int i tk, x2] } := (sb.2 _ (Nat.ne_of_gt hel)).trans hT
    have made : ObjOk X.prog X.w (upd H s.heap.objs.size (.tup [.int (i : Nat), x])) g2 s.heap.objs.size (.tup [.int (i : Nat), x]) :=
      ⟨two_le, [.int i tk, x2], .cons ⟨_, rfl⟩ (.cons ru .nil), ⟨_, hT2, rfl, _, rfl⟩⟩
    have I1 : Inv X pins σ (upd H s.heap.objs.size (.tup [.int (i : Nat), x])) { s with heap := g2, toks := tk + 1 } :=
      I.turnedNew (ch := [e, it]) (fun b ob hb q => (sb.2 b fun z => hb (by rw [z]; exact List.mem_cons_self)).trans (hk b ob (fun z => hb (by rw [z]; exact List.mem_cons_self)) (fun z => hb (by rw [z]; simp)) q)) hf (Nat.le_refl _) made
    have e0 : ((i + 1 : Nat) : Int) = (i : Int) + 1 := by omega
    refine ⟨.ref s.heap.objs.size, _, I1, rfl, ⟨_, x, rfl, I.hok.fresh (Nat.le_refl _), rfl, fun ys hy => by rw [I.tuple_inj hy hq]; exact hx⟩, ⟨⟨x2, by rw [e0]; exact he2⟩, hst.1.at fun o q => (sb.2 it (Ne.symm hne)).trans q, hne⟩, fun b hb => ?_⟩
    have lt : b < s.heap.objs.size := by
      rcases List.mem_cons.mp hb with z | z
      · rw [z]
        exact hel
      · rw [List.mem_singleton.mp z]
        exact hil
    exact (upd_ne (Nat.ne_of_lt lt)).trans (hf b hb).1
  done := by
    intro X e1 e2 e3 hc i pins s σ H E I hf ⟨⟨old, he⟩, hit, hne⟩ ⟨xs, hq, hx⟩
    subst e1 e2 e3
    obtain ⟨its, rv, p, hz⟩ := I.tuple hq
    obtain ⟨f0, f1, f2, f3, f4, f5⟩ := hf it (by simp)
    have hn : its.toArray.size ≤ i := by
      rw [List.size_toArray, ← rv.length]
      exact hx
    unfold pyNext
    have hT : s.TypeIs (.ref e) "enumerate" := ⟨_, he, rfl⟩
    refine wpAny_bind (wpAny_attempt (wpAny_callSpecial?_slot (name := Str.ofString "__next__") hT F.slot_enumerate_next (wpAny_call_entry F.slot_enumerate_next hT F.entry_enumerate_next ?_ (F.args_enumerate_next_1 _))))
    show wpAny _ _ (field (.ref e) 2 >>= _) _ _ _
    refine wpAny_bind (wpAny_field he rfl (x := .ref it) rfl (wpAny_bind (wpAny_nextOf_tuple_end (I.ok.hd hc) hit (show s.heap.IsTuple a its.toArray from p) (Array.getElem?_eq_none hn) fun g x hg ⟨o, ho, hco⟩ => ?_)))
    exact wpAny_bind (wpAny_isInstance (T := "StopIteration") (b := true) ⟨o, ho, hco⟩ isSubtype_stop (wpAny_pure ⟨rfl, I.turned (t' := s.toks) (fun b o hb e => hg b o hb e) f0 f1 f3 f4 f5⟩))
  self := fun A i s Q E ⟨⟨_, he⟩, _⟩ q => wpAny_pyIter_enum he q
def iEnumT (K : PySem.W.Frag) (ta : TA) : TI := fun σ H R => ta σ H fun vs H1 => ∃ a xs, vs = [.ref a] ∧ SqT K H1 a xs ∧ R (IteT K a) H1
theorem pi_enumT {X : Cx} {e : Expr} {ta : TA} {p pos tpos : Pos} {elts : List Expr} {kk : Nat} (hg : Gl X "enumerate") (hm : X.mg "enumerate" = none) (ha : PA X [e] ta) (hs : starEach [e] X.env = [(false, eval e X.env)] := by rfl) :
    PI X (.Tuple elts kk tpos) (.Call (.Name "enumerate" p) [e] [] pos) (iEnumT X.K ta) := by
  refine ⟨fun pins s σ H R I q0 => Call_ (ld_blt I hg hm boot_enumerate (PyProof.Rows.callWith_type1 (thn (ha.run pos pins s σ H _ I q0) fun us s1 ⟨vs, H1, I1, r1, a, xs, ex, hq, q⟩ => ?_) hs rfl))⟩
  subst ex
  cases r1 with
  | cons r rr =>
    cases rr
    cases r
    obtain ⟨its, rv, p', hz⟩ := I1.tuple hq
    have hal : a < s1.heap.objs.size := by
      obtain ⟨o, ho, _⟩ := p'
      exact Heap.lt_size ho
    refine call_enumT (show s1.heap.IsTuple a its.toArray from p') fun g he hit hk => wpAny_pyIter_enum he ?_
    have I2 : Inv X pins σ H1 { s1 with heap := g } := I1.kept (t' := s1.toks) hk
    refine ⟨s1.heap.objs.size + 1, [s1.heap.objs.size + 1, s1.heap.objs.size], _, _, H1, rfl, I2, turn_enumT a (s1.heap.objs.size + 1) s1.heap.objs.size (Nat.ne_of_lt hal) (Nat.ne_of_lt (Nat.lt_succ_of_lt hal)), ⟨⟨.none, he⟩, hit, Nat.succ_ne_self _⟩, fun b hb => ?_, q⟩
    have le : s1.heap.objs.size ≤ b := by
      rcases List.mem_cons.mp hb with z | z
      · rw [z]
        exact Nat.le_add_right _ _
      · rw [List.mem_singleton.mp z]
        exact Nat.le_refl _
    exact I1.fpOk le (I1.hok.fresh le)
theorem walk_enumT {K : PySem.W.Frag} {a : Addr} {xs : List V} : Walk (IteT K a) xs.length (fun H => SqT K H a xs) (YPair (fun i => some (.int (i : Nat))) (fun i => xs[i]?)) := by
  refine ⟨fun i _ hi q => ⟨xs, xs[i], q, List.getElem?_eq_getElem hi⟩, fun _ q => ⟨xs, q, Nat.le_refl _⟩, fun i H v H' _ q ⟨T, x, h1, h2, h3, h4⟩ => ⟨T, .int (i : Nat), x, h1, h2, h3, rfl, h4 xs q⟩⟩
end One
end P_E5

section P_M4
set_option linter.all false
namespace One
/-! ### the look at a yard, line by line -/
def leB (p q : Nat × Nat) : Bool := decide (p.1 < q.1) || (decide (p.1 = q.1) && decide (p.2 ≤ q.2))
def notUp (p : Nat × Nat) : Option (Nat × Nat) → Bool
  | none => false
  | some q => leB p q
/-- the number of the first thing that can't be: none is what is no line -/
def goF : Nat → List Nat → Option (Nat × Nat) → List (Option (Nat × Nat)) → Option Nat
  | _, _, _, [] => none
  | k, _, _, none :: _ => some k
  | k, met, ah, some p :: r => if notUp p ah || met.contains p.1 || met.contains p.2 then some k else goF (k + 1) (met ++ [p.1, p.2]) (some p) r
theorem goF_pairs : ∀ (os : List (Option (Nat × Nat))) (k : Nat) (met : List Nat) (ah : Option (Nat × Nat)), goF k met ah os = none → os = (os.filterMap id).map some
  | [], _, _, _, _ => rfl
  | none :: r, k, met, ah, h => by cases h
  | some p :: r, k, met, ah, h => by
    unfold goF at h
    split at h
    · cases h
    · have := goF_pairs r _ _ _ h
      simp only [List.filterMap_cons, id, List.map_cons]
      rw [← this]
theorem goF_good : ∀ (ps : List (Nat × Nat)) (k : Nat) (met : List Nat) (ah : Option (Nat × Nat)), (∀ q, ah = some q → ∀ p ∈ ps, ltP q p) → ps.Pairwise ltP → (met ++ ends ps).Nodup → goF k met ah (ps.map some) = none
  | [], _, _, _, _, _, _ => rfl
  | p :: r, k, met, ah, h1, h2, h3 => by
    obtain ⟨hp, hr⟩ := List.pairwise_cons.mp h2
    have h3 : (met ++ (p.1 :: p.2 :: ends r)).Nodup := h3
    have n1 : ¬ p.1 ∈ met := fun m => (List.nodup_append.mp h3).2.2 _ m p.1 (by simp) rfl
    have n2 : ¬ p.2 ∈ met := fun m => (List.nodup_append.mp h3).2.2 _ m p.2 (by simp) rfl
    have up : notUp p ah = false := by
      cases e : ah with
      | none => rfl
      | some q =>
        have := h1 q e p (List.mem_cons.mpr (.inl rfl))
        unfold ltP at this
        unfold notUp leB
        simp only [Bool.or_eq_false_iff, Bool.and_eq_false_iff, decide_eq_false_iff_not]
        omega
    show (if notUp p ah || met.contains p.1 || met.contains p.2 then some k else goF (k + 1) (met ++ [p.1, p.2]) (some p) (r.map some)) = none
    rw [if_neg (by simp [up, n1, n2])]
    refine goF_good r _ _ _ (fun q e x hx => ?_) hr ?_
    · cases e
      exact hp x hx
    · rw [List.append_assoc]
      exact h3
theorem yard_good {n : Nat} {L : List (Nat × Nat)} (y : Yard n L) : goF 0 [] none (L.map some) = none := goF_good L 0 [] none (fun _ e => by cases e) y.up (by simpa using y.lines.nd)
end One
end P_M4

section P_E6
set_option linter.all false
set_option maxRecDepth 100000
set_option maxHeartbeats 8000000
namespace One
open PySem PySem.Spec PyProof.Rows L2
abbrev sFault : Stmt := top 32
abbrev nFault : List Str := ["thing", "many_ends", "taken", "ahead", "number", "line"]
theorem scFault : FnScope nFault ["thing"] (defScope sFault) := ⟨rfl, rfl, rfl, by decide +kernel, rfl, by decide +kernel, by decide +kernel⟩
/-- things that stand in a tuple, and what lines they are -/
inductive IL (H : Hp) (n : Nat) : List V → List (Option (Nat × Nat)) → Prop
  | nil : IL H n [] []
  | line {a p xs os} : PAt H a p → p.1 < p.2 → p.2 < n → IL H n xs os → IL H n (.ref a :: xs) (some p :: os)
  | flat {x T xs os} : TV H x T → isTup T = false → IL H n xs os → IL H n (x :: xs) (none :: os)
  | tup {a ys xs os} : H a = some (.tup ys) → (∀ y ∈ ys, ∃ T, TV H y T) → lineB ys n = false → IL H n xs os → IL H n (.ref a :: xs) (none :: os)
theorem IL.len {H : Hp} {n : Nat} {xs : List V} {os : List (Option (Nat × Nat))} (h : IL H n xs os) : xs.length = os.length := by
  induction h with
  | nil => rfl
  | line _ _ _ _ ih => simp [ih]
  | flat _ _ _ ih => simp [ih]
  | tup _ _ _ _ ih => simp [ih]
theorem IL.pairs {H : Hp} {n : Nat} : ∀ {ps : List (Nat × Nat)} {xs : List V}, IL H n xs (ps.map some) → ∃ as, xs = refs as ∧ PL H as ps ∧ ∀ p ∈ ps, p.1 < p.2 ∧ p.2 < n
  | [], _, .nil => ⟨[], rfl, .nil, fun p h => absurd h (by simp)⟩
  | p :: r, _, .line h1 h2 h3 t => by
    obtain ⟨as, e, h4, h5⟩ := IL.pairs t
    exact ⟨_ :: as, by rw [e]; rfl, .cons h1 h4, fun q hq => (List.mem_cons.mp hq).elim (fun e => e ▸ ⟨h2, h3⟩) (h5 q)⟩
theorem TV.mono {H H' : Hp} {v : V} {T : String} (h : TV H v T) (k : Same H H') : TV H' v T := by
  cases h with
  | non => exact .non
  | bl b => exact .bl b
  | int i => exact .int i
  | str x => exact .str x
  | tup e => exact .tup (k _ _ e)
  | lst e => exact .lst (k _ _ e)
  | dct e => exact .dct (k _ _ e)
theorem IL.mono {H H' : Hp} {n : Nat} {xs : List V} {os : List (Option (Nat × Nat))} (h : IL H n xs os) (k : Same H H') : IL H' n xs os := by
  induction h with
  | nil => exact .nil
  | line h1 h2 h3 _ ih => exact .line (k _ _ h1) h2 h3 ih
  | flat h1 h2 _ ih => exact .flat (h1.mono k) h2 ih
  | tup h1 h2 h3 _ ih => exact .tup (k _ _ h1) (fun y m => let ⟨T, t⟩ := h2 y m; ⟨T, t.mono k⟩) h3 ih
theorem IL.split {H : Hp} {n : Nat} {xs : List V} {os : List (Option (Nat × Nat))} (h : IL H n xs os) : ∀ {i : Nat} {x : V}, xs[i]? = some x → ∃ o, os[i]? = some o ∧ IL H n [x] [o] := by
  induction h with
  | nil => intro i x e; simp at e
  | line h1 h2 h3 _ ih =>
    intro i x e
    cases i with
    | zero =>
      have e := Option.some.inj e
      subst e
      exact ⟨_, rfl, .line h1 h2 h3 .nil⟩
    | succ i => exact ih (i := i) (by simpa using e)
  | flat h1 h2 _ ih =>
    intro i x e
    cases i with
    | zero =>
      have e := Option.some.inj e
      subst e
      exact ⟨_, rfl, .flat h1 h2 .nil⟩
    | succ i => exact ih (i := i) (by simpa using e)
  | tup h1 h2 h3 _ ih =>
    intro i x e
    cases i with
    | zero =>
      have e := Option.some.inj e
      subst e
      exact ⟨_, rfl, .tup h1 h2 h3 .nil⟩
    | succ i => exact ih (i := i) (by simpa using e)
/-- the line that stood ahead -/
def AheadAt (H : Hp) (a : Addr) : Option (Nat × Nat) → Prop
  | none => H a = some (.tup [])
  | some q => PAt H a q
theorem le_none (p : Nat × Nat) : Ob.lexAt (fun j => decide (([(p.1 : Int), (p.2 : Int)] : List Int).getD j 0 = ([] : List Int).getD j 0)) (fun j => decide (([(p.1 : Int), (p.2 : Int)] : List Int).getD j 0 ≤ ([] : List Int).getD j 0)) (decide (([(p.1 : Int), (p.2 : Int)] : List Int).length ≤ ([] : List Int).length)) 0 (min ([(p.1 : Int), (p.2 : Int)] : List Int).length ([] : List Int).length) = false := rfl
theorem le_some (p q : Nat × Nat) : Ob.lexAt (fun j => decide (([(p.1 : Int), (p.2 : Int)] : List Int).getD j 0 = ([(q.1 : Int), (q.2 : Int)] : List Int).getD j 0)) (fun j => decide (([(p.1 : Int), (p.2 : Int)] : List Int).getD j 0 ≤ ([(q.1 : Int), (q.2 : Int)] : List Int).getD j 0)) (decide (([(p.1 : Int), (p.2 : Int)] : List Int).length ≤ ([(q.1 : Int), (q.2 : Int)] : List Int).length)) 0 (min ([(p.1 : Int), (p.2 : Int)] : List Int).length ([(q.1 : Int), (q.2 : Int)] : List Int).length) = leB p q := by
  show (if decide ((p.1 : Int) = (q.1 : Int)) = true then (if decide ((p.2 : Int) = (q.2 : Int)) = true then true else decide ((p.2 : Int) ≤ (q.2 : Int))) else decide ((p.1 : Int) ≤ (q.1 : Int))) = leB p q
  unfold leB
  rw [Bool.eq_iff_iff]
  simp only [decide_eq_true_eq, Bool.or_eq_true, Bool.and_eq_true]
  constructor
  · intro h
    split at h
    · split at h
      · omega
      · simp only [decide_eq_true_eq] at h
        omega
    · simp only [decide_eq_true_eq] at h
      omega
  · intro h
    split
    · split
      · rfl
      · simp only [decide_eq_true_eq]
        omega
    · simp only [decide_eq_true_eq]
      omega
def spFault : Sp := fun vs H Q _ => ∃ v : V, vs = [v] ∧
  (((∃ T, TV H v T ∧ isTup T = false) ∨ ∃ (t : Addr) (xs : List V), v = .ref t ∧ H t = some (.tup xs) ∧ canBe (xs.length : Nat) = false) ∧ (∀ (H' : Hp) (p : Addr), Same H H' → H' p = some (.tup []) → Q (.ref p) H') ∨
  ∃ (t : Addr) (xs : List V) (os : List (Option (Nat × Nat))), v = .ref t ∧ H t = some (.tup xs) ∧ canBe (xs.length : Nat) = true ∧ IL H (2 * xs.length) xs os ∧
    (∀ k, goF 0 [] none os = some k → ∀ (H' : Hp) (p : Addr), Same H H' → H' p = some (.tup [.int (k : Nat)]) → Q (.ref p) H') ∧
    (goF 0 [] none os = none → ∀ ps, os = ps.map some → (Whole (xs.length / 2) ps → ∀ H', Same H H' → Q .non H') ∧ (¬ Whole (xs.length / 2) ps → ∀ (H' : Hp) (p : Addr), Same H H' → H' p = some (.tup [.int (xs.length : Nat)]) → Q (.ref p) H')))
section
variable {P : Program} {w : World} {K : PySem.W.Frag} {mg : Str → Option Value} {base : Heap}
theorem ok_fault {f fB fL fW : Addr} {fd fdB fdL fdW : FuncData} (F : Fun K "yard_fault" "yard_fault" sFault f fd) (T : TB mg) (B : Cal K mg "can_be_many_lines" fB fdB ["many"]) (GB : FnOk P w K mg base CX0 1 fB fdB ["many"] spCanBe)
    (L : Cal K mg "is_line" fL fdL ["thing", "many_ends"]) (GL : FnOk P w K mg base CX0 3 fL fdL ["thing", "many_ends"] spIsLine) (W : Cal K mg "is_whole" fW fdW ["lines"]) (GW : FnOk P w K mg base CX0 2 fW fdW ["lines"] spIsWhole) :
    FnOk P w K mg base CX0 4 f fd ["thing"] spFault := by
  refine F.ok scFault (fun vs H Q E h => ?_) (fun cdv A outer s H vs Q E hr h => ?_)
  · obtain ⟨v, rfl, _⟩ := h
    rfl
  · obtain ⟨v, rfl, h⟩ := h
    have nd := scFault.nd
    have hu := hu_of hr
    have hu0 : (A.deeper (envOfC "yard_fault" (defScope sFault) s.heap.objs.size f cdv)).units < cLine := Nat.lt_of_succ_lt hu
    have hr1 : Room 1 _ := hr.mono (by decide)
    have hrW : Room 2 _ := hr.mono (by decide)
    refine ⟨_, pss_cons (ps_if (pt_mid (PW.pt (pw_or (pt_not (pt_val (pe_callB call_isi (by rfl) T.isinstance boot_isinstance (pa_cons (pv 0) (pa_cons (pe_bltn (v := .ty "tuple") (by rfl) T.tuple boot_tuple rfl) pa_nil)))))
        (pw_or1 (pt_not (pt_val (pe_call GB hr1 rfl B.g B.kp B.b .nil pass0 (pa_cons (pe_callB call_len_seq (by rfl) T.len PySem.boot_len (pa_cons (pv 0) pa_nil)) pa_nil)))))))) (pss_one (ps_ret (pe_tup pa_nil))) pss_nil)
      (pss_cons (ps_set (i := 1) nd rfl (Or.inl rfl) (pe_op op_mul pe_int (pe_callB call_len_seq (by rfl) T.len PySem.boot_len (pa_cons (pv 0) pa_nil))))
      (pss_cons (ps_set (i := 2) nd rfl (Or.inl rfl) (pe_op op_rep (pe_lst (pa_cons pe_bl pa_nil)) (pv 1)))
      (pss_cons (ps_set (i := 3) nd rfl (Or.inl rfl) (pe_tup pa_nil))
      (pss_cons (ps_for PassesOwn.never rfl (pi_enumT (by rfl) T.enumerate (pa_cons (pv 0) pa_nil)) (pg_tup rfl (pgs_cons (pg_name (i := 4) nd rfl (Or.inl rfl)) (pgs_cons (pg_name (i := 5) nd rfl (Or.inl rfl)) pgs_nil)))
        (pss_cons (ps_if (pt_mid (PW.pt (pw_or (pt_not (pt_val (pe_call GL hr rfl L.g L.kp L.b .nil pass0 (pa_cons (pv 5) (pa_cons (pv 1) pa_nil)))))
            (pw_or (pt_cmpR (op_leT hu0) (pv 5) (pv 3) (nomark _)) (pw_or (pt_val (pe_ix ix_list (pv 2) (pe_ix ix_tup (pv 5) pe_int (fun _ _ => rfl)) (fun _ _ => rfl))) (pw_or1 (pt_val (pe_ix ix_list (pv 2) (pe_ix ix_tup (pv 5) pe_int (fun _ _ => rfl)) (fun _ _ => rfl)))))))))
            (pss_one (ps_ret (pe_tup (pa_cons (pv 4) pa_nil)))) pss_nil)
        (pss_cons (ps_asg2 pe_bl (pg_sub (pv 2) (pe_ix ix_tup (pv 5) pe_int (fun _ _ => rfl)) set_list) (pg_sub (pv 2) (pe_ix ix_tup (pv 5) pe_int (fun _ _ => rfl)) set_list))
        (pss_one (ps_set (i := 3) nd rfl (Or.inl rfl) (pv 5))))))
      (pss_one (ps_ret (pe_ifExp (pt_val (pe_call GW hrW rfl W.g W.kp W.b .nil pass0 (pa_cons (pv 0) pa_nil))) pe_non (pe_tup (pa_cons (pe_callB call_len_seq (by rfl) T.len PySem.boot_len (pa_cons (pv 0) pa_nil)) pa_nil))))))))), ?_⟩
    rcases h with ⟨h, k⟩ | ⟨t, xs, os, rfl, ht, hc, hI, k1, k2⟩
    · refine ⟨fun b H' => b = true ∧ Same H H', ?_, ?_⟩
      · rcases h with ⟨ty, hv, hT⟩ | ⟨t, xs, rfl, ht, hc⟩
        · refine ⟨_, rfl, v, _, _, _, _, rfl, .ty _, hv.tyx, hv.kTup, _, rfl, ?_⟩
          rw [hT]
          exact iteT ⟨rfl, Same.refl H⟩
        · refine ⟨_, rfl, _, _, _, _, _, rfl, .ty _, (TV.tup ht).tyx, (TV.tup ht).kTup, _, rfl, ?_⟩
          refine iteF ⟨_, rfl, t, _, rfl, .inr (SqT.of ht), _, rfl, fun H' s' => ⟨_, rfl, ?_⟩⟩
          rw [hc]
          exact ⟨rfl, s'⟩
      · rintro b H' ⟨rfl, s'⟩
        exact iteT ⟨Nat.zero_le _, fun p hp => k _ p (s'.trans (Same.new hp)) upd_same⟩
    · have hcb : 2 ≤ xs.length ∧ xs.length ≤ 80 ∧ xs.length % 2 = 0 := by
        unfold canBe at hc
        simp only [Bool.and_eq_true, decide_eq_true_eq] at hc
        omega
      refine ⟨fun b H' => b = false ∧ Same H H', ?_, ?_⟩
      · refine ⟨_, rfl, _, _, _, _, _, rfl, .ty _, (TV.tup ht).tyx, (TV.tup ht).kTup, _, rfl, ?_⟩
        refine iteF ⟨_, rfl, t, _, rfl, .inr (SqT.of ht), _, rfl, fun H' s' => ⟨_, rfl, ?_⟩⟩
        rw [hc]
        exact ⟨rfl, s'⟩
      · rintro b H1 ⟨rfl, s1⟩
        have ht1 := s1 _ _ ht
        have e2 : (2 : Int) * (xs.length : Nat) = ((2 * xs.length : Nat) : Int) := by omega
        refine iteF ⟨_, rfl, t, _, rfl, .inr (SqT.of ht1), _, _, rfl, rfl, .inl ⟨by decide, by decide⟩, ?_⟩
        refine ⟨by show 1 ≤ sizeLine; decide, fun l1 hl1 => ⟨_, rfl, l1, ((2 * xs.length : Nat) : Int), _, rfl, (by show V.int ((2 : Int) * (xs.length : Nat)) = _; rw [e2]), upd_same, by omega, by omega, (by show 1 * _ ≤ _; exact Nat.le_of_lt (small1000 (by omega))), fun tk htk => ?_⟩⟩
        have eR : (List.replicate ((2 * xs.length : Nat) : Int).toNat [V.bl false]).flatten = (List.replicate (2 * xs.length) false).map V.bl := by
          rw [show ((2 * xs.length : Nat) : Int).toNat = 2 * xs.length by omega, List.map_replicate]
          exact flat_rep _ _
        have s2 := Same.new (o := .lst [V.bl false]) hl1
        have s3 := Same.new (o := .lst (List.replicate ((2 * xs.length : Nat) : Int).toNat [V.bl false]).flatten) htk
        refine ⟨Nat.zero_le _, fun a0 ha0 => ?_⟩
        have s4 := Same.new (o := .tup []) ha0
        have sA := s1.trans (s2.trans (s3.trans s4))
        have htk0 : H tk = none := (s1.trans s2).free htk
        have ntk : ∀ b o, H b = some o → b ≠ tk := fun b o e => ne_of_none e htk0
        refine ⟨_, rfl, t, _, rfl, SqT.of (sA _ _ ht), for_it (walk_enumT (K := K) (a := t) (xs := xs)) (fun i σ H2 => ∃ (ah : Addr) (bs : List Bool) (met : List Nat) (o : Option (Nat × Nat)) (v4 v5 : Option V),
            σ = [some (.ref t), some (.int ((2 : Int) * (xs.length : Nat))), some (.ref tk), some (.ref ah), v4, v5] ∧ Same H H2 ∧ H2 tk = some (.lst (bs.map V.bl)) ∧ bs.length = 2 * xs.length ∧ (∀ e, e < 2 * xs.length → bs[e]? = some (met.contains e)) ∧ AheadAt H2 ah o ∧ goF i met o (os.drop i) = goF 0 [] none os)
          ⟨a0, List.replicate (2 * xs.length) false, [], none, none, none, rfl, sA, ?_, List.length_replicate, fun e he => by rw [List.getElem?_replicate, if_pos he]; rfl, upd_same, rfl⟩ (fun i σ H2 _ ⟨_, _, _, _, _, _, _, s', _⟩ => SqT.of (s' _ _ ht)) ?_ ?_⟩
        · rw [← eR]
          exact s4 _ _ upd_same
        · rintro i x σ H2 H3 hi ⟨ah, bs, met, o, v4, v5, rfl, s5, htk2, hbl, hbs, hah, hgo⟩ ⟨T, x', y', rfl, hT, rfl, ex, ey⟩
          cases ex
          have s6 := Same.new (o := .tup [V.int (i : Nat), y']) hT
          obtain ⟨oi, hoi, hI1⟩ := hI.split ey
          have hdrop : os.drop i = oi :: os.drop (i + 1) := by
            obtain ⟨hlt, e⟩ := List.getElem?_eq_some_iff.mp hoi
            rw [List.drop_eq_getElem_cons hlt, e]
          rw [hdrop] at hgo
          refine ⟨T, _, rfl, SqT.of upd_same, rfl, _, _, rfl, _, _, rfl, rfl, ?_⟩
          have htk3 := s6 _ _ htk2
          have nn : ((2 : Int) * (xs.length : Nat)) = ((2 * xs.length : Nat) : Int) := e2
          have bad : goF i met o (oi :: os.drop (i + 1)) = some i → ∀ (H4 : Hp), Same H H4 → tRet (tTup (tCons (tVar 4) tNil)) { nx := fun _ H' => Q .non H', rt := Q } [some (.ref t), some (.int ((2 : Int) * (xs.length : Nat))), some (.ref tk), some (.ref ah), some (.int (i : Nat)), some y'] H4 := by
            intro hb H4 s7
            refine ⟨_, rfl, by show 1 ≤ sizeLine; decide, fun p hp => ?_⟩
            exact k1 i (hgo.symm.trans hb) _ p (s7.trans (Same.new hp)) upd_same
          have hI3 := (hI1.mono s5).mono s6
          cases oi with
          | none =>
            refine ⟨fun b H4 => b = true ∧ Same (upd H2 T (.tup [V.int (i : Nat), y'])) H4, ?_, ?_⟩
            · have key : ∀ Q' : Bool → Hp → Prop, Q' false (upd H2 T (.tup [V.int (i : Nat), y'])) → spIsLine [y', .int ((2 : Int) * (xs.length : Nat))] (upd H2 T (.tup [V.int (i : Nat), y'])) (fun v H' => ∃ c, v = .bl c ∧ Q' c H') E0 := by
                intro Q' q
                cases hI3 with
                | flat h1 h2 _ => exact ⟨_, _, rfl, .inl ⟨_, h1, h2, false, rfl, q⟩⟩
                | tup h1 h2 h3 _ =>
                  refine ⟨_, _, rfl, .inr ⟨_, _, rfl, h1, h2, false, ?_, q⟩⟩
                  rw [nn, h3]
              refine ⟨_, rfl, _, rfl, ?_⟩
              exact key _ (iteT ⟨rfl, Same.refl _⟩)
            · rintro b H4 ⟨rfl, s7⟩
              exact iteT (bad rfl H4 (s5.trans (s6.trans s7)))
          | some p =>
            cases hI3 with
            | @line a _ _ _ pa hlt hn _ =>
              have q1 : p.1 < 2 * xs.length := by omega
              have g1 := hbs p.1 q1
              have g2 := hbs p.2 hn
              have at1 : atI (bs.map V.bl) ((p.1 : Nat) : Int) = some (V.bl (met.contains p.1)) := at_of (j := p.1) rfl (by rw [List.getElem?_map, g1]; rfl)
              have at2 : atI (bs.map V.bl) ((p.2 : Nat) : Int) = some (V.bl (met.contains p.2)) := at_of (j := p.2) rfl (by rw [List.getElem?_map, g2]; rfl)
              refine ⟨fun b H4 => b = (notUp p o || met.contains p.1 || met.contains p.2) ∧ H4 = upd H2 T (.tup [V.int (i : Nat), V.ref a]), ?_, ?_⟩
              · have hline : lineB [V.int (p.1 : Nat), V.int (p.2 : Nat)] ((2 : Int) * (xs.length : Nat)) = true := by
                  show (decide (0 ≤ ((p.1 : Nat) : Int)) && decide (((p.1 : Nat) : Int) < (2 : Int) * (xs.length : Nat)) && (decide (0 ≤ ((p.2 : Nat) : Int)) && decide (((p.2 : Nat) : Int) < (2 : Int) * (xs.length : Nat))) && decide (((p.1 : Nat) : Int) < ((p.2 : Nat) : Int))) = true
                  simp only [Bool.and_eq_true, decide_eq_true_eq]
                  omega
                refine ⟨_, rfl, _, rfl, _, _, rfl, .inr ⟨a, _, rfl, pa, fun y hy => ?_, _, rfl, ?_⟩⟩
                · simp only [List.mem_cons, List.not_mem_nil, or_false] at hy
                  rcases hy with rfl | rfl <;> exact ⟨_, .int _⟩
                rw [hline]
                refine iteF ⟨_, rfl, _, rfl, a, ah, [(p.1 : Int), (p.2 : Int)], (match o with | none => [] | some q => [(q.1 : Int), (q.2 : Int)]), rfl, rfl, SqT.of pa, ?_, _, rfl, ?_⟩
                · cases o with
                  | none => exact SqT.of (s6 _ _ hah)
                  | some q => exact SqT.of (s6 _ _ hah)
                have ele : ∀ (R : Bool → Prop), R (notUp p o) → R (Ob.lexAt (fun j => decide (([(p.1 : Int), (p.2 : Int)] : List Int).getD j 0 = ((match o with | none => [] | some q => [(q.1 : Int), (q.2 : Int)]) : List Int).getD j 0)) (fun j => decide (([(p.1 : Int), (p.2 : Int)] : List Int).getD j 0 ≤ ((match o with | none => [] | some q => [(q.1 : Int), (q.2 : Int)]) : List Int).getD j 0)) (decide (([(p.1 : Int), (p.2 : Int)] : List Int).length ≤ ((match o with | none => [] | some q => [(q.1 : Int), (q.2 : Int)]) : List Int).length)) 0 (min ([(p.1 : Int), (p.2 : Int)] : List Int).length ((match o with | none => [] | some q => [(q.1 : Int), (q.2 : Int)]) : List Int).length)) := by
                  intro R r
                  cases o with
                  | none => exact r
                  | some q =>
                    have := le_some p q
                    rw [this]
                    exact r
                refine ele (fun c => if c = true then _ else _) ?_
                refine ite2 (fun hu => ?_) (fun hu => ?_)
                · exact ⟨by rw [hu]; rfl, rfl⟩
                · have hu := Bool.eq_false_iff.mpr hu
                  refine ⟨_, rfl, _, rfl, a, _, _, _, rfl, rfl, SqT.of pa, rfl, tk, _, _, _, rfl, rfl, SqL.of htk3, at1, _, rfl, ?_⟩
                  refine ite2 (fun h1 => ?_) (fun h1 => ?_)
                  · exact ⟨by rw [hu, h1]; rfl, rfl⟩
                  · have h1 := Bool.eq_false_iff.mpr h1
                    refine ⟨_, rfl, _, rfl, a, _, _, _, rfl, rfl, SqT.of pa, rfl, tk, _, _, _, rfl, rfl, SqL.of htk3, at2, _, rfl, ?_, rfl⟩
                    rw [hu, h1]
                    rfl
              · rintro b H4 ⟨rfl, rfl⟩
                refine ite2 (fun hb => ?_) (fun hb => ?_)
                · refine bad ?_ _ (s5.trans s6)
                  show (if (notUp p o || met.contains p.1 || met.contains p.2) = true then some i else _) = some i
                  rw [if_pos hb]
                · have hgo2 : goF (i + 1) (met ++ [p.1, p.2]) (some p) (os.drop (i + 1)) = goF 0 [] none os := by
                    rw [← hgo]
                    show _ = (if (notUp p o || met.contains p.1 || met.contains p.2) = true then some i else _)
                    rw [if_neg hb]
                  have setB : ∀ (r : List Bool) (j : Nat), (r.map V.bl).set j (V.bl true) = (r.set j true).map V.bl := fun r j => (List.map_set).symm
                  have ntt : tk ≠ T := ne_of_none htk2 hT
                  refine ⟨_, rfl, _, rfl, a, _, _, _, rfl, rfl, SqT.of pa, rfl, tk, _, _, p.1, rfl, rfl, htk3, ix_nat (by rw [List.length_map, hbl]; exact q1), ?_⟩
                  rw [setB]
                  have w1 : ∀ b u, H b = some u → (upd (upd H2 T (.tup [V.int (i : Nat), V.ref a])) tk (.lst ((bs.set p.1 true).map V.bl))) b = some u := fun b u e => (upd_ne (ntk _ _ e)).trans (s6 _ _ (s5 _ _ e))
                  have kt : ∀ b zs, (upd H2 T (.tup [V.int (i : Nat), V.ref a])) b = some (.tup zs) → b ≠ tk := fun b zs e => ne_of e htk3 (by intro z; cases z)
                  have pa4 : PAt (upd (upd H2 T (.tup [V.int (i : Nat), V.ref a])) tk (.lst ((bs.set p.1 true).map V.bl))) a p := (upd_ne (kt _ _ pa)).trans pa
                  refine ⟨_, rfl, _, rfl, a, _, _, _, rfl, rfl, SqT.of pa4, rfl, tk, _, _, p.2, rfl, rfl, upd_same, ix_nat (by rw [List.length_map, List.length_set, hbl]; exact hn), ?_⟩
                  rw [setB]
                  refine ⟨_, rfl, a, (bs.set p.1 true).set p.2 true, met ++ [p.1, p.2], some p, _, _, rfl, fun b u e => (upd_ne (ntk _ _ e)).trans (w1 b u e), upd_same, by rw [List.length_set, List.length_set]; exact hbl, fun e he => ?_, (upd_ne (kt _ _ pa)).trans pa4, hgo2⟩
                  have cm : (met ++ [p.1, p.2]).contains e = (met.contains e || decide (e = p.1) || decide (e = p.2)) := by
                    rw [Bool.eq_iff_iff]
                    simp [or_assoc]
                  rw [cm]
                  by_cases e2' : p.2 = e
                  · subst e2'
                    rw [List.getElem?_set_self (by rw [List.length_set, hbl]; exact he)]
                    simp
                  · rw [List.getElem?_set_ne e2']
                    by_cases e1' : p.1 = e
                    · subst e1'
                      rw [List.getElem?_set_self (by rw [hbl]; exact he)]
                      simp
                    · rw [List.getElem?_set_ne e1', hbs e he, decide_eq_false (fun z => e1' z.symm), decide_eq_false (fun z => e2' z.symm), Bool.or_false, Bool.or_false]
        · rintro σ H2 ⟨ah, bs, met, o, v4, v5, rfl, s5, htk2, hbl, hbs, hah, hgo⟩
          rw [hI.len, List.drop_length] at hgo
          have hno : goF 0 [] none os = none := hgo.symm
          have hos := goF_pairs os 0 [] none hno
          generalize os.filterMap id = ps at hos
          subst hos
          obtain ⟨k3, k4⟩ := k2 hno ps rfl
          obtain ⟨as, rfl, hP, hlt⟩ := hI.pairs
          have hla : as.length = ps.length := hP.len
          have nl : (refs as).length = as.length := List.length_map _
          refine ⟨_, rfl, t, (refs as).length / 2, as, ps, rfl, s5 _ _ ht, hP.mono (sameT s5), ⟨by omega, by omega, fun p hp => ?_⟩, by omega, fun H4 b s6 hb => ⟨b, rfl, ?_⟩⟩
          · have := hlt p hp
            omega
          cases b with
          | true => exact iteT (k3 (hb.mp rfl) _ (s5.trans s6))
          | false =>
            have ht4 := s6 _ _ (s5 _ _ ht)
            refine iteF ⟨_, rfl, t, _, rfl, .inr (SqT.of ht4), by show 1 ≤ sizeLine; decide, fun p hp => ?_⟩
            exact k4 (fun hw => by cases hb.mpr hw) _ p (s5.trans (s6.trans (Same.new hp))) upd_same
end
end One
end P_E6

section P_G1
set_option linter.all false
set_option maxRecDepth 100000
set_option maxHeartbeats 4000000
namespace One
open PySem PySem.Spec PyProof.Rows L2
/-! ### promises for runs in which nothing is being shown -/
structure FnG (P : Program) (w : World) (K : PySem.W.Frag) (mg : Str → Option Value) (base : Heap) (CX : CXT) (k : Nat) (f : Addr) (fd : FuncData) (ps : List Str) (sp : Sp) : Prop where
  len : ∀ vs H Q E, sp vs H Q E → vs.length = ps.length
  go : ∀ (A : Around) (outer : List Env) (s : Shared) (H : Hp) (args : Args) (us : List Value) (vs : List V) (Q : VK) (E : XK), A.guards = some [] → Room k A → Env0 P w K mg base A outer s H →
    BindsTo s fd args (ps.zip us) → Vals vs us → sp vs H Q E → codeAny (model P w) A (.call (.ref f) args) (CR CX outer P w H s Q E) s
theorem FnG.of {P : Program} {w : World} {K : PySem.W.Frag} {mg : Str → Option Value} {base : Heap} {CX : CXT} {k : Nat} {f : Addr} {fd : FuncData} {ps : List Str} {sp : Sp} (F : FnOk P w K mg base CX k f fd ps sp) : FnG P w K mg base CX k f fd ps sp :=
  ⟨F.len, fun A outer s H args us vs Q E _ => F.run A outer s H args us vs Q E⟩
theorem FnG.mono {P : Program} {w : World} {K : PySem.W.Frag} {mg : Str → Option Value} {base : Heap} {CX : CXT} {j k : Nat} {f : Addr} {fd : FuncData} {ps : List Str} {sp : Sp} (F : FnG P w K mg base CX j f fd ps sp) (h : j ≤ k) : FnG P w K mg base CX k f fd ps sp :=
  ⟨F.len, fun A outer s H args us vs Q E hg hr => F.go A outer s H args us vs Q E hg (hr.mono h)⟩
section
variable {P : Program} {w : World} {K : PySem.W.Frag} {mg : Str → Option Value} {base : Heap}
/-- a def by its body -/
theorem okG {CX : CXT} {x qual : Str} {st : Stmt} {f : Addr} {fd : FuncData} {N ps : List Str} {k : Nat} {sp : Sp} (F : Fun K x qual st f fd) (S : FnScope N ps (defScope st)) (len : ∀ vs H Q E, sp vs H Q E → vs.length = ps.length)
    (body : ∀ (cdv : Value) (A : Around) (outer : List Env) (s : Shared) (H : Hp) (vs : List V) (Q : VK) (E : XK), A.guards = some [] → Room k (A.deeper (envOfC qual (defScope st) s.heap.objs.size f cdv)) → sp vs H Q E →
      ∃ t, PSs (cxOf CX P w K mg base N qual (defScope st) f cdv A outer s H E) (defBody st) t ∧ t { nx := fun _ H' => Q .non H', rt := Q } (start N vs) H) : FnG P w K mg base CX (k + 1) f fd ps sp := by
  obtain ⟨oc, od, kV, doc, pm, an, cdv, ct, osl, rfl, lk, hcd⟩ := F.ex
  exact ⟨len, fun A outer s H args us vs Q E hg hr e0 hb r hs => LamX.run_ofS lk hcd S hr e0 hb r (len _ _ _ _ hs) fun hr1 => body cdv A outer s H vs Q E hg hr1 hs⟩
/-- .. that lets nothing out -/
theorem okG0 {x qual : Str} {st : Stmt} {f : Addr} {fd : FuncData} {N ps : List Str} {k : Nat} {sp : Sp} (F : Fun K x qual st f fd) (S : FnScope N ps (defScope st)) (len : ∀ vs H Q E, sp vs H Q E → vs.length = ps.length)
    (body : ∀ (cdv : Value) (A : Around) (outer : List Env) (s : Shared) (H : Hp) (vs : List V) (Q : VK) (E : XK), A.guards = some [] → Room k (A.deeper (envOfC qual (defScope st) s.heap.objs.size f cdv)) → sp vs H Q E →
      ∃ t, PSs (cxOf CX0 P w K mg base N qual (defScope st) f cdv A outer s H E).nox (defBody st) t ∧ t { nx := fun _ H' => Q .non H', rt := Q } (start N vs) H) : FnG P w K mg base CX0 (k + 1) f fd ps sp :=
  okG F S len fun cdv A outer s H vs Q E hg hr hs => let ⟨t, h, q⟩ := body cdv A outer s H vs Q E hg hr hs; ⟨t, h.nox, q⟩
end
section
variable {X : Cx} {CX : CXT} {k : Nat} {f : Addr} {fd : FuncData} {ps : List Str} {sp : Sp} {dvs : List V} {ds : List Value} {E : XK} {x : Str} {p pos : Pos} {e : Expr} {es : List Expr} {t : TA}
theorem goG {pins : List (Addr × Obj)} {σ : L2.St} {H : Hp} {s : Shared} {Q : VK} {us : List Value} {vs : List V} (F : FnG X.prog X.w X.K X.mg X.base CX k f fd ps sp) (hgd : X.A.guards = some []) (hr : Room k X.A) (hb : Binds X.K fd ps ds) (hd : Vals dvs ds)
    (hx : Passes CX X E) (I : Inv X pins σ H s) (r : Vals vs us) (h : sp (vs ++ dvs) H Q E) : wpAny (model X.prog X.w) X.A (call (.ref f) us) (EP X pins σ Q) X.xe s := by
  have r2 := r.append hd
  have hl : (us ++ ds).length = ps.length := r2.length.symm.trans (F.len _ _ _ _ h)
  refine wpAny_call (codeAny_mono (F.go X.A X.stack s H ⟨us, []⟩ _ _ Q E hgd hr I.env0 (hb s us I.kIn hl) r2 h) fun r s' hq => ?_)
  match r, hq with
  | .error e, hq => exact hx pins σ H s e s' I hq
  | .ok (.ret u), hq => exact I.after hq
  | .ok .next, hq => exact hq.elim
  | .ok .brk, hq => exact hq.elim
  | .ok .cont, hq => exact hq.elim
theorem pe_callG (F : FnG X.prog X.w X.K X.mg X.base CX k f fd ps sp) (hgd : X.A.guards = some []) (hr : Room k X.A) (hg : Gl X x) (hm : X.mg x = some (.ref f)) (hk : PySem.W.keepIn X.K (.ref f) = true) (hb : Binds X.K fd ps ds) (hd : Vals dvs ds) (hx : Passes CX X E)
    (ha : PA X (e :: es) t) (hdb : (x == ("__debug__" : Str)) = false := by decide) (he : starEach (e :: es) X.env = (false, eval e X.env) :: starEach es X.env := by rfl) (hpl : (backTo pos (starEach es X.env)).any (·.1) = false := by rfl) : PE X (.Call (.Name x p) (e :: es) [] pos) (tCall sp dvs E t) := by
  refine ⟨fun pins s σ H Q I h => wpAny_Call_Name_kw (ld_glob I hg hm ?_ hdb)⟩
  exact PySem.W.callWith_K (h₀ := X.base) I.ok.mod.kin hk (thn (ha.run pos pins s σ H _ I h) fun us s1 ⟨vs, H1, I1, r, q⟩ => ⟨I1.kIn, goG F hgd hr hb hd hx I1 r q⟩) he hpl
/-- repr(..) of a list or a tuple, at any depth -/
theorem call_repr_data (hgd : X.A.guards = some []) (hu : X.A.units + 64 < cLine) : CallR X (.builtin "repr") (fun xs H Q => ∃ (a : Addr) (d : PyData), xs = [.ref a] ∧ Dp X.K H (.ref a) d ∧ d.showable = true ∧ d.hasDict = false ∧ d.depth ≤ 16 ∧ d.shown.length ≤ sizeLine ∧ Q (.str d.shown) H) := by
  intro pins s σ H xs us Q I r h
  obtain ⟨a, d, rfl, hd, h1, h2, h3, h4, q⟩ := h
  obtain ⟨u, rfl, e⟩ := vals1 r
  cases e
  obtain ⟨as, hR⟩ := Dp.reads I d _ _ hd rfl
  exact repr_of_reads' hR h1 (fun z => Bool.noConfusion (h2.symm.trans z)) hgd (by omega) (fun _ _ e => e) (fun h' u tk hk => ⟨.str d.shown, H, I.kept hk, ⟨_, rfl⟩, q⟩) h4
end
end One
end P_G1

section P_G2
set_option linter.all false
set_option maxRecDepth 100000
set_option maxHeartbeats 4000000
namespace One
open PySem PySem.Spec PyProof.Rows L2
/-! ### a tuple of pairs, as data -/
def prD (p : Nat × Nat) : PyData := .tuple [.int (p.1 : Nat), .int (p.2 : Nat)]
def yd (ps : List (Nat × Nat)) : PyData := .tuple (ps.map prD)
theorem dp_pair {K : PySem.W.Frag} {H : Hp} {a : Addr} {p : Nat × Nat} (h : PAt H a p) : Dp K H (.ref a) (prD p) := .tup (SqT.of h) (.cons (.int _) (.cons (.int _) .nil))
theorem dp_pairs {K : PySem.W.Frag} {H : Hp} {as : List Addr} {ps : List (Nat × Nat)} (h : PL H as ps) : DpAll K H (refs as) (ps.map prD) := by
  induction h with
  | nil => exact .nil
  | cons h1 _ ih => exact .cons (dp_pair h1) ih
theorem dp_yd {K : PySem.W.Frag} {H : Hp} {t : Addr} {as : List Addr} {ps : List (Nat × Nat)} (ht : H t = some (.tup (refs as))) (h : PL H as ps) : Dp K H (.ref t) (yd ps) := .tup (SqT.of ht) (dp_pairs h)
theorem int_short : ∀ n : Nat, n < 1000 → (PyData.shown (.int (n : Nat))).length ≤ 8 := by
  have h : ∀ n : Fin 1000, (PyData.shown (.int ((n : Nat) : Int))).length ≤ 8 := by decide +kernel
  exact fun n hn => h ⟨n, hn⟩
theorem log_small {n : Nat} (h : n < 1000) : n.log2 < 1920 := by
  by_cases h0 : n = 0
  · subst h0; decide
  · exact (Nat.log2_lt h0).mpr (Nat.lt_of_lt_of_le h (Nat.le_trans (by decide : 1000 ≤ 2 ^ 10) (Nat.pow_le_pow_right (by decide) (by decide))))
theorem yd_all : ∀ ps : List (Nat × Nat), (∀ p ∈ ps, p.1 < 1000 ∧ p.2 < 1000) → PyData.showableAll (ps.map prD) = true ∧ PyData.hasDictAll (ps.map prD) = false ∧ PyData.depthAll (ps.map prD) ≤ 1 ∧ PyData.leavesShortAll 8 (ps.map prD) = true ∧ PyData.bulkAll (ps.map prD) = 3 * ps.length
  | [], _ => ⟨rfl, rfl, Nat.zero_le _, rfl, rfl⟩
  | p :: r, h => by
    obtain ⟨h1, h2, h3, h4, h5⟩ := yd_all r fun q m => h q (List.mem_cons_of_mem _ m)
    obtain ⟨q1, q2⟩ := h p (List.mem_cons_self ..)
    have a1 : PyData.showable (prD p) = true := by
      show (decide (((p.1 : Nat) : Int).natAbs.log2 < 1920) && (decide (((p.2 : Nat) : Int).natAbs.log2 < 1920) && true)) = true
      simp only [Int.natAbs_natCast, Bool.and_eq_true, decide_eq_true_eq, and_true]
      exact ⟨log_small q1, log_small q2⟩
    have a4 : PyData.leavesShort 8 (prD p) = true := by
      show (decide (_ ≤ 8) && (decide (_ ≤ 8) && true)) = true
      simp only [Bool.and_eq_true, decide_eq_true_eq, and_true]
      exact ⟨int_short _ q1, int_short _ q2⟩
    refine ⟨?_, ?_, ?_, ?_, ?_⟩
    · show (PyData.showable (prD p) && PyData.showableAll _) = true
      rw [a1, h1]; rfl
    · show (PyData.hasDict (prD p) || PyData.hasDictAll _) = false
      rw [h2]; rfl
    · show max (PyData.depth (prD p)) (PyData.depthAll _) ≤ 1
      exact Nat.max_le.mpr ⟨Nat.le_refl 1, h3⟩
    · show (PyData.leavesShort 8 (prD p) && PyData.leavesShortAll 8 _) = true
      rw [a4, h4]; rfl
    · show PyData.bulk (prD p) + 1 + PyData.bulkAll _ = _
      rw [h5]
      show 0 + 1 + (0 + 1 + 0) + 1 + 3 * r.length = 3 * (r.length + 1)
      omega
theorem yd_fine {ps : List (Nat × Nat)} (h : ∀ p ∈ ps, p.1 < 1000 ∧ p.2 < 1000) (hl : ps.length ≤ 1000) : (yd ps).showable = true ∧ (yd ps).hasDict = false ∧ (yd ps).depth ≤ 16 ∧ (yd ps).shown.length ≤ sizeLine := by
  obtain ⟨h1, h2, h3, h4, h5⟩ := yd_all ps h
  refine ⟨h1, h2, ?_, ?_⟩
  · show PyData.depthAll _ + 1 ≤ 16
    omega
  · have q := PyData.shown_le_bulk 8 (Nat.le_refl _) (yd ps) h4
    have e : (yd ps).bulk = 3 * ps.length := h5
    rw [e] at q
    have : (40000 : Nat) ≤ sizeLine := by decide
    omega
def rRepr (K : PySem.W.Frag) : List V → Hp → VK → Prop := fun xs H Q => ∃ (a : Addr) (d : PyData), xs = [.ref a] ∧ Dp K H (.ref a) d ∧ d.showable = true ∧ d.hasDict = false ∧ d.depth ≤ 16 ∧ d.shown.length ≤ sizeLine ∧ Q (.str d.shown) H
/-- repr(..) of a tuple of pairs -/
theorem repr_yd {K : PySem.W.Frag} {H : Hp} {t : Addr} {as : List Addr} {ps : List (Nat × Nat)} {Q : VK} (ht : H t = some (.tup (refs as))) (hp : PL H as ps) (h : ∀ p ∈ ps, p.1 < 1000 ∧ p.2 < 1000) (hl : ps.length ≤ 1000) (q : Q (.str (yd ps).shown) H) : rRepr K [.ref t] H Q := by
  obtain ⟨h1, h2, h3, h4⟩ := yd_fine h hl
  exact ⟨t, _, rfl, dp_yd ht hp, h1, h2, h3, h4, q⟩
theorem cr_repr {X : Cx} (hgd : X.A.guards = some []) (hu : X.A.units + 64 < cLine) : CallR X (.builtin "repr") (rRepr X.K) := call_repr_data hgd hu
end One
end P_G2

section P_X1
set_option linter.all false
set_option maxRecDepth 100000
set_option maxHeartbeats 4000000
/-! An own exception, some way below ValueError, whose __init__ says super().__init__(f'..{f}'); self.f = f -/
namespace One
open PySem PySem.W PySem.Calls PyProof.Rows PySem.HandSPX L2
def xA (fld : Str) (p1 p2 : Pos) : Arguments := { posonlyargs := [], args := [{ arg := "self", annotation := none, pos := p1 }, { arg := fld, annotation := none, pos := p2 }], vararg := none, kwonlyargs := [], kw_defaults := [], kwarg := none, defaults := [] }
abbrev xJ (pre fld : Str) (a3 a4 a5 a6 : Pos) : Expr := .JoinedStr [.Constant (.str pre) 0 a3, .FormattedValue (.Name fld a4) (-1) none a5] a6
abbrev xO (a0 a1 : Pos) : Expr := .Call (.Name "super" a0) [] [] a1
abbrev xB (pre fld : Str) (a0 a1 a2 a3 a4 a5 a6 a7 a8 a9 b0 b1 b2 : Pos) : List Stmt := [.Expr (.Call (.Attribute (xO a0 a1) "__init__" a2) [xJ pre fld a3 a4 a5 a6] [] a7) a8, .Assign [.Attribute (.Name "self" a9) fld b0] (.Name fld b1) b2]
def xS (fld : Str) : Scope := { kind := .function, names := [(PySem.Str.ofString "self", .local), (fld, .local), (PySem.Str.ofString "__class__", .free), (PySem.Str.ofString "super", .globalImplicit)], isGenerator := false, isCoroutine := false, more := [] }

def FldOk (fld : Str) : Prop := fld = "place" ∨ fld = "way" ∨ fld = "many"
/-- the value may be shown in an f-string: some text of bounded length, the heap unchanged -/
def FmtOk (P : Program) (w : World) (h : Heap) (v : Value) : Prop := ∀ (A : Around) (E : Value → Shared → Prop) (s : Shared) (Q : Value → Shared → Prop), A.units + 64 < cLine → (∀ b o, h.get? b = some o → s.heap.get? b = some o) →
  (∀ (m : Str) (u tk : Tok), m.length ≤ 100000 → Q (.str m u) { s with toks := tk }) → wpAny (model P w) A (formatField v Str.empty) Q E s
theorem FmtOk.keeps {P : Program} {w : World} {h h' : Heap} {v : Value} (f : FmtOk P w h v) (k : ∀ b o, h.get? b = some o → h'.get? b = some o) : FmtOk P w h' v := fun A E s Q hu hk q => f A E s Q hu (fun b o e => hk b o (k b o e)) q
/-- the form of such an __init__ -/
def Shape (st : Stmt) (fld : Str) : Prop := ∃ (p1 p2 : Pos) (pre : Str) (a0 a1 a2 a3 a4 a5 a6 a7 a8 a9 b0 b1 b2 : Pos), defArgs st = xA fld p1 p2 ∧ defBody st = xB pre fld a0 a1 a2 a3 a4 a5 a6 a7 a8 a9 b0 b1 b2 ∧ defScope st = xS fld ∧ pre.length ≤ 1000 ∧
  ∀ env, eval (.Call (.Attribute (xO a0 a1) "__init__" a2) [xJ pre fld a3 a4 a5 a6] [] a7) env = (do
    let ov ← attributeBase (xO a0 a1) "__init__" env (eval (xO a0 a1) env)
    standAt a2.atName
    let (f, first) ← holding [ov] (getMethod ov "__init__" (do return (← importBound (xO a0 a1) env).getD true))
    callWith a7 f first (backTo a7 (starEach [xJ pre fld a3 a4 a5 a6] env)) [])
/-- what the written part says of such a class, at C, and of its __init__, at fI -/
structure OwnTxt (P : Program) (K : Frag) (st : Stmt) (fld : Str) (C fI : Addr) : Prop where
  cls : ∃ nm q N bs bm sn sub ab col dd k0 k1 k2 k3 k5, K.lookup C = some (excClassObj nm q C N bs bm true sn sub ab col dd k0 k1 k2 k3 k5 "ValueError.__new__") ∧ refsVE bm = true ∧ alongIn K "__init__" (((Value.ref C :: bm).dropWhile (· != .ref C)).drop 1) = some (some (.builtin "ValueError.__init__"))
  sa : findIn K (.ref C) "__setattr__" = some (some (.builtin "object.__setattr__"))
  noF : findIn K (.ref C) fld = some none
  veB : subIn K (.ref C) (.type "ValueError") = some true
  self : mroIn K C (.ref C) = some true
  op : nsIn K cStatics "thirdparty.any" = some none
  top : (P.main.scope.names.lookup ("super" : Str)).isSome = false
  shape : Shape st fld
  fn : ∃ (oc : Value) (od : Option Addr) (qual : Str) (doc pm : Value) (an : Option Addr) (cda cc : Addr) (ct : Value) (osl : Array (Option Value)) (ccl cl : Value) (cdd cld : Option Addr) (vs : Array Value) (ccs csl : Array (Option Value)) (file : Str) (tf : Tok),
    K.lookup fI = some ⟨oc, od, .func (ksFn "__init__" qual (defArgs st) (defBody st) (defScope st) .none .none doc pm an (.ref cda) ct cc), osl⟩ ∧ codeIn K (.ref cda) qual = true ∧ K.lookup cda = some ⟨ccl, cdd, .fields vs, ccs⟩ ∧ vs[2]? = some (.str file tf) ∧
    ((P.main.file : Str) == file) = true ∧ K.lookup cc = some ⟨cl, cld, .cell (some (.ref C)), csl⟩
theorem ns_but {h h' : Heap} {a : Addr} {m : Str → Option Value} (hn : h.Ns a m) (k : ∀ o, h.get? a = some o → h'.get? a = some o) : h'.Ns a m := by
  obtain ⟨o, es, ep, e, r⟩ := hn
  exact ⟨o, es, ep, k o e, r⟩
theorem kept_but0 {K : Frag} {h h' : Heap} {x : Addr} (X : K.In h) (hx : ∀ o, K.lookup x = some o → False) (k : ∀ b o, b ≠ x → h.get? b = some o → h'.get? b = some o) : K.In h' := fun a o e => k a o (fun z => hx o (z ▸ e)) (X a o e)
section
variable {P : Program} {w : World} {A : Around} {E : Value → Shared → Prop} {R : Result → Shared → Prop} {s : Shared} {K : Frag} {mg mb : Str → Option Value} {C fI : Addr} {fld : Str} {st : Stmt}
theorem x_init (hf : FldOk fld) (T : OwnTxt P K st fld C fI) {x t0 : Addr} {v : Value} (X : K.In s.heap) (hlim : s.heap.NoLimit) (hg : s.heap.Ns mainGlobals mg) (noS : mg "super" = none) (hb : s.heap.Ns builtinsNs mb) (hbb : ∀ y : Str, y ≠ "__name__" → mb y = bootBuiltins y)
    (hx : s.heap.get? x = some (excO C t0)) (hnx : K.lookup x = none) (hroom : A.depth < recursionLimit) (hu : A.units + 100 < cLine) (hv : FmtOk P w s.heap v)
    (hq : ∀ h' tk dx, (∀ b o, b ≠ x → s.heap.get? b = some o → h'.get? b = some o) → (∃ t1 : Addr, h'.get? x = some { cls := .ref C, dict := some dx, data := .fields #[.ref t1, .none, .none, .none, .bool false, .none] }) → s.heap.objs.size ≤ dx → dx ≠ x → h'.Ns1 dx (fun y => if y = fld then some v else none) → R (.ok (.ret .none)) { s with heap := h', toks := tk }) :
    codeAny (model P w) A (.call (.ref fI) ⟨[.ref x, v], []⟩) R s := by
  obtain ⟨oc, od, qual, doc, pm, an, cda, cc, ct, osl, ccl, cl, cdd, cld, vs, ccs, csl, file, tf, ho, hcd, hcode, hvs, hfile, hcell⟩ := T.fn
  obtain ⟨p1, p2, pre, a0, a1, a2, a3, a4, a5, a6, a7, a8, a9, b0, b1, b2, eA, eB, eS, hpre, hcall⟩ := T.shape
  rw [eA, eB, eS] at ho
  obtain ⟨nm, qn, N, bs, bm, sn, sub, ab, col, dd, k0, k1, k2, k3, k5, hC, hbm, hal⟩ := T.cls
  have hcl : clsIn K C = some { name := nm, bases := bs, mro := .ref C :: bm, ns := N, qualname := qn, hasDict := true, slotNames := sn, subclasses := sub, abstract := ab, collection := col, hasDel := false } := by unfold clsIn; rw [hC] <;> rfl
  have hxC : x ≠ C := fun z => by
    have e1 := X _ _ hC
    rw [← z, hx] at e1
    cases e1
  refine ks_codeAny_call_defAt (fd := ksFn "__init__" qual (xA fld p1 p2) (xB pre fld a0 a1 a2 a3 a4 a5 a6 a7 a8 a9 b0 b1 b2) (xS fld) .none .none doc pm an (.ref cda) ct cc) (body := xB pre fld a0 a1 a2 a3 a4 a5 a6 a7 a8 a9 b0 b1 b2) (binds := [("self", .ref x), (fld, v)]) hroom (X _ _ ho) rfl hlim (codeRec_of X hcd) rfl
    (by rcases hf with rfl | rfl | rfl <;> exact BindsTo.of_eq (by first | rfl | with_unfolding_all rfl)) (fun y hy => by
      have hy : y ∈ [(PySem.Str.ofString "self", NameKind.local), (fld, .local), (PySem.Str.ofString "__class__", .free), (PySem.Str.ofString "super", .globalImplicit)] := hy
      simp only [List.mem_cons, List.not_mem_nil, or_false] at hy
      rcases hy with rfl | rfl | rfl | rfl <;> exact fun z => nomatch z)
    (fun y hy => by
      simp only [List.mem_cons, List.not_mem_nil, or_false] at hy
      rcases hf with rfl | rfl | rfl <;> rcases hy with rfl | rfl <;> first | rfl | with_unfolding_all rfl | kernel_rfl) (fun h0 hn k => ?_) rfl rfl rfl
  have kS : (xS fld).names.lookup ("super" : Str) = some .globalImplicit := by rcases hf with rfl | rfl | rfl <;> decide +kernel
  have kC : (xS fld).names.lookup ("__class__" : Str) = some .free := by rcases hf with rfl | rfl | rfl <;> decide +kernel
  have kX : (xS fld).names.lookup ("self" : Str) = some .local := by rcases hf with rfl | rfl | rfl <;> decide +kernel
  have kF : (xS fld).names.lookup fld = some .local := by rcases hf with rfl | rfl | rfl <;> decide +kernel
  have mX : ([(PySem.Str.ofString "self", Value.ref x), (fld, v)] : List (Str × Value)).reverse.lookup ("self" : Str) = some (.ref x) := by rcases hf with rfl | rfl | rfl <;> first | rfl | with_unfolding_all rfl | kernel_rfl
  have mF : ([(PySem.Str.ofString "self", Value.ref x), (fld, v)] : List (Str × Value)).reverse.lookup fld = some v := by rcases hf with rfl | rfl | rfl <;> first | rfl | with_unfolding_all rfl | kernel_rfl
  have dF : (fld == ("__debug__" : Str)) = false := by rcases hf with rfl | rfl | rfl <;> decide +kernel
  have hLx : s.heap.objs.size ≠ x := Nat.ne_of_gt (Heap.lt_size hx)
  have X0 : K.In h0 := X.keeps k
  have hC0 := X0 _ _ hC
  obtain ⟨hp, g, d, t, os⟩ := s
  show _root_.PySem.wpAt _ _ (.func (xB pre fld a0 a1 a2 a3 a4 a5 a6 a7 a8 a9 b0 b1 b2) (ksEnv qual (xS fld) hp.objs.size fI (.ref cda) cc)) (execs (xB pre fld a0 a1 a2 a3 a4 a5 a6 a7 a8 a9 b0 b1 b2) (ksEnv qual (xS fld) hp.objs.size fI (.ref cda) cc)) _ _ _
  refine ks_wpAt_execs_cons (ks_wpAt_Expr_any (ks_wpAt_MethodCall (ks_wpAt_super_base (env := ksEnv qual (xS fld) hp.objs.size fI (.ref cda) cc) kS kC rfl rfl (X0 _ _ ho) rfl rfl rfl (X0 _ _ hcode) rfl hvs hfile T.top ?_) (hcall _)))
  refine ks_loadName_global rfl kS (loadGlobal_builtin (env := ksEnv qual (xS fld) hp.objs.size fI (.ref cda) cc) (hg.keeps k) noS (hb.keeps k) ((hbb _ (by decide +kernel)).trans PyProof.Rows.Boot.«super») ⟨rfl, ?_⟩)
  refine wpAny_loadName_free rfl kC rfl ⟨_, X0 _ _ hcell, rfl⟩ ?_
  refine wpAny_loadName_local rfl kX hn mX ?_
  refine ks_wpAny_isType_cls hC0 rfl ⟨rfl, ?_⟩
  refine ks_wpAny_call_super hC0 rfl (k _ _ hx) rfl (fun c e => nomatch e) (looks_mroIn X0 T.self) (fun h1 hso k1 => ?_)
  have X1 := X0.keeps k1
  have hx1 := k1 _ _ (k _ _ hx)
  have hns1 : h1.Ns hp.objs.size _ := ns_but hn fun o e => k1 _ _ e
  have hI : Looks (model P w) h1 (isInstance (.ref x) (.type "ValueError")) true := (PySem.W.InstAt.type (od := none) ⟨hx1, rfl, rfl, trivial⟩).andThen (looks_subIn X1 T.veB)
  refine kxs_getMethod kxs_ValueError hso (looks_opaque X1 T.op) (l₀ := Value.ref C :: bm) (fun A Q E s k q => wpAny_bind ((looks_clsIn X1 hcl) A _ E s k (wpAny_pure q))) rfl X1 hal hI hxC rfl ?_
  have k2 : ∀ b o, h1.get? b = some o → (h1.push (kxs_mw "ValueError.__init__" x)).get? b = some o := fun b o e => Heap.get?_push_of_some _ e
  have hmw : (h1.push (kxs_mw "ValueError.__init__" x)).get? h1.objs.size = some (kxs_mw "ValueError.__init__" x) := Heap.get?_push_at rfl rfl
  refine kxs_callWith (i := "ValueError.__init__") (x := x) rfl (evalArgs_plain (Calls.spliced_cons ?_))
  have hns2 := ns_but hns1 fun o e => k2 _ _ e
  have hul : (A.deeper (ksEnv qual (xS fld) hp.objs.size fI (.ref cda) cc)).units + 64 < cLine := by
    show A.units + 3 + 64 < cLine
    omega
  refine JoinedStr_many (pos := a6) (joinParts_cons (Constant_str ⟨?_, ?_⟩))
  · show (Str.empty ++ pre).length ≤ sizeLine
    rw [strLen_append, sizeLine_eq]
    have : Str.empty.length = 0 := rfl
    omega
  refine joinParts_cons (FormattedValue_plain ?_)
  refine wpAny_Name (wpAny_loadName_local rfl kF hns2 mF ?_) dF
  refine hv _ _ _ _ hul (fun b o e => k2 _ _ (k1 _ _ (k _ _ e))) fun m u tk hm => ?_
  have hlen : (Str.empty ++ pre ++ m).length ≤ sizeLine := by
    rw [strLen_append, strLen_append, sizeLine_eq]
    have : Str.empty.length = 0 := rfl
    omega
  refine ⟨hlen, joinParts_nil ?_ hlen⟩
  refine Calls.spliced_nil ⟨hmw, ?_⟩
  have hx2 : (h1.push (kxs_mw "ValueError.__init__" x)).get? x = some (excO C t0) := k2 _ _ hx1
  refine wpAny_call (codeAny_of_tree ?_)
  show wpAny _ _ (callAny (.ref h1.objs.size) _) _ _ _
  simp only [callAny]
  refine wpAny_bind (wpAny_load hmw ?_); simp only [kxs_mw, show (Value.type "method-wrapper" == Value.type "method" || Value.type "method-wrapper" == Value.type "builtin_function_or_method" || Value.type "method-wrapper" == Value.type "method-wrapper") = true by decide, if_true]
  refine KFB.if_so (by decide) ?_
  refine wpAny_bind (check_bound_init F.excBase_ValueError.toExcCallFacts (k2 _ _ (k1 _ _ hC0)) hx2 rfl ?_)
  refine wpAny_bind (wpAny_pure (wpAny_pure ?_))
  refine ⟨plainId_quiet F.excBase_ValueError.init.plain _, codeAny_builtin F.excBase_ValueError.initEntry ?_⟩
  refine exc_init_tree (cls := .ref C) (t0 := t0) (dv := none) (c2 := .none) (c3 := .none) (b4 := .bool false) hx2 (by show 1 ≤ sizeLine; rw [sizeLine_eq]; omega) fun h3 k3 hx3 _ => ?_
  have X3 : K.In h3 := kept_but0 (X1.keeps k2) (fun o z => nomatch hnx.symm.trans z) k3
  have hns3 := ns_but hns2 fun o e => k3 _ _ hLx e
  refine _root_.PySem.wpAt_of_wpAny (wpAny_execs_cons (plainObj_wpAny_Assign_Attribute ?_ ?_))
  · refine wpAny_Name (wpAny_loadName_local rfl kF hns3 mF ?_) dF
    refine wpAny_Name (wpAny_loadName_local rfl kX hns3 mX ?_) (by decide)
    refine set_plain X3 (od := none) ⟨hx3, rfl, rfl, trivial⟩ T.sa ?_
    refine exc_osa X3 hx3 hcl (show refsVE (.ref C :: bm) = true from hbm) rfl T.noF (fun h4 tk4 dx k4 dn dne hx4 hn4 => ?_)
    refine wpAny_execs_nil (hq h4 tk4 dx (fun b o hb e => k4 b o hb (k3 b o hb (k2 _ _ (k1 _ _ (k _ _ e))))) ⟨_, hx4⟩ ?_ dne hn4)
    have z1 := Heap.lt_size (show h3.get? hp.objs.size = some _ from hns3.choose_spec.choose_spec.choose_spec.1)
    exact Nat.le_of_lt (Nat.lt_of_lt_of_le z1 dn)
  · rcases hf with rfl | rfl | rfl <;> rfl
end
end One
end P_X1

section P_X2
set_option linter.all false
set_option maxRecDepth 100000
set_option maxHeartbeats 4000000
namespace One
open PySem PySem.W PySem.Calls PyProof.Rows PySem.HandSPX L2
/-- what an own exception is made with: a small number, a tuple of such -/
inductive Shown (K : Frag) (H : Hp) : V → Prop
  | int (n : Nat) (h : n < 1000) : Shown K H (.int (n : Nat))
  | tup {a : Addr} (ns : List Nat) (ht : SqT K H a (ns.map fun n => V.int (n : Nat))) (hl : ns.length ≤ 100) (h : ∀ n ∈ ns, n < 1000) : Shown K H (.ref a)
theorem repr_nats {P : Program} {w : World} : ∀ {ns : List Nat} {us : List Value}, Vals (ns.map fun n => V.int (n : Nat)) us → (∀ n ∈ ns, n < 1000) → ReprAll P w us (ns.map fun n => ((toString ((n : Nat) : Int) : String) : Str))
  | [], _, r, _ => by
    cases r
    exact .nil
  | n :: l, _, r, h => by
    cases r with
    | cons r1 r2 =>
      obtain ⟨t, rfl⟩ := r1
      exact .cons (ReprIs.int t (by rw [Int.natAbs_natCast]; exact log_small (h n (List.mem_cons_self ..)))) (repr_nats r2 fun z hz => h z (List.mem_cons_of_mem _ hz))
theorem nats_text : ∀ ns : List Nat, (∀ n ∈ ns, n < 1000) → ((ns.map fun n => ((toString ((n : Nat) : Int) : String) : Str)).map (·.length)).sum ≤ 8 * ns.length
  | [], _ => Nat.zero_le _
  | n :: r, h => by
    have h1 := nats_text r fun z hz => h z (List.mem_cons_of_mem _ hz)
    have h2 : ((toString ((n : Nat) : Int) : String) : Str).length ≤ 8 := int_short n (h n (List.mem_cons_self ..))
    rw [List.map_cons, List.map_cons, List.sum_cons, List.length_cons]
    omega
theorem Shown.fmt {X : Cx} {pins : List (Addr × Obj)} {σ : L2.St} {H : Hp} {s : Shared} {v : V} {u : Value} (I : Inv X pins σ H s) (h : Shown X.K H v) (r : RelV v u) : FmtOk X.prog X.w s.heap u := by
  intro A E s1 Q hu hk q
  cases h with
  | int n hn =>
    obtain ⟨t, rfl⟩ := r
    exact wpAny_formatField_int (by rw [Int.natAbs_natCast]; exact log_small hn) (q _ _ _ (Nat.le_trans (int_short n hn) (by decide)))
  | tup ns ht hl hn =>
    cases r
    obtain ⟨its, rv, ⟨o, ho, hcl, n, hd⟩, _⟩ := I.tuple ht
    have e1 := tupleText_len_le (ns.map fun n => ((toString ((n : Nat) : Int) : String) : Str))
    have e2 := nats_text ns hn
    rw [List.length_map] at e1
    exact fmt_tuple (ts := ns.map fun n => ((toString ((n : Nat) : Int) : String) : Str)) (by omega) (hk _ _ ho) hcl hd (repr_nats rv hn) (by rw [sizeLine_eq]; omega) fun m u tk hm => q m u tk (by omega)
/-- the class under its name -/
structure OwnCls (K : Frag) (mg : Str → Option Value) (nm : Str) (C fI : Addr) : Prop where
  g : mg nm = some (.ref C)
  iC : findIn K (.ref C) "__init__" = some (some (.ref fI))
  tC : typeIn K (.ref fI) = some (.type "function")
  kC : keepIn K (.ref C) = true
  exC : subIn K (.ref C) (.type "BaseException") = some true
  tyC : typeIn K (.ref C) = some (.type "type")
/-- nm(e) -/
def tMkX (K : Frag) (fld : Str) (C : Addr) (ta : TA) : L2.St → Hp → XK → Prop := fun σ H Q => ta σ H fun vs H1 => ∃ v, vs = [v] ∧ Shown K H1 v ∧ ∀ d, H1 d = none → Q (.ref C) (some d) (upd H1 d (.xd [(fld, v)]))
theorem relO_one {v : V} {u : Value} {g : Str} (r : RelV v u) (f : Str) : RelO (List.lookup f [(g, v)]) (if f = g then some u else none) := by
  rw [lookup_put]
  by_cases e : f = g
  · rw [if_pos e, if_pos e]
    exact r
  · rw [if_neg e, if_neg e]
    trivial
section
variable {X : Cx} {C fI : Addr}
theorem pmk_x {nm fld : Str} {st : Stmt} {a : Expr} {ta : TA} {p pos : Pos} {k : Nat} (hf : FldOk fld) (T : OwnTxt X.prog X.K st fld C fI) (O : OwnCls X.K X.mg nm C fI) (noS : X.mg "super" = none) (hr : Room k X.A) (ha : PA X [a] ta) (hg : Gl X nm) (hdb : (nm == ("__debug__" : Str)) = false := by decide) (he : starEach (a :: []) X.env = (false, eval a X.env) :: starEach [] X.env := by rfl) (hpl : (backTo pos (starEach [] X.env)).any (·.1) = false := by rfl) : PMk X (.Call (.Name nm p) [a] [] pos) (tMkX X.K fld C ta) := by
  intro pins s σ H Q I h
  refine wpAny_Call_Name_kw (ld_glob I hg O.g ?_ hdb)
  refine PySem.W.callWith_K (h₀ := X.base) I.ok.mod.kin O.kC (thn (ha.run pos pins s σ H _ I h) fun us s1 ⟨vs, H1, I1, r1, v, ev, hv, q1⟩ => ⟨I1.kIn, ?_⟩) he hpl
  subst ev
  obtain ⟨v', rfl, rv⟩ := vals1 r1
  obtain ⟨nm', qn, N, bs, bm, sn, sub, ab, col, dd, k0, k1, k2, k3, k5, hC, hbm, hal⟩ := T.cls
  have hfm := hv.fmt I1 rv
  have hX := I1.kIn
  have hlim := I1.nolimit
  obtain ⟨_, mgl, ⟨mb, hbn, hbb⟩, _⟩ := I1.mod
  have hbk := I1.bk
  show wpAny _ _ (call (.ref C) [v']) _ _ _
  obtain ⟨hp, g, dr, tk, os⟩ := s1
  have kk : ∀ b o, hp.get? b = some o → ((hp.push (PySem.W.kdv_tup [v'])).push (PySem.HandSPX.excO C hp.objs.size)).get? b = some o := fun b o e => Heap.get?_push_of_some _ (Heap.get?_push_of_some _ e)
  have hget : ((hp.push (PySem.W.kdv_tup [v'])).push (PySem.HandSPX.excO C hp.objs.size)).get? (hp.objs.size + 1) = some (PySem.HandSPX.excO C hp.objs.size) := by heap_get
  have hnx : X.K.lookup (hp.objs.size + 1) = none := by
    match e : X.K.lookup (hp.objs.size + 1) with
    | none => rfl
    | some o => exact absurd (Nat.lt_of_succ_lt (Heap.lt_size (hX _ _ e))) (Nat.lt_irrefl _)
  refine wpAny_call (PySem.HandSPX.call_own F.excBase_ValueError (fun Y => PySem.HandSPX.refsVE_contains Y bm hbm) (hX _ _ hC) (PySem.W.looks_findIn hX O.iC) (fun self => PySem.W.bind_fn hX self O.tC) (by show 1 ≤ sizeLine; rw [sizeLine_eq]; omega) ?_)
  have hdp := hr.dp
  have hun := hr.un
  refine x_init (s := ⟨(hp.push (PySem.W.kdv_tup [v'])).push (PySem.HandSPX.excO C hp.objs.size), g, dr, tk, os⟩) hf T (hX.keeps kk) (hlim.keeps kk) ((mgl.keeps hbk).keeps kk) noS ((hbn.keeps hbk).keeps kk) hbb hget hnx ?_ ?_ (hfm.keeps kk) fun h' tk' dx k' hx dn dne hns => ?_
  · rw [make_depth]
    omega
  · rw [make_units]
    omega
  · refine ⟨rfl, ?_⟩
    show MkP X pins σ Q (.ref (hp.objs.size + 1)) ⟨h', g, dr, tk', os⟩
    obtain ⟨t1, hx⟩ := hx
    have dn : hp.objs.size + 1 + 1 ≤ dx := by
      first
        | (simpa only [Heap.size_push] using dn)
        | exact dn
    have dbig : hp.objs.size ≤ dx := by omega
    obtain ⟨G', g1, g2⟩ := restrict h' fun b => decide (b ≠ hp.objs.size + 1)
    have gk : ∀ b, b ≠ hp.objs.size + 1 → G'.get? b = h'.get? b := fun b hb => g1 b (decide_eq_true hb)
    have ge : G'.get? (hp.objs.size + 1) = none := g2 _ (by simp)
    have ne : ∀ {b : Addr} {o : Obj}, hp.get? b = some o → b ≠ hp.objs.size + 1 := fun {b o} q => Nat.ne_of_lt (Nat.lt_succ_of_lt (Heap.lt_size q))
    have old : ∀ b o, hp.get? b = some o → G'.get? b = some o := fun b o q => (gk b (ne q)).trans (k' b o (ne q) (kk b o q))
    have ob : ObjOk X.prog X.w (upd H1 dx (.xd [(fld, v)])) G' dx (.xd [(fld, v)]) := ⟨_, hns.at (fun o q => (gk dx dne).trans q), fun f => relO_one rv f⟩
    have J : Inv X pins σ (upd H1 dx (.xd [(fld, v)])) ⟨G', g, dr, tk', os⟩ := I1.laid (t' := tk') old dbig ob
    refine ⟨hp.objs.size + 1, _, _, ⟨G', g, dr, tk', os⟩, _, .ref C, some dx, rfl, J, fun b o q => ?_, ge, hx, ⟨rfl, rfl⟩, rfl, rfl, ?_, rfl, I1.bare, raises_own O.exC O.tyC, q1 dx (I1.hok.fresh dbig)⟩
    · by_cases hb : b = hp.objs.size + 1
      · cases (hb ▸ ge).symm.trans (show G'.get? b = some o from q)
      · exact (gk b hb).symm.trans q
    · rw [upd_ne (Ne.symm dne)]
      exact I1.hok.fresh (Nat.le_succ _)
/-- raise nm(e) -/
def tRaiseX (K : Frag) (fld : Str) (C : Addr) (W : WX) (ta : TA) : TS := fun _ σ H => tMkX K fld C ta σ H fun cls d H' => W cls d σ H'
theorem ps_raiseX {nm fld : Str} {st : Stmt} {a : Expr} {ta : TA} {W : WX} {p pos pos2 : Pos} {k : Nat} (hc : X.calm = true) (hf : FldOk fld) (T : OwnTxt X.prog X.K st fld C fI) (O : OwnCls X.K X.mg nm C fI) (noS : X.mg "super" = none) (hr : Room k X.A) (tk : Takes X W) (ha : PA X [a] ta) (hg : Gl X nm) (hdb : (nm == ("__debug__" : Str)) = false := by decide) (he : starEach (a :: []) X.env = (false, eval a X.env) :: starEach [] X.env := by rfl) (hpl : (backTo pos (starEach [] X.env)).any (·.1) = false := by rfl) :
    PS X (.Raise (some (.Call (.Name nm p) [a] [] pos)) none pos2) (tRaiseX X.K fld C W ta) := ps_raise hc tk (pmk_x hf T O noS hr ha hg hdb he hpl)
end
end One
end P_X2

section P_X3
set_option linter.all false
set_option maxRecDepth 100000
set_option maxHeartbeats 4000000
namespace One
open PySem PySem.Spec PyProof.Rows L2
/-! ### try: .. except x as n: m = n / rest, where the rest may look at the exception that m holds -/
/-- slot i is n's, slot j is m's -/
def wHold (K : PySem.W.Frag) (c : Value) (i j : Nat) (tE : Addr → Value → Option Addr → TS) (Wout : WX) (D : Ends) : WX := fun cls d σ H =>
  ∃ b, PySem.W.exmOne K cls c = some b ∧ (b = true → ∀ a, H a = none → tE a cls d D (((σ.set i (some (.ref a))).set j (some (.ref a))).set i none) H) ∧ (b = false → Wout cls d σ H)
theorem tr_tr {X : Cx} {pins : List (Addr × Obj)} {σ : L2.St} {H : Hp} {s : Shared} {q : Addr × Obj} {xe : Value → Shared → Prop} (I : Inv (X.suite q.1 (q :: (X.pn ++ pins))) [] σ H s) (ok : X.Ok) : Inv (X.tr (q :: (X.pn ++ pins)) xe) [] σ H s :=
  ⟨ok.toTry _ _, I.os, I.bare, I.base, I.loc, I.cell, I.free, I.freeC, I.pin, I.hok, I.len⟩
theorem of_tr {X : Cx} {pins pn' : List (Addr × Obj)} {σ : L2.St} {H : Hp} {s : Shared} {q : Addr × Obj} {xe : Value → Shared → Prop} (I : Inv (X.tr (q :: (X.pn ++ pins)) xe) pn' σ H s) (ok : X.Ok) : Inv X pins σ H s :=
  ⟨ok, I.os, I.bare, I.base, I.loc, I.cell, I.free, I.freeC, fun y hy => I.pin y (List.mem_append_left _ (List.mem_cons_of_mem _ hy)), I.hok, I.len⟩
theorem sp_tr {X : Cx} {pins : List (Addr × Obj)} {q : Addr × Obj} {xe : Value → Shared → Prop} {D : Ends} {f : Flow} {s : Shared} (ok : X.Ok) (h : SP (X.tr (q :: (X.pn ++ pins)) xe) [] D f s) : SP X pins D f s := by
  match f, h with
  | .next, ⟨σ', H', J, z⟩ => exact ⟨σ', H', of_tr J ok, z⟩
  | .brk, ⟨σ', H', J, z⟩ => exact ⟨σ', H', of_tr J ok, z⟩
  | .cont, ⟨σ', H', J, z⟩ => exact ⟨σ', H', of_tr J ok, z⟩
  | .ret u, ⟨v, σ', H', J, r, z⟩ => exact ⟨v, σ', H', of_tr J ok, r, z⟩
section
variable {X : Cx} {x n m : Str} {c : Value} {i j : Nat} {body rest : List Stmt} {np mp mp2 ap pos pos' : Pos} {tb : WX → TS} {t0 : TS} {tE : Addr → Value → Option Addr → TS} {Wout : WX}
theorem pss_hold (hs : X.stack = X.env :: X.outer) (hf : X.env.frame = some X.env.locals) (nd : X.N.Nodup) (hi : X.N[i]? = some n) (hln : X.env.kindOf n = some .local) (hj : X.N[j]? = some m) (hlm : X.env.kindOf m = some .local) (hc : Names X x c) (tk : Takes X Wout)
    (hdb : (n == ("__debug__" : Str)) = false) (hdc : (n == ("__classdict__" : Str)) = false)
    (hb : ∀ (W : WX) (pn : List (Addr × Obj)) (xe : Value → Shared → Prop), Takes (X.tr pn xe) W → PassesOwn (model X.prog X.w) X.A X.env xe → PSs (X.tr pn xe) body (tb W)) (h0 : PSs X rest t0)
    (hE : ∀ (a : Addr) (oe : Obj) (cls : Value) (d : Option Addr) (pn : List (Addr × Obj)), Zc cls d oe → (∃ vs, oe.data = .fields vs) → PSs (X.tr ((a, oe) :: pn) X.xe) rest (tE a cls d)) :
    PSs X (.Try body [.ExceptHandler (some (.Name x np)) (some n) [.Assign [.Name m mp] (.Name n mp2) ap] pos'] [] [] pos :: rest) (fun D σ H => tb (wHold X.K c i j tE Wout D) { D with nx := t0 D } σ H) := by
  refine ⟨fun pins s σ H D I h => ?_⟩
  have ok := I.ok
  have frs0 : X.A.frames = some (X.env :: X.outer) := ok.frames.trans (by rw [hs])
  refine wpAny_execs_cons (wpAny_Try_except ?_)
  let Q2 : Flow → Shared → Prop := fun f s' => match f with
    | .next => wpAny (model X.prog X.w) X.A (execs rest X.env) (SP X pins D) X.xe s'
    | f => SP X pins D f s'
  refine wpAny_mono ((hb (wHold X.K c i j tE Wout D) (X.pn ++ pins) (fun e s1 => wpAny (model X.prog X.w) X.A (noteFrame e X.env) (fun _ s2 => wpAny (model X.prog X.w) X.A (setFlight e none) (fun _ s3 =>
    wpAny (model X.prog X.w) X.A (handleBy e X.env [.ExceptHandler (some (.Name x np)) (some n) [.Assign [.Name m mp] (.Name n mp2) ap] pos']) Q2 X.xe s3) X.xe s2) X.xe s1) (fun u s' air => ?_) PassesOwn.looking).run [] s σ H { D with nx := t0 D } (I.toTry _) h) (fun f s1 hsp => ?_) (fun e s1 he => he)
  · obtain ⟨a, B, sI, pins', σ', H', cls, d, rfl, Jx, nb, up, sky, na, os, ag, b, hb1, yes, no⟩ := air
    have Jo : Inv X pins σ' H' sI := Jx.ofTry ok
    refine (show wpAny (model X.prog X.w) X.A (noteFrame (.ref a) X.env) _ _ _ from ?_)
    refine Sky.land Zc.steady frs0 hf (hs ▸ sky : Sky B (X.env :: X.outer) a (Zc cls d) X.env.locals s'.heap) fun hpl fll upl => ?_
    have Jl : Inv X pins σ' H' { s' with heap := hpl } := Jo.landed nb fll.1 (up.trans upl) os ag
    obtain ⟨oel, vsl, hel, hzl, hdl⟩ := fll.there
    have away : a ∉ frs (X.env :: X.outer) := fun hm => by
      obtain ⟨_, o', e', hnf⟩ := fll.2.2.1.mem hm
      cases hel.symm.trans e'
      exact hnf _ hdl
    have nL : a ≠ X.env.locals := fun z => away (List.mem_filterMap.mpr ⟨X.env, List.mem_cons_self, hf.trans (congrArg some z.symm)⟩)
    have nS : a ∉ X.fs := fun hm => by
      obtain ⟨e, he, q⟩ := List.mem_filterMap.mp hm
      exact away (List.mem_filterMap.mpr ⟨e, List.mem_cons_of_mem _ he, q⟩)
    have Sl := Jl.suite hel hdl na nL nS
    refine wpAny_handleBy_cons (codeAny_handlers_test ?_) (by intro q; cases q)
    have Lty : PySem.W.Looks (model X.prog X.w) hpl (typeOf (.ref a)) cls := fun A Q E s k q => wpAny_typeOf_ref (k _ _ hel) (by rw [hzl.1]; exact q)
    have look : ∀ {Q : Value → Shared → Prop} {E : Value → Shared → Prop}, Q c { s' with heap := hpl } → wpAny (model X.prog X.w) (X.A.mark (some (.ref a))) (eval (.Name x np) X.env) Q E { s' with heap := hpl } := fun {Q E} q => by
      obtain ⟨g1, g2, g3 | ⟨g3, g4, g5⟩⟩ := hc
      · exact ld_glob (X := X.suite a ((a, oel) :: (X.pn ++ pins))) Sl g1 g3 q g2
      · exact ld_blt (X := X.suite a ((a, oel) :: (X.pn ++ pins))) Sl g1 g3 g4 q g5 g2
    refine look ((PySem.W.exm_one (M := model X.prog X.w) Jl.kIn Lty hb1).here ?_)
    cases b with
    | true =>
      refine codeAny_handlers_suite_as (HandSPX.lands_againZ fll fun hpm flm upm => ?_)
      have Jm : Inv X pins σ' H' { s' with heap := hpm } := Jo.landed nb flm.1 ((up.trans upl).trans upm) os ag
      obtain ⟨oem, vsm, hem, hzm, hdm⟩ := flm.there
      have Sm := Jm.suite hem hdm na nL nS
      refine store_ok (X := X.suite a ((a, oem) :: (X.pn ++ pins))) (v := .ref a) Sm nd hi (.inl hln) rfl (fun s5 S5 => ?_) (.inr hln)
      have one : PSs (X.suite a ((a, oem) :: (X.pn ++ pins))) [.Assign [.Name m mp] (.Name n mp2) ap] _ := pss_one (ps_set (i := j) nd hj (.inl hlm) (pe_var (i := i) hi (.inl hln) hdb hdc) (hf := .inr hlm))
      have li : i < σ'.length := by
        rw [Jo.len]
        exact (List.getElem?_eq_some_iff.mp hi).1
      refine wpAny_mono (one.run [] s5 _ H' { nx := fun σ6 H6 => σ6 = (σ'.set i (some (.ref a))).set j (some (.ref a)) ∧ H6 = H', rt := fun _ _ => False } S5 ⟨.ref a, List.getElem?_set_self li, rfl, rfl⟩) (fun f s6 hsp => ?_) (fun _ _ z => False.elim z)
      match f, hsp with
      | .next, ⟨σ6, H6, S6, e1, e2⟩ =>
        subst e1 e2
        refine gone_ok (X := X.suite a ((a, oem) :: (X.pn ++ pins))) S6 nd hi hln fun s7 S7 => ?_
        exact wpAny_mono ((hE a oem cls d (X.pn ++ pins) hzm ⟨_, hdm⟩).run [] s7 _ _ D (tr_tr (q := (a, oem)) S7 ok) (yes rfl a na)) (fun f s8 h8 => sp_tr (q := (a, oem)) ok h8) fun _ _ z => z
      | .brk, ⟨_, _, _, z⟩ => exact z.elim
      | .cont, ⟨_, _, _, z⟩ => exact z.elim
      | .ret u, ⟨_, _, _, _, _, z⟩ => exact z.elim
    | false =>
      refine (show wpAny _ X.A (handleBy (.ref a) X.env []) _ _ _ from wpAny_handleBy_nil ?_)
      obtain ⟨_, _, _, oe, vs, T, oT, ts', he, hz, hd, h1, hr⟩ := id fll
      unfold PySem.passOn
      refine wpAny_bind (wpAny_field he hd h1 ?_); rw [if_neg (show ¬ ((Value.ref T == Value.none) = true) from by simp)]
      have last : wpAny (model X.prog X.w) X.A (setFlight (.ref a) X.env.frame) (fun _ s4 => wpAny (model X.prog X.w) X.A (throw (.ref a) : Sem Flow) Q2 X.xe s4) X.xe { s' with heap := hpl } := by
        rw [hf]
        exact HandSPX.setFlight_upZ fll fun hpm hh4 upm => wpAny_throw (tk _ _ ⟨a, B, sI, pins, σ', H', cls, d, rfl, Jo, nb, (up.trans upl).trans upm, .inr (.inr (by rw [hs]; exact hh4)), na, os, ag, no rfl⟩)
      first
        | exact wpAny_bind (wpAny_pure (wpAny_bind last))
        | exact wpAny_bind last
  · match f, hsp with
    | .next, ⟨σ', H', Jx, q⟩ => exact wpAny_execs_nil (h0.run pins s1 σ' H' D (Jx.ofTry ok) q)
    | .brk, ⟨σ', H', Jx, q⟩ => exact ⟨σ', H', Jx.ofTry ok, q⟩
    | .cont, ⟨σ', H', Jx, q⟩ => exact ⟨σ', H', Jx.ofTry ok, q⟩
    | .ret u, ⟨v, σ', H', Jx, r, q⟩ => exact ⟨v, σ', H', Jx.ofTry ok, r, q⟩
end
end One
end P_X3

section P_X4
set_option linter.all false
set_option maxRecDepth 100000
set_option maxHeartbeats 4000000
namespace One
open PySem PySem.Spec PyProof.Rows L2
/-! ### a held exception is looked at: its class, its fields -/
theorem held_at {X : Cx} {a D dd : Addr} {oe : Obj} {pn pins : List (Addr × Obj)} {xe : Value → Shared → Prop} {σ : L2.St} {H : Hp} {s : Shared} {fs : List (Str × V)} (I : Inv (X.tr ((a, oe) :: pn) xe) pins σ H s) (hz : Zc (.ref D) (some dd) oe) (hf : ∃ vs, oe.data = .fields vs) (hd : H dd = some (.xd fs)) :
    ∃ (od : Obj) (mA : Str → Option Value), PySem.W.InstAt s.heap a oe D (some od) ∧ s.heap.Ns1 dd mA ∧ s.heap.get? dd = some od ∧ ∀ g, RelO (fs.lookup g) (mA g) := by
  obtain ⟨hat, _⟩ := I.pin (a, oe) (List.mem_append.mpr (.inl List.mem_cons_self))
  obtain ⟨vs, hv⟩ := hf
  obtain ⟨mA, hns, hr⟩ := (show ObjOk X.prog X.w H s.heap dd (.xd fs) from I.hok dd _ hd)
  obtain ⟨od, es, ep, ho, _⟩ := id hns
  exact ⟨od, mA, ⟨hat, hz.1, by unfold PySem.W.notCls; rw [hv] <;> rfl, by rw [hz.2]; exact ho⟩, hns, ho, hr⟩
def rIsX (K : PySem.W.Frag) (a : Addr) (cls : Value) (d : Option Addr) : List V → Hp → VK → Prop := fun xs H Q => ∃ (D dd : Addr) (c : V) (cv : Value) (b : Bool) (fs : List (Str × V)), xs = [.ref a, c] ∧ cls = .ref D ∧ d = some dd ∧ ExcC K D ∧
  (∀ u, RelV c u → u = cv) ∧ PySem.W.kitOne K (.ref D) cv = some b ∧ H dd = some (.xd fs) ∧ Q (.bl b) H
section
variable {X : Cx} {a : Addr} {oe : Obj} {cls : Value} {d : Option Addr} {pn : List (Addr × Obj)} {xe : Value → Shared → Prop}
theorem cr_isX (hz : Zc cls d oe) (hf : ∃ vs, oe.data = .fields vs) : CallR (X.tr ((a, oe) :: pn) xe) (.builtin "isinstance") (rIsX X.K a cls d) := by
  intro pins s σ H xs us Q I r h
  obtain ⟨D, dd, c, cv, b, fs, rfl, rfl, rfl, C, hcv, e, hd, q⟩ := h
  cases r with
  | cons rx rr =>
    cases rr with
    | cons rt rr =>
      cases rr
      cases rx
      have ec := hcv _ rt
      subst ec
      obtain ⟨od, mA, J, _, _, _⟩ := held_at I hz hf hd
      have hcl : (PySem.W.clsIn X.K D).isSome = true := by
        obtain ⟨cd, hc, _⟩ := PySem.W.any_some C.hd
        rw [hc]; rfl
      exact PySem.W.kia_one (PySem.W.kitx_exc hcl C.hg C.hk C.hs C.ha C.hn C.ht C.hm) I.kIn J e (fun z => nomatch z) fun tk => ⟨.bl b, H, I.kept (t' := tk) fun _ _ z => z, rfl, q⟩
/-- x.n, x the held exception -/
def tFld (K : PySem.W.Frag) (a : Addr) (cls : Value) (d : Option Addr) (n : Str) (te : TE) : TE := fun σ H Q => te σ H fun x H1 => ∃ (C dd : Addr) (fs : List (Str × V)) (v : V), x = .ref a ∧ cls = .ref C ∧ d = some dd ∧ XfC K C ∧ PySem.W.findIn K (.ref C) n = some none ∧ H1 dd = some (.xd fs) ∧ fs.lookup n = some v ∧ Q v H1
theorem pe_fld {e : Expr} {te : TE} {pos : Pos} {n : Str} (hz : Zc cls d oe) (hf : ∃ vs, oe.data = .fields vs) (he : PE (X.tr ((a, oe) :: pn) xe) e te) (hb : attributeBase e n X.env (eval e X.env) = eval e X.env := by rfl) :
    PE (X.tr ((a, oe) :: pn) xe) (.Attribute e n pos) (tFld X.K a cls d n te) := by
  refine ⟨fun pins s σ H Q I h => attr_of hb (thn (he.run pins s σ H _ I h) fun u s1 ⟨x, H1, I1, rx, C, dd, fs, v, ex, e1, e2, T, hno, hd, l, q⟩ => ?_)⟩
  subst ex e1 e2
  obtain rfl : u = Value.ref a := rx
  obtain ⟨od, mA, J, hns, ho, hr⟩ := held_at I1 hz hf hd
  obtain ⟨od', ho', hl⟩ := lookIn_ns hns
  obtain rfl : od' = od := Option.some.inj (ho'.symm.trans ho)
  obtain ⟨uv, huv, ruv⟩ := RelO.some_of (v := v) (o := mA n) (by rw [← l]; exact hr n)
  exact HandSPX.exc_get I1.kIn J T.ga T.gg T.exC (PySem.W.findObj_own T.hdC hno rfl (by rw [hl, huv])) (handed_of ruv) ⟨v, H1, I1.tok _, ruv, q⟩
end
end One
end P_X4

section P_Q6
set_option linter.all false
set_option maxRecDepth 100000
set_option maxHeartbeats 4000000
namespace One
open PySem PySem.Spec PyProof.Rows L2
/-! ### try: .. except (x, y) as n: m = n / rest -/
def wHold2 (K : PySem.W.Frag) (c c2 : Value) (i j : Nat) (tE : Addr → Value → Option Addr → TS) (Wout : WX) (D : Ends) : WX := fun cls d σ H =>
  ∃ b, PySem.W.exmAny K cls [c, c2] = some b ∧ (b = true → ∀ a, H a = none → tE a cls d D (((σ.set i (some (.ref a))).set j (some (.ref a))).set i none) H) ∧ (b = false → Wout cls d σ H)
theorem fly_keeps {base h h' : Heap} {l : List Env} {e : Addr} {Z : Obj → Prop} (k : ∀ b o, h.get? b = some o → h'.get? b = some o) (f : HandSPX.FlyingZ base l e Z h) : HandSPX.FlyingZ base l e Z h' := by
  obtain ⟨f1, f2, f3, oe, vs, T, oT, ts, q1, q2, q3, q4, q5, q6, q7, q8⟩ := f
  exact ⟨fun b o hb => k _ _ (f1 b o hb), f2, f3.of_keeps fun b o e _ => ⟨o, k b o e, rfl⟩, oe, vs, T, oT, ts, k _ _ q1, q2, q3, q4, q5, q6, k _ _ q7, q8⟩
section
variable {X : Cx} {x y n m : Str} {c c2 : Value} {i j : Nat} {body rest : List Stmt} {np np2 tpos mp mp2 ap pos pos' : Pos} {kk : Nat} {tb : WX → TS} {t0 : TS} {tE : Addr → Value → Option Addr → TS} {Wout : WX}
theorem pss_hold2 (hs : X.stack = X.env :: X.outer) (hf : X.env.frame = some X.env.locals) (nd : X.N.Nodup) (hi : X.N[i]? = some n) (hln : X.env.kindOf n = some .local) (hj : X.N[j]? = some m) (hlm : X.env.kindOf m = some .local) (hc : Names X x c) (hc2 : Names X y c2) (tk : Takes X Wout)
    (hdb : (n == ("__debug__" : Str)) = false) (hdc : (n == ("__classdict__" : Str)) = false)
    (hb : ∀ (W : WX) (pn : List (Addr × Obj)) (xe : Value → Shared → Prop), Takes (X.tr pn xe) W → PassesOwn (model X.prog X.w) X.A X.env xe → PSs (X.tr pn xe) body (tb W)) (h0 : PSs X rest t0)
    (hE : ∀ (a : Addr) (oe : Obj) (cls : Value) (d : Option Addr) (pn : List (Addr × Obj)), Zc cls d oe → (∃ vs, oe.data = .fields vs) → PSs (X.tr ((a, oe) :: pn) X.xe) rest (tE a cls d)) :
    PSs X (.Try body [.ExceptHandler (some (.Tuple [.Name x np, .Name y np2] kk tpos)) (some n) [.Assign [.Name m mp] (.Name n mp2) ap] pos'] [] [] pos :: rest) (fun D σ H => tb (wHold2 X.K c c2 i j tE Wout D) { D with nx := t0 D } σ H) := by
  refine ⟨fun pins s σ H D I h => ?_⟩
  have ok := I.ok
  have frs0 : X.A.frames = some (X.env :: X.outer) := ok.frames.trans (by rw [hs])
  refine wpAny_execs_cons (wpAny_Try_except ?_)
  let Q2 : Flow → Shared → Prop := fun f s' => match f with
    | .next => wpAny (model X.prog X.w) X.A (execs rest X.env) (SP X pins D) X.xe s'
    | f => SP X pins D f s'
  refine wpAny_mono ((hb (wHold2 X.K c c2 i j tE Wout D) (X.pn ++ pins) (fun e s1 => wpAny (model X.prog X.w) X.A (noteFrame e X.env) (fun _ s2 => wpAny (model X.prog X.w) X.A (setFlight e none) (fun _ s3 =>
    wpAny (model X.prog X.w) X.A (handleBy e X.env [.ExceptHandler (some (.Tuple [.Name x np, .Name y np2] kk tpos)) (some n) [.Assign [.Name m mp] (.Name n mp2) ap] pos']) Q2 X.xe s3) X.xe s2) X.xe s1) (fun u s' air => ?_) PassesOwn.looking).run [] s σ H { D with nx := t0 D } (I.toTry _) h) (fun f s1 hsp => ?_) (fun e s1 he => he)
  · obtain ⟨a, B, sI, pins', σ', H', cls, d, rfl, Jx, nb, up, sky, na, os, ag, b, hb1, yes, no⟩ := air
    have Jo : Inv X pins σ' H' sI := Jx.ofTry ok
    refine (show wpAny (model X.prog X.w) X.A (noteFrame (.ref a) X.env) _ _ _ from ?_)
    refine Sky.land Zc.steady frs0 hf (hs ▸ sky : Sky B (X.env :: X.outer) a (Zc cls d) X.env.locals s'.heap) fun hpl fll upl => ?_
    have Jl : Inv X pins σ' H' { s' with heap := hpl } := Jo.landed nb fll.1 (up.trans upl) os ag
    obtain ⟨oel, vsl, hel, hzl, hdl⟩ := fll.there
    have away : a ∉ frs (X.env :: X.outer) := fun hm => by
      obtain ⟨_, o', e', hnf⟩ := fll.2.2.1.mem hm
      cases hel.symm.trans e'
      exact hnf _ hdl
    have nL : a ≠ X.env.locals := fun z => away (List.mem_filterMap.mpr ⟨X.env, List.mem_cons_self, hf.trans (congrArg some z.symm)⟩)
    have nS : a ∉ X.fs := fun hm => by
      obtain ⟨e, he, q⟩ := List.mem_filterMap.mp hm
      exact away (List.mem_filterMap.mpr ⟨e, List.mem_cons_of_mem _ he, q⟩)
    have Sl := Jl.suite hel hdl na nL nS
    refine wpAny_handleBy_cons (codeAny_handlers_test ?_) (by intro q; cases q)
    have Lty : PySem.W.Looks (model X.prog X.w) hpl (typeOf (.ref a)) cls := fun A Q E s k q => wpAny_typeOf_ref (k _ _ hel) (by rw [hzl.1]; exact q)
    have name1 : ∀ {z : Str} {cz : Value} {zp : Pos}, Names X z cz → ∀ {Q : Value → Shared → Prop} {E : Value → Shared → Prop}, Q cz { s' with heap := hpl } → wpAny (model X.prog X.w) (X.A.mark (some (.ref a))) (eval (.Name z zp) X.env) Q E { s' with heap := hpl } := fun {z cz zp} hz {Q E} q => by
      obtain ⟨g1, g2, g3 | ⟨g3, g4, g5⟩⟩ := hz
      · exact ld_glob (X := X.suite a ((a, oel) :: (X.pn ++ pins))) Sl g1 g3 q g2
      · exact ld_blt (X := X.suite a ((a, oel) :: (X.pn ++ pins))) Sl g1 g3 g4 q g5 g2
    have kp : ∀ q o, hpl.get? q = some o → (hpl.push { cls := .type "tuple", data := .seq [c, c2].toArray }).get? q = some o := fun _ _ z => Heap.get?_push_of_some _ z
    have look : ∀ {Q : Value → Shared → Prop} {E : Value → Shared → Prop}, Q (.ref hpl.objs.size) { s' with heap := hpl.push { cls := .type "tuple", data := .seq [c, c2].toArray } } → wpAny (model X.prog X.w) (X.A.mark (some (.ref a))) (eval (.Tuple [.Name x np, .Name y np2] kk tpos) X.env) Q E { s' with heap := hpl } := fun {Q E} q => by
      refine wpAny_Tuple ?_
      refine wpAny_items_cons (name1 hc ?_)
      refine wpAny_items_cons (name1 hc2 ?_)
      refine wpAny_items_nil ⟨by size_fits, ?_⟩
      exact q
    have upk : hpl.UpToSlots (hpl.push { cls := .type "tuple", data := .seq [c, c2].toArray }) := fun q o e _ => ⟨o.slots, kp q o e⟩
    have flk := fly_keeps kp fll
    have htup : (hpl.push { cls := .type "tuple", data := .seq [c, c2].toArray }).get? hpl.objs.size = some { cls := .type "tuple", data := .seq [c, c2].toArray } := Heap.get?_push_size hpl rfl
    have Lk := Lty.keeps kp
    have kk2 : X.K.In (hpl.push { cls := .type "tuple", data := .seq [c, c2].toArray }) := Jl.kIn.keeps kp
    refine look ((PySem.W.exm_tup2 (M := model X.prog X.w) kk2 Lk htup hb1).here ?_)
    generalize hpl.push { cls := .type "tuple", data := .seq [c, c2].toArray } = hpk at upk flk Lk kk2 htup kp ⊢
    cases b with
    | true =>
      refine codeAny_handlers_suite_as (HandSPX.lands_againZ flk fun hpm flm upm => ?_)
      have Jm : Inv X pins σ' H' { s' with heap := hpm } := Jo.landed nb flm.1 (((up.trans upl).trans upk).trans upm) os ag
      obtain ⟨oem, vsm, hem, hzm, hdm⟩ := flm.there
      have Sm := Jm.suite hem hdm na nL nS
      refine store_ok (X := X.suite a ((a, oem) :: (X.pn ++ pins))) (v := .ref a) Sm nd hi (.inl hln) rfl (fun s5 S5 => ?_) (.inr hln)
      have one : PSs (X.suite a ((a, oem) :: (X.pn ++ pins))) [.Assign [.Name m mp] (.Name n mp2) ap] _ := pss_one (ps_set (i := j) nd hj (.inl hlm) (pe_var (i := i) hi (.inl hln) hdb hdc) (hf := .inr hlm))
      have li : i < σ'.length := by
        rw [Jo.len]
        exact (List.getElem?_eq_some_iff.mp hi).1
      refine wpAny_mono (one.run [] s5 _ H' { nx := fun σ6 H6 => σ6 = (σ'.set i (some (.ref a))).set j (some (.ref a)) ∧ H6 = H', rt := fun _ _ => False } S5 ⟨.ref a, List.getElem?_set_self li, rfl, rfl⟩) (fun f s6 hsp => ?_) (fun _ _ z => False.elim z)
      match f, hsp with
      | .next, ⟨σ6, H6, S6, e1, e2⟩ =>
        subst e1 e2
        refine gone_ok (X := X.suite a ((a, oem) :: (X.pn ++ pins))) S6 nd hi hln fun s7 S7 => ?_
        exact wpAny_mono ((hE a oem cls d (X.pn ++ pins) hzm ⟨_, hdm⟩).run [] s7 _ _ D (tr_tr (q := (a, oem)) S7 ok) (yes rfl a na)) (fun f s8 h8 => sp_tr (q := (a, oem)) ok h8) fun _ _ z => z
      | .brk, ⟨_, _, _, z⟩ => exact z.elim
      | .cont, ⟨_, _, _, z⟩ => exact z.elim
      | .ret u, ⟨_, _, _, _, _, z⟩ => exact z.elim
    | false =>
      refine (show wpAny _ X.A (handleBy (.ref a) X.env []) _ _ _ from wpAny_handleBy_nil ?_)
      obtain ⟨_, _, _, oe, vs, T, oT, ts', he, hz, hd, h1, hr⟩ := id flk
      unfold PySem.passOn
      refine wpAny_bind (wpAny_field he hd h1 ?_); rw [if_neg (show ¬ ((Value.ref T == Value.none) = true) from by simp)]
      have last : wpAny (model X.prog X.w) X.A (setFlight (.ref a) X.env.frame) (fun _ s4 => wpAny (model X.prog X.w) X.A (throw (.ref a) : Sem Flow) Q2 X.xe s4) X.xe { s' with heap := hpk } := by
        rw [hf]
        exact HandSPX.setFlight_upZ flk fun hpm hh4 upm => wpAny_throw (tk _ _ ⟨a, B, sI, pins, σ', H', cls, d, rfl, Jo, nb, ((up.trans upl).trans upk).trans upm, .inr (.inr (by rw [hs]; exact hh4)), na, os, ag, no rfl⟩)
      first
        | exact wpAny_bind (wpAny_pure (wpAny_bind last))
        | exact wpAny_bind last
  · match f, hsp with
    | .next, ⟨σ', H', Jx, q⟩ => exact wpAny_execs_nil (h0.run pins s1 σ' H' D (Jx.ofTry ok) q)
    | .brk, ⟨σ', H', Jx, q⟩ => exact ⟨σ', H', Jx.ofTry ok, q⟩
    | .cont, ⟨σ', H', Jx, q⟩ => exact ⟨σ', H', Jx.ofTry ok, q⟩
    | .ret u, ⟨v, σ', H', Jx, r, q⟩ => exact ⟨v, σ', H', Jx.ofTry ok, r, q⟩
end
end One
end P_Q6

section P_Q7
set_option linter.all false
set_option maxRecDepth 100000
set_option maxHeartbeats 8000000
namespace One
open PySem PySem.Spec PyProof.Rows L2
theorem kit_nots {K : PySem.W.Frag} {t : Value} : ∀ {as : List Addr}, (∀ a ∈ as, PySem.W.kitOne K t (.ref a) = some false) → PySem.W.kitAny K t (as.map Value.ref) = some false
  | [], _ => rfl
  | a :: as, h => by
    show (match PySem.W.kitOne K t (.ref a) with
      | some true => some true
      | some false => PySem.W.kitAny K t (as.map Value.ref)
      | none => none) = some false
    rw [h a (List.mem_cons_self ..)]
    exact kit_nots fun b m => h b (List.mem_cons_of_mem _ m)
theorem vals_refs : ∀ {as : List Addr} {us : List Value}, Vals (refs as) us → us = as.map Value.ref
  | [], us, h => by
    cases h
    rfl
  | a :: as, us, h => by
    cases h with
    | cons r rr =>
      cases r
      rw [vals_refs rr]
      rfl
/-- isinstance(x, (c1, c2, ..)), x the held exception -/
def rIsXT (K : PySem.W.Frag) (a : Addr) (cls : Value) (d : Option Addr) : List V → Hp → VK → Prop := fun xs H Q => ∃ (D dd tp : Addr) (as : List Addr) (b : Bool) (fs : List (Str × V)), xs = [.ref a, .ref tp] ∧ cls = .ref D ∧ d = some dd ∧ ExcC K D ∧
  H tp = some (.tup (refs as)) ∧ PySem.W.kitAny K (.ref D) (as.map Value.ref) = some b ∧ H dd = some (.xd fs) ∧ Q (.bl b) H
section
variable {X : Cx} {a : Addr} {oe : Obj} {cls : Value} {d : Option Addr} {pn : List (Addr × Obj)} {xe : Value → Shared → Prop}
theorem cr_isXT (hz : Zc cls d oe) (hf : ∃ vs, oe.data = .fields vs) : CallR (X.tr ((a, oe) :: pn) xe) (.builtin "isinstance") (rIsXT X.K a cls d) := by
  intro pins s σ H xs us Q I r h
  obtain ⟨D, dd, tp, as, b, fs, rfl, rfl, rfl, C, hT, e, hd, q⟩ := h
  obtain ⟨u1, u2, rfl, r1, r2⟩ := vals2 r
  cases (show u2 = Value.ref tp from r2)
  cases (show u1 = Value.ref a from r1)
  obtain ⟨od, mA, J, _, _, _⟩ := held_at I hz hf hd
  have hcl : (PySem.W.clsIn X.K D).isSome = true := by
    obtain ⟨cd, hc, _⟩ := PySem.W.any_some C.hd
    rw [hc]; rfl
  obtain ⟨_, its, rv, o, h1, h2, n, h3⟩ := (show ObjOk X.prog X.w H s.heap tp (.tup (refs as)) from I.hok tp _ hT)
  have e3 := vals_refs rv
  subst e3
  obtain ⟨oc, oD, dt, sl⟩ := o
  simp only at h2 h3
  subst h2 h3
  exact PySem.W.kia_tup (PySem.W.kitx_exc hcl C.hg C.hk C.hs C.ha C.hn C.ht C.hm) I.kIn J h1 e (fun z => nomatch z) fun tk => ⟨.bl b, H, I.kept (t' := tk) fun _ _ z => z, rfl, q⟩
end
abbrev sSaid : Stmt := top 57
abbrev nSaid : List Str := ["call", "caught", "found", "e", "some", "words", "word", "is_it"]
theorem scSaid : FnScope nSaid ["call"] (defScope sSaid) := ⟨rfl, rfl, rfl, by decide +kernel, rfl, by decide +kernel, by decide +kernel⟩
def wordS (i : Nat) : Str := (["yard", "worths", "draft", "never", "paper", "place", "setting", "split"] : List Str).getD i ""
def fldS (i : Nat) : Str := if i = 3 then "split" else "place"
/-- the names of the classes -/
structure SaidN (mg : Str → Option Value) (CL : Nat → Addr) (RE : Addr) : Prop where
  re : mg "RoundError" = some (.ref RE)
  c0 : mg "BadYard" = some (.ref (CL 0))
  c1 : mg "BadWorths" = some (.ref (CL 1))
  c2 : mg "BadDraft" = some (.ref (CL 2))
  c3 : mg "NeverOne" = some (.ref (CL 3))
  c4 : mg "BadPaper" = some (.ref (CL 4))
  c5 : mg "OutOfPlace" = some (.ref (CL 5))
  c6 : mg "BadSetting" = some (.ref (CL 6))
  c7 : mg "BadSplit" = some (.ref (CL 7))
  c8 : mg "Nothing" = some (.ref (CL 8))
  c9 : mg "BadText" = some (.ref (CL 9))
  c10 : mg "BadEnd" = some (.ref (CL 10))
  c11 : mg "BadTurn" = some (.ref (CL 11))
  c12 : mg "BadLead" = some (.ref (CL 12))
  c13 : mg "BadNames" = some (.ref (CL 13))
  c14 : mg "BadTwins" = some (.ref (CL 14))
  c15 : mg "BadTable" = some (.ref (CL 15))
  c16 : mg "BadDeed" = some (.ref (CL 16))
  c17 : mg "Barred" = some (.ref (CL 17))
  c18 : mg "ManyRounds" = some (.ref (CL 18))
  c19 : mg "TooMany" = some (.ref (CL 19))
  ve : mg "ValueError" = none
structure SaidC (K : PySem.W.Frag) (CL : Nat → Addr) (RE : Addr) (i : Nat) : Prop where
  lt : i < 8
  exc : ExcC K (CL i)
  xf : XfC K (CL i)
  no : PySem.W.findIn K (.ref (CL i)) (fldS i) = some none
  kits : ∀ j, j < 20 → PySem.W.kitOne K (.ref (CL i)) (.ref (CL j)) = some (decide (i = j))
  ve : PySem.W.kitOne K (.ref (CL i)) (.type "ValueError") = some true
  exm : PySem.W.exmAny K (.ref (CL i)) [.ref RE, .ref (CL 8)] = some true
/-- what is wished of what the call raises -/
def XSaid (K : PySem.W.Frag) (CL : Nat → Addr) (RE : Addr) (Q : VK) : XK := fun cls d H => ∃ (i : Nat) (dd : Addr) (v : V), SaidC K CL RE i ∧ cls = .ref (CL i) ∧ d = some dd ∧ H dd = some (.xd [(fldS i, v)]) ∧
  ∀ (H' : Hp) (u : Addr), Same H H' → H' u = some (.tup [.str (wordS i), v]) → Q (.ref u) H'
def TTsaid (K : PySem.W.Frag) (CL : Nat → Addr) (RE : Addr) : (XK → Hp → VK → Prop) → Hp → VK → Prop := fun tl H Q => ∀ (H1 : Hp) (R : VK), Same H H1 → (∀ v H', (∀ u, H' u = none → Q (.ref u) (upd H' u (.tup [.str "told", v]))) → R v H') → tl (XSaid K CL RE Q) H1 R
inductive KS (H : Hp) : List Addr → List (Str × Bool) → Prop
  | nil : KS H [] []
  | cons {a p as ps} : H a = some (.tup [.str p.1, .bl p.2]) → KS H as ps → KS H (a :: as) (p :: ps)
theorem KS.mono {H H' : Hp} {as : List Addr} {ps : List (Str × Bool)} (h : KS H as ps) (k : Same H H') : KS H' as ps := by
  induction h with
  | nil => exact .nil
  | cons e _ ih => exact .cons (k _ _ e) ih
theorem KS.monoT {H H' : Hp} {as : List Addr} {ps : List (Str × Bool)} (h : KS H as ps) (k : ∀ b xs, H b = some (.tup xs) → H' b = some (.tup xs)) : KS H' as ps := by
  induction h with
  | nil => exact .nil
  | cons e _ ih => exact .cons (k _ _ e) ih
theorem KS.app {H : Hp} {as bs : List Addr} {ps qs : List (Str × Bool)} (h : KS H as ps) (k : KS H bs qs) : KS H (as ++ bs) (ps ++ qs) := by
  induction h with
  | nil => exact k
  | cons e _ ih => exact .cons e ih
theorem KS.len {H : Hp} {as : List Addr} {ps : List (Str × Bool)} (h : KS H as ps) : as.length = ps.length := by
  induction h with
  | nil => rfl
  | cons _ _ ih => simp [ih]
theorem KS.get {H : Hp} {as : List Addr} {ps : List (Str × Bool)} (h : KS H as ps) : ∀ {i : Nat} {a : Addr}, as[i]? = some a → ∃ p, ps[i]? = some p ∧ H a = some (.tup [.str p.1, .bl p.2]) := by
  induction h with
  | nil => intro i a e; simp at e
  | cons h1 _ ih =>
    intro i a e
    cases i with
    | zero =>
      cases Option.some.inj e
      exact ⟨_, rfl, h1⟩
    | succ i => exact ih (i := i) (by simpa using e)
def someS (i : Nat) : List (Str × Bool) := [("yard", decide (i = 0)), ("worths", decide (i = 1)), ("draft", decide (i = 2)), ("never", decide (i = 3)), ("paper", decide (i = 4)), ("place", decide (i = 5)), ("setting", decide (i = 6)), ("split", decide (i = 7)), ("other", false), ("other", false)]
theorem some_one : ∀ i, i < 8 → (someS i).filter (·.2) = [(wordS i, true)] := by
  have h : ∀ i : Fin 8, (someS i).filter (·.2) = [(wordS i, true)] := by decide +kernel
  exact fun i hi => h ⟨i, hi⟩
theorem word_never : ∀ i, i < 8 → decide (V.str (wordS i) = V.str "never") = decide (i = 3) := by
  intro i hi
  rw [dec_str]
  have h : ∀ i : Fin 8, (wordS i == ("never" : Str)) = decide ((i : Nat) = 3) := by decide +kernel
  exact h ⟨i, hi⟩
theorem word_other : ∀ i, i < 8 → PyData.eqv (.list [.str (wordS i)]) (.list [.str "other"]) = false := by
  have h : ∀ i : Fin 8, PyData.eqv (.list [.str (wordS i)]) (.list [.str "other"]) = false := by decide +kernel
  exact fun i hi => h ⟨i, hi⟩
theorem word_shaped : ∀ i, i < 8 → SeqAt.shaped (.list [.str (wordS i)]) = true := by
  have h : ∀ i : Fin 8, SeqAt.shaped (.list [.str (wordS i)]) = true := by decide +kernel
  exact fun i hi => h ⟨i, hi⟩
theorem look_one {f : Str} {v : V} : List.lookup f [(f, v)] = some v := by
  rw [lookup_put, if_pos rfl]
/-- (word, isinstance(caught, class)) -/
def tIsS (K : PySem.W.Frag) (CL : Nat → Addr) (a : Addr) (cls : Value) (d : Option Addr) (w : Str) (j : Nat) : TE := tTup (tCons (tC (.str w)) (tCons (tCB (rIsX K a cls d) (tCons (tVar 1) (tCons (tC (.ref (CL j))) tNil))) tNil))
theorem pairS {K : PySem.W.Frag} {CL : Nat → Addr} {RE a dd : Addr} {i j1 j2 : Nat} {w1 w2 : Str} {σ : L2.St} {H : Hp} {Q : VK} {fs : List (Str × V)} (C : SaidC K CL RE i) (hj1 : j1 < 8) (hj2 : j2 < 8) (h1 : σ[1]? = some (some (.ref a))) (hd : H dd = some (.xd fs))
    (q : ∀ (l p1 p2 : Addr) (H' : Hp), Same H H' → H l = none → H' l = some (.lst (refs [p1, p2])) → KS H' [p1, p2] [(w1, decide (i = j1)), (w2, decide (i = j2))] → Q (.ref l) H') :
    tLst (tCons (tIsS K CL a (.ref (CL i)) (some dd) w1 j1) (tCons (tIsS K CL a (.ref (CL i)) (some dd) w2 j2) tNil)) σ H Q := by
  refine ⟨_, h1, CL i, dd, .ref (CL j1), .ref (CL j1), _, fs, rfl, rfl, rfl, C.exc, fun u r => r, C.kits j1 (by omega), hd, two_le, fun p1 hp1 => ?_⟩
  have s1 := Same.new (o := .tup [.str w1, .bl (decide (i = j1))]) hp1
  refine ⟨_, h1, CL i, dd, .ref (CL j2), .ref (CL j2), _, fs, rfl, rfl, rfl, C.exc, fun u r => r, C.kits j2 (by omega), s1 _ _ hd, two_le, fun p2 hp2 => ?_⟩
  have s2 := Same.new (o := .tup [.str w2, .bl (decide (i = j2))]) hp2
  refine ⟨two_le, fun l hl => ?_⟩
  have s3 := Same.new (o := .lst [V.ref p1, V.ref p2]) hl
  exact q l p1 p2 _ (s1.trans (s2.trans s3)) ((s1.trans s2).free hl) upd_same (.cons (s3 _ _ (s2 _ _ upd_same)) (.cons (s3 _ _ upd_same) .nil))
theorem catS {K : PySem.W.Frag} {CL : Nat → Addr} {RE a dd : Addr} {i j1 j2 : Nat} {w1 w2 : Str} {σ : L2.St} {H : Hp} {Q : VK} {fs : List (Str × V)} {L : Addr} {as : List Addr} {ps : List (Str × Bool)} (C : SaidC K CL RE i) (hj1 : j1 < 8) (hj2 : j2 < 8) (h1 : σ[1]? = some (some (.ref a))) (h4 : σ[4]? = some (some (.ref L))) (hd : H dd = some (.xd fs))
    (hL : H L = some (.lst (refs as))) (hK : KS H as ps) (hn : as.length ≤ 20) (q : ∀ (l : Addr) (bs : List Addr) (H' : Hp), Same H H' → H l = none → H' l = some (.lst (refs bs)) → KS H' bs (ps ++ [(w1, decide (i = j1)), (w2, decide (i = j2))]) → Q (.ref l) H') :
    tOp (rCatS K) (tVar 4) (tLst (tCons (tIsS K CL a (.ref (CL i)) (some dd) w1 j1) (tCons (tIsS K CL a (.ref (CL i)) (some dd) w2 j2) tNil))) σ H Q := by
  refine ⟨_, h4, pairS C hj1 hj2 h1 hd fun l p1 p2 H1 s1 hl hl1 hk1 => ?_⟩
  refine ⟨L, l, _, _, rfl, rfl, SqL.of (s1 _ _ hL), hl1, Nat.le_of_lt (small1000 (by rw [List.length_map]; show _ + 2 ≤ 1000; omega)), fun l2 hl2 => ?_⟩
  have s2 := Same.new (o := .lst (refs as ++ refs [p1, p2])) hl2
  refine q l2 (as ++ [p1, p2]) _ (s1.trans s2) (s1.free hl2) ?_ ((hK.mono (s1.trans s2)).app (hk1.mono s2))
  rw [upd_same, refs_app]
/-- ("other", isinstance(caught, (..))) -/
theorem otherS {K : PySem.W.Frag} {CL : Nat → Addr} {RE a dd : Addr} {i : Nat} {js : List Nat} {tt : TA} {σ : L2.St} {H : Hp} {Q : VK} {fs : List (Str × V)} (C : SaidC K CL RE i) (hjs : ∀ j ∈ js, j < 20 ∧ i ≠ j) (hl : js.length ≤ 10) (h1 : σ[1]? = some (some (.ref a))) (hd : H dd = some (.xd fs))
    (ht : ∀ R : List V → Hp → Prop, R (refs (js.map CL)) H → tt σ H R) (q : ∀ (p : Addr) (H' : Hp), Same H H' → H' p = some (.tup [.str "other", .bl false]) → Q (.ref p) H') :
    tTup (tCons (tC (.str "other")) (tCons (tCB (rIsXT K a (.ref (CL i)) (some dd)) (tCons (tVar 1) (tCons (tTup tt) tNil))) tNil)) σ H Q := by
  refine ⟨_, h1, ht _ ⟨?_, fun tp htp => ?_⟩⟩
  · exact Nat.le_of_lt (small1000 (by rw [List.length_map, List.length_map]; omega))
  · have s1 := Same.new (o := .tup (refs (js.map CL))) htp
    refine ⟨CL i, dd, tp, js.map CL, false, fs, rfl, rfl, rfl, C.exc, upd_same, kit_nots fun b m => ?_, s1 _ _ hd, two_le, fun p hp => q p _ (s1.trans (Same.new hp)) upd_same⟩
    obtain ⟨j, hj, rfl⟩ := List.mem_map.mp m
    rw [C.kits j (hjs j hj).1, decide_eq_false (hjs j hj).2]
end One
end P_Q7

section P_Q8
set_option linter.all false
set_option maxRecDepth 100000
set_option maxHeartbeats 16000000
namespace One
open PySem PySem.Spec PyProof.Rows L2
section
variable {X : Cx}
theorem takes_len {W : WX} (tk : Takes X W) : Takes X fun cls d σ H => σ.length = X.N.length → W cls d σ H := fun u s' ⟨a, B, sI, pins, σ, H, cls, d, e, I, nb, up, sky, na, os, ag, w⟩ => tk u s' ⟨a, B, sI, pins, σ, H, cls, d, e, I, nb, up, sky, na, os, ag, w I.len⟩
def RSaid (K : PySem.W.Frag) (CL : Nat → Addr) (RE a : Addr) (cls : Value) (d : Option Addr) : TS := fun D σ H => ∃ (i : Nat) (dd : Addr) (v : V), SaidC K CL RE i ∧ cls = .ref (CL i) ∧ d = some dd ∧ H dd = some (.xd [(fldS i, v)]) ∧
  (∀ (H' : Hp) (u : Addr), Same H H' → H' u = some (.tup [.str (wordS i), v]) → D.rt (.ref u) H') ∧ σ.length = 8 ∧ σ[1]? = some (some (.ref a))
theorem said_gives {CL : Nat → Addr} {RE g : Addr} {cdg : Value} {q : Str} {k : Nat} (T : TB X.mg) (Nm : SaidN X.mg CL RE) (hr : Room k X.A) :
    LamX.GivesTo X nSaid "_law_said" (defScope sSaid) g cdg (defBody sSaid) "call" q (TTsaid X.K CL RE) := by
  intro f c' s H Q tl act hc h
  have nd := scSaid.nd
  let cx : Cx := cxOf C8.CX0 X.prog X.w X.K X.mg X.base nSaid "_law_said" (defScope sSaid) g cdg X.A X.stack s H C8.E0
  have hu : (X.A.deeper (envOfC "_law_said" (defScope sSaid) s.heap.objs.size g cdg)).units + 64 < cLine := by
    show X.A.units + 3 + 64 < cLine
    have := hr.un
    omega
  have gl : ∀ {x : Str}, (defScope sSaid).names.lookup x = some .globalImplicit → Gl cx.nox x := fun h => h
  have iw : ∀ {a : Addr} {oe : Obj} {cls : Value} {d : Option Addr} {pn : List (Addr × Obj)} {w x : Str} {j n : Nat} {p0 p1 p2 p3 p4 p5 : Pos} (hz : Zc cls d oe) (hf : ∃ vs, oe.data = .fields vs) (hx : (defScope sSaid).names.lookup x = some .globalImplicit) (hm : X.mg x = some (.ref (CL j))) (hdb : (x == ("__debug__" : Str)) = false),
      PE (cx.nox.tr ((a, oe) :: pn) cx.nox.xe) (.Tuple [.Constant (.str w) n p0, .Call (.Name "isinstance" p1) [.Name "caught" p2, .Name x p3] [] p4] 0 p5) (tIsS X.K CL a cls d w j) := fun hz hf hx hm hdb =>
    pe_tup (pa_cons pe_str (pa_cons (pe_callB (cr_isX hz hf) (gl (by decide +kernel)) T.isinstance boot_isinstance (pa_cons (pv 1) (pa_cons (pe_glob (v := .ref (CL _)) (gl hx) hm rfl hdb) pa_nil))) pa_nil))
  have nam : ∀ {a : Addr} {oe : Obj} {pn : List (Addr × Obj)} {x : Str} {j : Nat} {p : Pos} (hx : (defScope sSaid).names.lookup x = some .globalImplicit) (hm : X.mg x = some (.ref (CL j))) (hdb : (x == ("__debug__" : Str)) = false),
      PE (cx.nox.tr ((a, oe) :: pn) cx.nox.xe) (.Name x p) (tC (.ref (CL j))) := fun hx hm hdb => pe_glob (v := .ref (CL _)) (gl hx) hm rfl hdb
  have ixl : ∀ {a : Addr} {oe : Obj} {pn : List (Addr × Obj)}, IxR (cx.nox.tr ((a, oe) :: pn) cx.nox.xe) (rIxL X.K) := ix_list
  have opc : ∀ {a : Addr} {oe : Obj} {pn : List (Addr × Obj)}, OpR (cx.nox.tr ((a, oe) :: pn) cx.nox.xe) (binaryOp .Add) (rCatS X.K) := op_catS
  have eqd : ∀ {a : Addr} {oe : Obj} {pn : List (Addr × Obj)}, OpR (cx.nox.tr ((a, oe) :: pn) cx.nox.xe) (compareOp .Eq) (rEqD X.K) := op_eqD (by exact hu)
  have lenc : ∀ {a : Addr} {oe : Obj} {pn : List (Addr × Obj)}, CallR (cx.nox.tr ((a, oe) :: pn) cx.nox.xe) (.builtin "len") (fun xs H Q => ∃ p ys, xs = [.ref p] ∧ (SqL X.K H p ys ∨ SqT X.K H p ys) ∧ Q (.int ys.length) H) := call_len_seq
  have pil : ∀ {a : Addr} {oe : Obj} {pn : List (Addr × Obj)} {tg : Expr} {p : Pos}, PI (cx.nox.tr ((a, oe) :: pn) cx.nox.xe) tg (.Name "some" p) (iList X.K (tVar 4)) := pi_list (pv 4)
  have fld : ∀ {a : Addr} {oe : Obj} {cls : Value} {d : Option Addr} {pn : List (Addr × Obj)} {n : Str} {p0 p1 : Pos} (hz : Zc cls d oe) (hf : ∃ vs, oe.data = .fields vs), PE (cx.nox.tr ((a, oe) :: pn) cx.nox.xe) (.Attribute (.Name "caught" p0) n p1) (tFld X.K a cls d n (tVar 1)) := fun hz hf => pe_fld hz hf (pv 1)
  have hE : ∀ (a : Addr) (oe : Obj) (cls : Value) (d : Option Addr) (pn : List (Addr × Obj)), Zc cls d oe → (∃ vs, oe.data = .fields vs) → PSs (cx.nox.tr ((a, oe) :: pn) cx.nox.xe) ((defBody sSaid).drop 2) (RSaid X.K CL RE a cls d) := fun a oe cls d pn hz hf => by
    obtain ⟨t, ht, hm⟩ : ∃ t, PSs (cx.nox.tr ((a, oe) :: pn) cx.nox.xe) ((defBody sSaid).drop 2) t ∧ ∀ D σ H, RSaid X.K CL RE a cls d D σ H → t D σ H := by
      refine ⟨_, (pss_cons (ps_if (pt_cmpR op_isN (pv 1) pe_non (nomark _)) (pss_one (ps_ret (pe_tup (pa_cons pe_str (pa_cons (pv 2) pa_nil))))) pss_nil)
      (pss_cons (ps_set (i := 4) nd rfl (Or.inl rfl) (pe_lst (pa_cons (iw (j := 0) hz hf (by decide +kernel) Nm.c0 (by decide +kernel)) (pa_cons (iw (j := 1) hz hf (by decide +kernel) Nm.c1 (by decide +kernel)) pa_nil))))
      (pss_cons (ps_set (i := 4) nd rfl (Or.inl rfl) (pe_op opc (pv 4) (pe_lst (pa_cons (iw (j := 2) hz hf (by decide +kernel) Nm.c2 (by decide +kernel)) (pa_cons (iw (j := 3) hz hf (by decide +kernel) Nm.c3 (by decide +kernel)) pa_nil)))))
      (pss_cons (ps_set (i := 4) nd rfl (Or.inl rfl) (pe_op opc (pv 4) (pe_lst (pa_cons (iw (j := 4) hz hf (by decide +kernel) Nm.c4 (by decide +kernel)) (pa_cons (iw (j := 5) hz hf (by decide +kernel) Nm.c5 (by decide +kernel)) pa_nil)))))
      (pss_cons (ps_set (i := 4) nd rfl (Or.inl rfl) (pe_op opc (pv 4) (pe_lst (pa_cons (iw (j := 6) hz hf (by decide +kernel) Nm.c6 (by decide +kernel)) (pa_cons (iw (j := 7) hz hf (by decide +kernel) Nm.c7 (by decide +kernel)) pa_nil)))))
      (pss_cons (ps_expr (pe_bm (T := "list") PySem.F.plainAttrs_list PySem.F.slot_list_append PySem.F.type_list_append mt_append (pv 4) (pa_cons (pe_tup (pa_cons pe_str (pa_cons (pe_callB (cr_isXT hz hf) (gl (by decide +kernel)) T.isinstance boot_isinstance (pa_cons (pv 1) (pa_cons (pe_tup
              (pa_cons (nam (j := 8) (by decide +kernel) Nm.c8 (by decide +kernel)) (pa_cons (nam (j := 9) (by decide +kernel) Nm.c9 (by decide +kernel)) (pa_cons (nam (j := 10) (by decide +kernel) Nm.c10 (by decide +kernel)) (pa_cons (nam (j := 11) (by decide +kernel) Nm.c11 (by decide +kernel)) (pa_cons (nam (j := 12) (by decide +kernel) Nm.c12 (by decide +kernel))
                (pa_cons (nam (j := 13) (by decide +kernel) Nm.c13 (by decide +kernel)) (pa_cons (nam (j := 14) (by decide +kernel) Nm.c14 (by decide +kernel)) pa_nil)))))))) pa_nil))) pa_nil))) pa_nil)))
      (pss_cons (ps_expr (pe_bm (T := "list") PySem.F.plainAttrs_list PySem.F.slot_list_append PySem.F.type_list_append mt_append (pv 4) (pa_cons (pe_tup (pa_cons pe_str (pa_cons (pe_callB (cr_isXT hz hf) (gl (by decide +kernel)) T.isinstance boot_isinstance (pa_cons (pv 1) (pa_cons (pe_tup
              (pa_cons (nam (j := 15) (by decide +kernel) Nm.c15 (by decide +kernel)) (pa_cons (nam (j := 16) (by decide +kernel) Nm.c16 (by decide +kernel)) (pa_cons (nam (j := 17) (by decide +kernel) Nm.c17 (by decide +kernel)) (pa_cons (nam (j := 18) (by decide +kernel) Nm.c18 (by decide +kernel)) (pa_cons (nam (j := 19) (by decide +kernel) Nm.c19 (by decide +kernel))
                pa_nil)))))) pa_nil))) pa_nil))) pa_nil)))
      (pss_cons (ps_setLc (i := 5) (own := [("word", 6), ("is_it", 7)]) (g := gTup X.K 2 (gCons (gName 6) (gCons (gName 7) gNil))) (tt := tB (tVar 7)) (te := tVar 6) rfl nd rfl rfl (sw_true rfl rfl rfl (by decide +kernel)) pil (blkOk_by (N := nSaid) (sc := defScope sSaid) (by decide +kernel))
              (fun _ _ _ _ _ => pg_tup rfl (pgs_cons (pg_name (i := 6) nd rfl (Or.inl rfl)) (pgs_cons (pg_name (i := 7) nd rfl (Or.inl rfl)) pgs_nil))) (fun _ _ _ _ _ => pts_one (pt_val (pv 7))) (fun _ _ _ _ _ => pv 6))
      (pss_cons (ps_if (PW.pt (pw_or (pt_cmpR op_ne (pe_callB lenc (gl (by decide +kernel)) T.len PySem.boot_len (pa_cons (pv 5) pa_nil)) pe_int (nomark _))
              (pw_or (pt_cmpR eqd (pv 5) (pe_lst (pa_cons pe_str pa_nil)) (nomark _))
              (pw_or1 (pt_not (pt_val (pe_callB (cr_isX hz hf) (gl (by decide +kernel)) T.isinstance boot_isinstance (pa_cons (pv 1) (pa_cons (pe_bltn (v := .ty "ValueError") (gl (by decide +kernel)) Nm.ve PyProof.Rows.Boot.«ValueError» rfl) pa_nil))))))))) (pss_one (ps_ret (pe_tup (pa_cons pe_str (pa_cons pe_non pa_nil))))) pss_nil)
      (pss_one (ps_ret (pe_tup (pa_cons (pe_ix ixl (pv 5) pe_int (fun _ _ => rfl)) (pa_cons (pe_ifExp (pt_cmpR op_eq (pe_ix ixl (pv 5) pe_int (fun _ _ => rfl)) pe_str (nomark _)) (fld hz hf) (fld hz hf)) pa_nil)))))))))))))), ?_⟩
      rintro D σ H1 ⟨i, dd, v, C, rfl, rfl, hd, k, hl, h1⟩
      obtain ⟨s0, s1, s2, s3, s4, s5, s6, s7, rfl⟩ : ∃ s0 s1 s2 s3 s4 s5 s6 s7, σ = [s0, s1, s2, s3, s4, s5, s6, s7] := by
        match σ, hl with
        | [s0, s1, s2, s3, s4, s5, s6, s7], _ => exact ⟨s0, s1, s2, s3, s4, s5, s6, s7, rfl⟩
      cases h1
      refine ⟨_, rfl, rfl, _, rfl, iteF ?_⟩
      unfold tNext tSeq tAsg
      dsimp only
      refine pairS (j1 := 0) (j2 := 1) C (by decide) (by decide) (by rfl) hd fun l1 q1 q2 H2 z2 f2 e2 k2 => ?_
      have hd2 := z2 _ _ hd
      show tOp (rCatS X.K) _ _ _ _ _
      refine catS (j1 := 2) (j2 := 3) C (by decide) (by decide) (by rfl) (by rfl) hd2 e2 k2 (by rw [k2.len]; exact Nat.le_of_ble_eq_true rfl) fun l2 b2 H3 z3 f3 e3 k3 => ?_
      have hd3 := z3 _ _ hd2
      show tOp (rCatS X.K) _ _ _ _ _
      refine catS (j1 := 4) (j2 := 5) C (by decide) (by decide) (by rfl) (by rfl) hd3 e3 k3 (by rw [k3.len]; exact Nat.le_of_ble_eq_true rfl) fun l3 b3 H4 z4 f4 e4 k4 => ?_
      have hd4 := z4 _ _ hd3
      show tOp (rCatS X.K) _ _ _ _ _
      refine catS (j1 := 6) (j2 := 7) C (by decide) (by decide) (by rfl) (by rfl) hd4 e4 k4 (by rw [k4.len]; exact Nat.le_of_ble_eq_true rfl) fun l4 b4 H5 z5 f5 e5 k5 => ?_
      have hd5 := z5 _ _ hd4
      have z15 := z2.trans (z3.trans (z4.trans z5))
      have f15 : H1 l4 = none := (z2.trans (z3.trans z4)).free f5
      have lt := C.lt
      refine ⟨_, rfl, .inl ⟨rfl, _, SqL.of e5⟩, ?_⟩
      show tTup _ _ _ _
      refine otherS (js := [8, 9, 10, 11, 12, 13, 14]) C (fun j hj => ?_) (by decide) (by rfl) hd5 (fun R h => h) fun p6 H6 z6 e6 => ?_
      · simp only [List.mem_cons, List.not_mem_nil, or_false] at hj
        omega
      have hl6 := z6 _ _ e5
      have lb : b4.length = 8 := by rw [k5.len]; rfl
      refine ⟨l4, _, _, rfl, rfl, hl6, small1000 (by rw [List.length_map, lb]; decide), ?_⟩
      have z16 := z15.trans z6
      have k6 := k5.mono z6
      have s7' : Same H1 (upd H6 l4 (.lst (refs b4 ++ [V.ref p6]))) := fun b o eo => by
        rw [upd_ne (ne_of_none eo f15)]
        exact z16 _ _ eo
      have t7 : ∀ b xs, H6 b = some (.tup xs) → (upd H6 l4 (.lst (refs b4 ++ [V.ref p6]))) b = some (.tup xs) := fun b xs h => (upd_ne (ne_of h hl6 (by intro z; cases z))).trans h
      have e7 : (upd H6 l4 (.lst (refs b4 ++ [V.ref p6]))) l4 = some (.lst (refs (b4 ++ [p6]))) := by
        rw [upd_same, refs_app]
        rfl
      have k7 : KS (upd H6 l4 (.lst (refs b4 ++ [V.ref p6]))) (b4 ++ [p6]) _ := (k6.monoT t7).app (.cons (t7 _ _ e6) .nil (p := ("other", false)))
      have hd7 := s7' _ _ hd
      generalize upd H6 l4 (.lst (refs b4 ++ [V.ref p6])) = H7 at s7' e7 k7 hd7
      refine ⟨_, rfl, .inl ⟨rfl, _, SqL.of e7⟩, ?_⟩
      show tTup _ _ _ _
      refine otherS (js := [15, 16, 17, 18, 19]) C (fun j hj => ?_) (by decide) (by rfl) hd7 (fun R h => h) fun p8 H8 z8 e8 => ?_
      · simp only [List.mem_cons, List.not_mem_nil, or_false] at hj
        omega
      have hl8 := z8 _ _ e7
      refine ⟨l4, _, _, rfl, rfl, hl8, small1000 (by rw [List.length_map, List.length_append, lb]; exact Nat.le_of_ble_eq_true rfl), ?_⟩
      have z18 := s7'.trans z8
      have s9 : Same H1 (upd H8 l4 (.lst (refs (b4 ++ [p6]) ++ [V.ref p8]))) := fun b o eo => by
        rw [upd_ne (ne_of_none eo f15)]
        exact z18 _ _ eo
      have t9 : ∀ b xs, H8 b = some (.tup xs) → (upd H8 l4 (.lst (refs (b4 ++ [p6]) ++ [V.ref p8]))) b = some (.tup xs) := fun b xs h => (upd_ne (ne_of h hl8 (by intro z; cases z))).trans h
      have e9 : (upd H8 l4 (.lst (refs (b4 ++ [p6]) ++ [V.ref p8]))) l4 = some (.lst (refs (b4 ++ [p6] ++ [p8]))) := by
        rw [upd_same, refs_app (b4 ++ [p6])]
        rfl
      have k9 : KS (upd H8 l4 (.lst (refs (b4 ++ [p6]) ++ [V.ref p8]))) (b4 ++ [p6] ++ [p8]) (someS i) := ((k7.mono z8).monoT t9).app (.cons (t9 _ _ e8) .nil (p := ("other", false)))
      have hd9 := s9 _ _ hd
      generalize upd H8 l4 (.lst (refs (b4 ++ [p6]) ++ [V.ref p8])) = H9 at s9 e9 k9 hd9
      generalize b4 ++ [p6] ++ [p8] = bs at e9 k9
      have lbs : bs.length = 10 := k9.len
      refine ⟨_, rfl, l4, rfl, ⟨_, SqL.of e9⟩, fun D' hD => ?_⟩
      have sD := Same.new (o := .lst []) hD
      refine lc_it (walk_list (K := X.K) (a := l4) (xs := refs bs)) (fun n H6 => ∃ acc : List V, H6 D' = some (.lst acc) ∧ acc = (((someS i).take n).filter (·.2)).map (fun p => V.str p.1) ∧ n ≤ 10 ∧ Same H9 H6) ⟨[], upd_same, rfl, Nat.zero_le _, sD⟩ (fun n H6 _ ⟨_, _, _, _, s6⟩ => SqL.of (s6 _ _ e9)) ?_ ?_
      · rintro n x HA HB hn ⟨acc, hDA, ea, h10, sA⟩ ⟨rfl, hx⟩
        have hn8 : n < 10 := by rw [List.length_map, lbs] at hn; exact hn
        have hx : (refs bs)[n]? = some x := hx
        rw [List.getElem?_map, List.getElem?_eq_getElem (by omega : n < bs.length)] at hx
        cases hx
        obtain ⟨p, hp, hpa⟩ := k9.get (List.getElem?_eq_getElem (by omega : n < bs.length))
        have h6 := sA _ _ hpa
        have step : (someS i).take (n + 1) = (someS i).take n ++ [p] := by
          rw [List.take_succ, hp]
          rfl
        refine ⟨_, _, rfl, SqT.of h6, rfl, _, _, rfl, _, _, rfl, rfl, rfl, ?_⟩
        refine ⟨_, rfl, _, rfl, ?_⟩
        refine ite2 (fun hb => ?_) (fun hb => ?_)
        · have hlen : acc.length ≤ 10 := by
            rw [ea, List.length_map]
            exact Nat.le_trans (List.length_filter_le _ _) (by rw [List.length_take]; omega)
          refine ⟨_, rfl, acc, hDA, small1000 (by omega), acc ++ [V.str p.1], upd_same, ?_, by omega, fun b o e => ?_⟩
          · rw [step, List.filter_append, List.map_append, ← ea]
            have : [p].filter (·.2) = [p] := by rw [List.filter_cons, if_pos hb, List.filter_nil]
            rw [this]
            rfl
          · rw [upd_ne (ne_of_none e hD)]
            exact sA _ _ e
        · refine ⟨acc, hDA, ?_, by omega, sA⟩
          rw [step, List.filter_append]
          have : [p].filter (·.2) = [] := by rw [List.filter_cons, if_neg hb, List.filter_nil]
          rw [this, List.append_nil]
          exact ea
      · rintro HA ⟨acc, hDA, ea, _, sA⟩
        have e10 : (refs bs).length = 10 := by rw [List.length_map, lbs]
        rw [e10, show (someS i).take 10 = someS i from rfl, some_one i C.lt] at ea
        have ea : acc = [V.str (wordS i)] := ea
        subst ea
        have hdA := sA _ _ hd9
        have s1A := s9.trans sA
        refine ⟨_, rfl, D', _, rfl, .inl (SqL.of hDA), rfl, _, rfl, ?_⟩
        refine ite2 (fun hb => absurd hb (by simp)) fun _ => ?_
        refine ⟨_, rfl, (by show 1 ≤ sizeLine; decide), fun o ho => ?_⟩
        have so := Same.new (o := .lst [V.str "other"]) ho
        have hDo := so _ _ hDA
        refine ⟨.list [.str (wordS i)], .list [.str "other"], .lst (SqL.of hDo) (.cons (.str _) .nil), .lst (SqL.of upd_same) (.cons (.str _) .nil), word_shaped i C.lt, by decide +kernel, _, rfl, ?_⟩
        rw [word_other i C.lt]
        refine iteF ?_
        have hdo := so _ _ hdA
        have s1o := s1A.trans so
        generalize upd HA o (.lst [V.str "other"]) = HO' at so hDo hdo s1o
        refine ⟨_, rfl, CL i, dd, .ty "ValueError", .type "ValueError", true, _, rfl, rfl, rfl, C.exc, fun u r => r, C.ve, hdo, true, rfl, iteF ?_⟩
        refine ⟨_, rfl, D', _, 0, _, rfl, rfl, SqL.of hDo, rfl, ?_⟩
        refine ⟨_, rfl, D', _, 0, _, rfl, rfl, SqL.of hDo, rfl, rfl, _, rfl, ?_⟩
        by_cases h3 : i = 3
        · subst h3
          rw [show decide (V.str (wordS 3) = V.str "never") = true from word_never 3 C.lt]
          exact iteT ⟨_, rfl, CL 3, dd, _, v, rfl, rfl, rfl, C.xf, C.no, hdo, look_one, two_le, fun u hu => k _ u (s1o.trans (Same.new hu)) upd_same⟩
        · rw [show decide (V.str (wordS i) = V.str "never") = false from (word_never i C.lt).trans (decide_eq_false h3)]
          refine iteF ?_
          have ef : fldS i = "place" := if_neg h3
          rw [ef] at hdo
          exact ⟨_, rfl, CL i, dd, _, v, rfl, rfl, rfl, C.xf, ef ▸ C.no, hdo, look_one, two_le, fun u hu => k _ u (s1o.trans (Same.new hu)) upd_same⟩
    exact ⟨fun pins s σ H D I h => ht.run pins s σ H D I (hm D σ H h)⟩
  refine ⟨_, pss_cons (ps_asg (pe_tup (pa_cons pe_non (pa_cons pe_non pa_nil))) (pg_tup rfl (pgs_cons (pg_name (i := 1) nd rfl (Or.inl rfl)) (pgs_cons (pg_name (i := 2) nd rfl (Or.inl rfl)) pgs_nil)))) (pss_hold2 (X := cx.nox) (rest := (defBody sSaid).drop 2) (i := 3) (j := 1) (c := .ref RE) (c2 := .ref (CL 8)) (Wout := fun _ _ _ _ => False)
    (tb := fun W D σ H => ∃ Ech : XK, (∀ cls d σ' H', Ech cls d H' → σ'.length = 8 → W cls d σ' H') ∧ σ[0]? = some (some (.ref f)) ∧ H c' = some (LamX.CodeO c' q) ∧ tl Ech H fun v H' => D.nx (σ.set 2 (some v)) H')
    rfl rfl nd rfl rfl rfl rfl ⟨gl (by decide +kernel), by decide +kernel, .inl Nm.re⟩ ⟨gl (by decide +kernel), by decide +kernel, .inl Nm.c8⟩ LamX.takes0 (by decide +kernel) (by decide +kernel) (fun W pn xe tk _ => ?_)
    (pss_cons (ps_if (pt_cmpR op_isN (pv 1) pe_non (nomark _)) (pss_one (ps_ret (pe_tup (pa_cons pe_str (pa_cons (pv 2) pa_nil))))) pss_nil) pss_never)
    hE), ?_⟩
  · exact ⟨fun pins s' σ H' D I ⟨Ech, hW, h1, h2, h3⟩ => (pss_one (ps_set (i := 2) nd rfl (Or.inl rfl) (act (fun cls d σ H => σ.length = 8 → W cls d σ H) pn xe Ech _ _ (takes_len tk) hW))).run pins s' σ H' D I ⟨h1, h2, h3⟩⟩
  · refine ⟨two_le, fun t0 ht0 => ⟨t0, _, rfl, SqT.of upd_same, rfl, _, _, rfl, _, _, rfl, rfl, ?_⟩⟩
    have st := Same.new (o := .tup [V.non, V.non]) ht0
    refine ⟨XSaid X.K CL RE Q, fun cls d σ' H1 hx hl => ?_, rfl, st _ _ hc, h _ _ st fun v H' hq => ?_⟩
    · obtain ⟨i, dd, v, C, rfl, rfl, hd, hk⟩ := hx
      refine ⟨true, C.exm, fun _ a ha => ?_, fun z => nomatch z⟩
      obtain ⟨s0, s1, s2, s3, s4, s5, s6, s7, rfl⟩ : ∃ s0 s1 s2 s3 s4 s5 s6 s7, σ' = [s0, s1, s2, s3, s4, s5, s6, s7] := by
        match σ', hl with
        | [s0, s1, s2, s3, s4, s5, s6, s7], _ => exact ⟨s0, s1, s2, s3, s4, s5, s6, s7, rfl⟩
      exact ⟨i, dd, v, C, rfl, rfl, hd, hk, rfl, rfl⟩
    · exact ⟨_, rfl, rfl, _, rfl, iteT ⟨_, rfl, two_le, hq⟩⟩
end
end One
end P_Q8

section P_N1
set_option linter.all false
set_option maxRecDepth 100000
set_option maxHeartbeats 8000000
/-! The draws of the later laws: a dict of the script, a place, what is left. -/
namespace One
open PySem PySem.Spec PyProof.Rows L2
abbrev kS : Key := Sum.inr ("script" : Str)
abbrev kA : Key := Sum.inr ("at" : Str)
abbrev kL : Key := Sum.inr ("left" : Str)
def mk3 (a : Addr) (k l : Int) : List (Key × V) := [(kS, .ref a), (kA, .int k), (kL, .int l)]
theorem nSA : ¬ (kS = kA) := by decide +kernel
theorem nSL : ¬ (kS = kL) := by decide +kernel
theorem nAL : ¬ (kA = kL) := by decide +kernel
section
variable (a : Addr) (k l : Int)
theorem mk3_S : valV (mk3 a k l) kS = some (.ref a) := valV_pos rfl
theorem mk3_A : valV (mk3 a k l) kA = some (.int k) := (valV_neg nSA).trans (valV_pos rfl)
theorem mk3_L : valV (mk3 a k l) kL = some (.int l) := (valV_neg nSL).trans ((valV_neg nAL).trans (valV_pos rfl))
theorem put_atK (p : List (Key × V)) (k : Key) (v : V) (h : (p.any fun kv => decide (kv.1 = k)) = true) : putK p k v = p.map (fun kv => if kv.1 = k then (kv.1, v) else kv) := by
  unfold putK
  rw [if_pos h]
theorem mk3_putA (b : Int) : putK (mk3 a k l) kA (.int b) = mk3 a b l := by
  rw [put_atK _ _ _ (by rw [valV_any, mk3_A]; rfl)]
  simp only [mk3, List.map_cons, List.map_nil, if_neg nSA, if_neg (Ne.symm nAL), if_true]
theorem mk3_putL (b : Int) : putK (mk3 a k l) kL (.int b) = mk3 a k b := by
  rw [put_atK _ _ _ (by rw [valV_any, mk3_L]; rfl)]
  simp only [mk3, List.map_cons, List.map_nil, if_neg nSL, if_neg nAL, if_true]
theorem mk3_make : mergeK [] [(kS, V.ref a), (kA, .int k), (kL, .int l)] = mk3 a k l := by
  have e1 : putK ([] : List (Key × V)) kS (.ref a) = [(kS, .ref a)] := putK_new _ valV_nil
  have e2 : putK [(kS, V.ref a)] kA (.int k) = [(kS, .ref a), (kA, .int k)] := putK_new _ (by rw [valV_neg nSA]; rfl)
  have e3 : putK [(kS, V.ref a), (kA, V.int k)] kL (.int l) = [(kS, .ref a), (kA, .int k), (kL, .int l)] := putK_new _ (by rw [valV_neg nSL, valV_neg nAL]; rfl)
  simp only [mergeK, List.foldl_cons, List.foldl_nil]
  rw [e1, e2, e3]
  rfl
end
/-- the draws' dict at p, of the script at a, with at most n draws so far -/
structure MT (K : PySem.W.Frag) (H : Hp) (p a : Addr) (n : Nat) : Prop where
  ex : ∃ (ns : List Int) (k l : Int), H p = some (.dK (mk3 a k l)) ∧ SqL K H a (ns.map V.int) ∧ ns.length ≤ 63 ∧ 0 ≤ k ∧ k ≤ (n : Int) ∧ 0 ≤ l
  nn : n ≤ 1000000
theorem MT.dict {K : PySem.W.Frag} {H : Hp} {p a : Addr} {n : Nat} (M : MT K H p a n) : DictAt H p := by
  obtain ⟨ns, k, l, h, _⟩ := M.ex
  exact ⟨_, h⟩
theorem MT.lt {K : PySem.W.Frag} {H : Hp} {p a : Addr} {n k : Nat} (M : MT K H p a n) (h : n ≤ k) (hk : k ≤ 1000000) : MT K H p a k := by
  obtain ⟨ns, q, l, h1, h2, h3, h4, h5, h6⟩ := M.ex
  exact ⟨⟨ns, q, l, h1, h2, h3, h4, by omega, h6⟩, hk⟩
theorem MT.keep {K : PySem.W.Frag} {H H' : Hp} {p a : Addr} {n : Nat} (M : MT K H p a n) (e : Same H H') : MT K H' p a n := by
  obtain ⟨ns, q, l, h1, h2, r⟩ := M.ex
  exact ⟨⟨ns, q, l, e _ _ h1, e.seq h2, r⟩, M.nn⟩
/-- nothing but p is written -/
theorem seq_but {K : PySem.W.Frag} {H H' : Hp} {p a : Addr} {xs : List V} {kvs : List (Key × V)} (hp : H p = some (.dK kvs)) (e : But p H H') (h : SqL K H a xs) : SqL K H' a xs := by
  rcases h with (h | ⟨ob, h⟩) | h
  · exact .inl (.inl ((e a (ne_of h hp (by intro z; cases z))).trans h))
  · exact .inl (.inr ⟨ob, (e a (ne_of h hp (by intro z; cases z))).trans h⟩)
  · exact .inr h
theorem seq_ext {K : PySem.W.Frag} {H H' : Hp} {p a : Addr} {xs : List V} {kvs : List (Key × V)} (hp : H p = some (.dK kvs)) (e : Ext p H H') (h : SqL K H a xs) : SqL K H' a xs := by
  rcases h with (h | ⟨ob, h⟩) | h
  · exact .inl (.inl (e a _ (ne_of h hp (by intro z; cases z)) h))
  · exact .inl (.inr ⟨ob, e a _ (ne_of h hp (by intro z; cases z)) h⟩)
  · exact .inr h
/-- a list made since is written -/
theorem MT.wrN {K : PySem.W.Frag} {H0 H : Hp} {p a q : Addr} {n0 n : Nat} {xs : List V} {o : HO} (M0 : MT K H0 p a n0) (h0 : H0 q = none) (e : Ext p H0 H) (M : MT K H p a n) (hq : H q = some (.lst xs)) : MT K (upd H q o) p a n := by
  have hp := M.dict.neL hq
  obtain ⟨ns, k, l, h1, _, _, r⟩ := M.ex
  obtain ⟨ns0, k0, l0, g1, g2, g3, _⟩ := M0.ex
  refine ⟨⟨ns0, k, l, by rw [upd_ne (Ne.symm hp)]; exact h1, ?_, g3, r⟩, M.nn⟩
  rcases g2 with (h | ⟨ob, h⟩) | h
  · exact .inl (.inl (by rw [upd_ne (ne_of_none h h0)]; exact e a _ (ne_of h g1 (by intro z; cases z)) h))
  · exact .inl (.inr ⟨ob, by rw [upd_ne (ne_of_none h h0)]; exact e a _ (ne_of h g1 (by intro z; cases z)) h⟩)
  · exact .inr h
theorem Ext.upd {p : Addr} {H H' : Hp} {o : HO} (h : Ext p H H') : Ext p H (upd H' p o) := fun b u hb e => (upd_ne hb).trans (h b u hb e)
theorem dp_ints {K : PySem.W.Frag} {H : Hp} : ∀ ns : List Int, DpAll K H (ns.map V.int) (ns.map PyData.int)
  | [] => .nil
  | x :: r => .cons (.int x) (dp_ints r)
theorem ints_depth : ∀ ns : List Int, PyData.depthAll (ns.map PyData.int) = 0
  | [] => rfl
  | x :: r => by
    show max 0 (PyData.depthAll (r.map PyData.int)) = 0
    rw [ints_depth r]
    rfl
theorem ints_lay : ∀ ns : List Int, PyData.canLayAll0 (ns.map PyData.int) = true
  | [] => rfl
  | x :: r => by
    show (PyData.canLay0 (.int x) && PyData.canLayAll0 (r.map PyData.int)) = true
    rw [ints_lay r]
    rfl
theorem ints_shaped (ns : List Int) : SeqAt.shaped (.list (ns.map PyData.int)) = true := by
  unfold SeqAt.shaped
  have h1 : PyData.canLay0 (.list (ns.map PyData.int)) = true := ints_lay ns
  have h2 : PyData.depth (.list (ns.map PyData.int)) ≤ 64 := by
    show PyData.depthAll (ns.map PyData.int) + 1 ≤ 64
    rw [ints_depth]
    decide
  rw [h1, decide_eq_true h2]
  rfl
abbrev sBegun : Stmt := top 49
abbrev sNext : Stmt := top 50
abbrev sOf : Stmt := top 51
theorem scBegun : FnScope ["script"] ["script"] (defScope sBegun) := ⟨rfl, rfl, rfl, by decide +kernel, rfl, by decide +kernel, by decide +kernel⟩
theorem scNext : FnScope ["m", "total", "found", "k", "cell", "number"] ["m", "total"] (defScope sNext) := ⟨rfl, rfl, rfl, by decide +kernel, rfl, by decide +kernel, by decide +kernel⟩
def spBegun (K : PySem.W.Frag) : Sp := fun vs H Q _ => ∃ (a : Addr) (ns : List Int), vs = [.ref a] ∧ SqL K H a (ns.map V.int) ∧ ns.length ≤ 63 ∧
  ∀ (H' : Hp) (p : Addr), Same H H' → H p = none → MT K H' p a 0 → Q (.ref p) H'
def spNext (K : PySem.W.Frag) : Sp := fun vs H Q _ => ∃ (p a : Addr) (n : Nat) (many : Int), vs = [.ref p, .int many] ∧ MT K H p a n ∧ n < 1000000 ∧ 0 < many ∧ many < 1073741824 ∧
  ∀ (H' : Hp) (f : Int), MT K H' p a (n + 1) → Ext p H H' → 0 ≤ f → f < many → Q (.int f) H'
theorem gS3 {H : Hp} {p a : Addr} {k l : Int} (h : H p = some (.dK (mk3 a k l))) : DGet H p (.str ("script" : Str)) (some (.ref a)) := by
  have q := DGet.k (k := kS) h
  rw [mk3_S] at q
  exact q
theorem gA3 {H : Hp} {p a : Addr} {k l : Int} (h : H p = some (.dK (mk3 a k l))) : DGet H p (.str ("at" : Str)) (some (.int k)) := by
  have q := DGet.k (k := kA) h
  rw [mk3_A] at q
  exact q
theorem gL3 {H : Hp} {p a : Addr} {k l : Int} (h : H p = some (.dK (mk3 a k l))) : DGet H p (.str ("left" : Str)) (some (.int l)) := by
  have q := DGet.k (k := kL) h
  rw [mk3_L] at q
  exact q
theorem len3 (a : Addr) (k l : Int) : (mk3 a k l).length < sizeLine := by
  show 3 < sizeLine
  decide
theorem pA3 {H : Hp} {p a : Addr} {k l b : Int} (h : H p = some (.dK (mk3 a k l))) : DPut H p (.str ("at" : Str)) (.int b) (upd H p (.dK (mk3 a b l))) := by
  have q := DPut.k (k := kA) (v := .int b) h (len3 _ _ _)
  rw [mk3_putA] at q
  exact q
theorem pL3 {H : Hp} {p a : Addr} {k l b : Int} (h : H p = some (.dK (mk3 a k l))) : DPut H p (.str ("left" : Str)) (.int b) (upd H p (.dK (mk3 a k b))) := by
  have q := DPut.k (k := kL) (v := .int b) h (len3 _ _ _)
  rw [mk3_putL] at q
  exact q
section
variable {P : Program} {w : World} {K : PySem.W.Frag} {mg : Str → Option Value} {base : Heap}
theorem ok_begun {f : Addr} {fd : FuncData} (F : Fun K "_law_begun" "_law_begun" sBegun f fd) : FnOk P w K mg base CX0 1 f fd ["script"] (spBegun K) := by
  refine F.ok scBegun (fun vs H Q E h => ?_) (fun cdv A outer s H vs Q E hr h => ?_)
  · obtain ⟨a, ns, rfl, _⟩ := h
    rfl
  · obtain ⟨a, ns, rfl, hS, hl, k⟩ := h
    refine ⟨_, pss_one (ps_ret (pe_disp (pps_cons pe_str (pv 0) (pps_cons pe_str pe_int (pps_cons pe_str pe_int pps_nil))) (by rfl) (by rfl) (fun z => by cases z) (by decide))), ?_⟩
    intro p hp
    have s0 : Same H (upd H p (.dK [])) := Same.new hp
    refine ⟨_, rfl, upd_same, [(kS, .ref a), (kA, .int 0), (kL, .int 0)], rfl, by show 3 ≤ 15; decide, ?_⟩
    have s1 : Same H (upd (upd H p (.dK [])) p (.dK (mergeK [] [(kS, V.ref a), (kA, .int 0), (kL, .int 0)]))) := fun b o e => by
      rw [upd_ne (ne_of_none e hp)]
      exact s0 _ _ e
    exact k _ p s1 hp ⟨⟨ns, 0, 0, by rw [upd_same, mk3_make], s1.seq hS, hl, Int.le_refl _, Int.le_refl _, Int.le_refl _⟩, by decide⟩
end
end One
end P_N1

section P_N2
set_option linter.all false
set_option maxRecDepth 100000
set_option maxHeartbeats 8000000
namespace One
open PySem PySem.Spec PyProof.Rows L2
theorem num_bound {z k : Int} (h0 : 0 ≤ k) (h1 : k ≤ 1000000) : -(2 ^ 64) < 7919 * k ∧ 7919 * k < 2 ^ 64 := ⟨by omega, by omega⟩
section
variable {P : Program} {w : World} {K : PySem.W.Frag} {mg : Str → Option Value} {base : Heap}
theorem ok_next {f : Addr} {fd : FuncData} (F : Fun K "_law_next" "_law_next" sNext f fd) (T : TB mg) : FnOk P w K mg base CX0 1 f fd ["m", "total"] (spNext K) := by
  refine F.ok scNext (fun vs H Q E h => ?_) (fun cdv A outer s H vs Q E hr h => ?_)
  · obtain ⟨p, a, n, many, rfl, _⟩ := h
    rfl
  · obtain ⟨p, a, n, many, rfl, M, hn, h0, h1, kk⟩ := h
    obtain ⟨ns, k, l, hm, hS, h63, hk0, hkn, hl⟩ := M.ex
    have nd := scNext.nd
    have hu := hu_of hr
    have hu2 : (A.deeper (envOfC "_law_next" (defScope sNext) s.heap.objs.size f cdv)).units + 64 < cLine := hr.units
    refine ⟨_, pss_cons (ps_if (pt_cmpR op_gt (pe_dget hu (pv 0) pe_str (fun _ _ => rfl)) pe_int (nomark _))
        (pss_cons (ps_set (i := 2) nd rfl (Or.inl rfl) (pe_op op_mod (pe_dget hu (pv 0) pe_str (fun _ _ => rfl)) (pv 1)))
        (pss_cons (ps_dput hu (pv 0) pe_str (pe_op op_fdiv (pe_dget hu (pv 0) pe_str (fun _ _ => rfl)) (pv 1)) rfl)
        (pss_one (ps_ret (pv 2))))) pss_nil)
      (pss_cons (ps_set (i := 3) nd rfl (Or.inl rfl) (pe_dget hu (pv 0) pe_str (fun _ _ => rfl)))
      (pss_cons (ps_dput hu (pv 0) pe_str (pe_op op_add (pv 3) pe_int) rfl)
      (pss_cons (ps_set (i := 4) nd rfl (Or.inl rfl) (pe_mid (pe_ifExp (pt_cmpR (op_neD (by exact hu2)) (pe_dget hu (pv 0) pe_str (fun _ _ => rfl)) (pe_lst pa_nil) (nomark _)) (pe_ix ix_list (pe_dget hu (pv 0) pe_str (fun _ _ => rfl)) (pe_op op_mod (pv 3) (pe_callB call_len_seq (by rfl) T.len PySem.boot_len (pa_cons (pe_dget hu (pv 0) pe_str (fun _ _ => rfl)) pa_nil))) (fun _ _ => rfl)) pe_int)))
      (pss_cons (ps_if (pt_mid (PW.pt (pw_and (pt_cmpR op_ge (pv 4) (pe_op op_pow pe_int pe_int) (nomark _)) (pw_and1 (pt_cmpR op_lt (pv 3) (pe_callB call_len_seq (by rfl) T.len PySem.boot_len (pa_cons (pe_dget hu (pv 0) pe_str (fun _ _ => rfl)) pa_nil)) (nomark _))))))
        (pss_cons (ps_dput hu (pv 0) pe_str (pe_op op_fdiv (pv 4) (pv 1)) rfl) (pss_one (ps_ret (pe_op op_mod (pv 4) (pv 1))))) pss_nil)
      (pss_cons (ps_set (i := 5) nd rfl (Or.inl rfl) (pe_op op_add (pe_op op_mul (pe_op op_mod (pv 4) pe_int) pe_int) (pe_op op_mod (pe_op op_fdiv (pv 4) pe_int) pe_int)))
      (pss_cons (ps_set (i := 5) nd rfl (Or.inl rfl) (pe_mid (pe_op op_mod (pe_op op_add (pe_op op_add (pe_op op_add (pv 5) (pe_op op_mul (pe_op op_mul pe_int (pv 3)) (pv 3))) (pe_op op_mul pe_int (pv 3))) pe_int) pe_int)))
      (pss_one (ps_ret (pe_op op_mod (pe_op op_fdiv (pe_op op_mod (pe_op op_mul (pe_op op_mod (pe_op op_mul (pv 5) (pv 5)) pe_int) pe_int) pe_int) pe_int) (pv 1)))))))))), ?_⟩
    have hk1 : k ≤ 1000000 := by omega
    have but1 : ∀ {b : Int}, Ext p H (upd H p (.dK (mk3 a k b))) := fun {b} => (Ext.refl p H).upd
    have fin : ∀ {H' : Hp} {k' l' : Int}, H' p = some (.dK (mk3 a k' l')) → Ext p H H' → 0 ≤ k' → k' ≤ (n : Int) + 1 → 0 ≤ l' → MT K H' p a (n + 1) := fun {H' k' l'} h b a1 a2 a3 => ⟨⟨ns, k', l', h, seq_ext hm b hS, h63, a1, by omega, a3⟩, by omega⟩
    refine ⟨_, rfl, p, _, rfl, gL3 hm, _, _, rfl, rfl, _, rfl, ?_⟩
    refine ite2 (fun hgt => ?_) (fun _ => ?_)
    · have hl0 : 0 < l := of_decide_eq_true hgt
      refine ⟨_, rfl, p, _, rfl, gL3 hm, _, rfl, _, _, rfl, rfl, h0, ?_⟩
      refine ⟨_, rfl, p, _, rfl, gL3 hm, _, rfl, _, _, rfl, rfl, ⟨h0, h1⟩, _, rfl, p, _, rfl, pL3 hm, ?_⟩
      exact ⟨_, rfl, kk _ _ (fin upd_same but1 hk0 (by omega) (Int.ediv_nonneg hl (Int.le_of_lt h0))) but1 (Int.emod_nonneg _ (by omega)) (Int.emod_lt_of_pos _ h0)⟩
    · refine ⟨_, rfl, p, _, rfl, gA3 hm, ?_⟩
      refine ⟨_, rfl, _, _, rfl, rfl, _, rfl, p, _, rfl, pA3 hm, ?_⟩
      have hm1 : (upd H p (.dK (mk3 a (k + 1) l))) p = some (.dK (mk3 a (k + 1) l)) := upd_same
      have b1 : Ext p H (upd H p (.dK (mk3 a (k + 1) l))) := (Ext.refl p H).upd
      have hS1 := seq_ext hm b1 hS
      have nl : (ns.map V.int).length = ns.length := List.length_map _
      generalize upd H p (.dK (mk3 a (k + 1) l)) = H1 at hm1 b1 hS1
      refine ⟨fun v H2 => (∃ z : Int, v = .int z) ∧ H2 p = some (.dK (mk3 a (k + 1) l)) ∧ Ext p H H2 ∧ SqL K H2 a (ns.map V.int), ?_, ?_⟩
      · refine ⟨_, rfl, p, _, rfl, gS3 hm1, Nat.zero_le _, fun l0 hl0 => ?_⟩
        have s0 := Same.new (o := .lst []) hl0
        have hm2 := s0 _ _ hm1
        have b2 := b1.trans (Ext.same s0)
        have hS2 := s0.seq hS1
        refine ⟨.list (ns.map PyData.int), .list [], .lst hS2 (dp_ints ns), .lst (SqL.of upd_same) .nil, ints_shaped ns, rfl, _, rfl, ?_⟩
        cases ns with
        | nil => exact iteF ⟨⟨_, rfl⟩, hm2, b2, hS2⟩
        | cons x r =>
          have hpos : (0 : Int) < (((x :: r).map V.int).length : Nat) := by
            rw [nl]
            show (0 : Int) < ((r.length + 1 : Nat) : Int)
            omega
          have hmod0 : 0 ≤ k % (((x :: r).length : Nat) : Int) := Int.emod_nonneg _ (by rw [← nl]; omega)
          have hmod1 : k % (((x :: r).length : Nat) : Int) < (((x :: r).length : Nat) : Int) := Int.emod_lt_of_pos _ (by rw [← nl]; exact hpos)
          obtain ⟨z, hz⟩ := get_cell (cells := x :: r) hmod0 hmod1
          refine iteT ⟨_, rfl, p, _, rfl, gS3 hm2, _, rfl, _, rfl, p, _, rfl, gS3 hm2, a, _, rfl, .inl hS2, _, _, rfl, rfl, hpos, a, _, _, _, rfl, rfl, hS2, (by rw [nl]; exact hz), ⟨_, rfl⟩, hm2, b2, hS2⟩
      · rintro v H2 ⟨⟨z, rfl⟩, hm2, b2, hS2⟩
        refine ⟨fun b H3 => H3 = H2 ∧ (b = true → 10 ^ 18 ≤ z), ?_, ?_⟩
        · refine ⟨_, rfl, _, _, rfl, rfl, ⟨by decide, by decide, by decide⟩, _, _, rfl, rfl, _, rfl, ?_⟩
          refine ite2 (fun hc18 => ?_) (fun _ => ⟨rfl, fun z => nomatch z⟩)
          exact ⟨_, rfl, _, rfl, p, _, rfl, gS3 hm2, a, _, rfl, .inl hS2, _, _, rfl, rfl, _, rfl, rfl, fun _ => of_decide_eq_true hc18⟩
        · rintro b H3 ⟨rfl, hb⟩
          refine ite2 (fun e => ?_) (fun _ => ?_)
          · have hz18 : 0 ≤ z := Int.le_trans (by decide) (hb e)
            refine ⟨_, rfl, _, rfl, _, _, rfl, rfl, ⟨h0, h1⟩, _, rfl, p, _, rfl, pL3 hm2, ?_⟩
            refine ⟨_, rfl, _, rfl, _, _, rfl, rfl, h0, ?_⟩
            have b3 := b2.upd (o := .dK (mk3 a (k + 1) (z / many)))
            exact kk _ _ (fin upd_same b3 (by omega) (by omega) (Int.ediv_nonneg hz18 (Int.le_of_lt h0))) b3 (Int.emod_nonneg _ (by omega)) (Int.emod_lt_of_pos _ h0)
          · have z0 := Int.emod_nonneg z (b := 1000003) (by decide)
            have z1 := Int.emod_lt_of_pos z (b := 1000003) (by decide)
            refine ⟨_, rfl, _, _, rfl, rfl, (by show (0 : Int) < 1000003; decide), _, _, rfl, rfl, .inr ⟨by decide, by decide⟩, _, rfl, _, _, rfl, rfl, ⟨by decide, by decide⟩, _, _, rfl, rfl, (by show (0 : Int) < 1000003; decide), _, _, rfl, rfl, ?_⟩
            refine ⟨fun v H4 => H4 = H3 ∧ ∃ N : Int, v = .int N ∧ 0 ≤ N ∧ N < 2147483647, ⟨_, rfl, _, rfl, _, _, rfl, rfl, .inl ⟨by decide, by decide⟩, _, rfl, _, _, rfl, rfl, .inl ⟨by omega, by omega⟩, _, _, rfl, rfl, _, rfl, _, _, rfl, rfl, .inl ⟨by decide, by decide⟩, _, _, rfl, rfl, _, _, rfl, rfl, _, _, rfl, rfl, (by show (0 : Int) < 2147483647; decide),
              rfl, _, rfl, Int.emod_nonneg _ (by decide), Int.emod_lt_of_pos _ (by decide)⟩, ?_⟩
            rintro v H4 ⟨rfl, N, rfl, hN0, hN1⟩
            have hr0 := Int.emod_nonneg (N * N) (b := 2147483629) (by decide)
            have hr1 := Int.emod_lt_of_pos (N * N) (b := 2147483629) (by decide)
            refine ⟨_, rfl, _, rfl, _, _, rfl, rfl, .inl ⟨by omega, by omega⟩, _, _, rfl, rfl, (by show (0 : Int) < 2147483629; decide), _, _, rfl, rfl, .inr ⟨by decide, by decide⟩, _, _, rfl, rfl, (by show (0 : Int) < 2147483587; decide), _, _, rfl, rfl, ⟨by decide, by decide⟩, _, rfl, _, _, rfl, rfl, h0, ?_⟩
            exact kk _ _ (fin hm2 b2 (by omega) (by omega) hl) b2 (Int.emod_nonneg _ (by omega)) (Int.emod_lt_of_pos _ h0)
end
end One
end P_N2

section P_N3
set_option linter.all false
set_option maxRecDepth 100000
set_option maxHeartbeats 8000000
namespace One
open PySem PySem.Spec PyProof.Rows L2
theorem scOf : FnScope ["m", "some"] ["m", "some"] (defScope sOf) := ⟨rfl, rfl, rfl, by decide +kernel, rfl, by decide +kernel, by decide +kernel⟩
abbrev sTurned : Stmt := top 52
theorem scTurned : FnScope ["m", "some", "left", "found"] ["m", "some"] (defScope sTurned) := ⟨rfl, rfl, rfl, by decide +kernel, rfl, by decide +kernel, by decide +kernel⟩
def spOf (K : PySem.W.Frag) : Sp := fun vs H Q _ => ∃ (p a l : Addr) (n : Nat) (xs : List V), vs = [.ref p, .ref l] ∧ MT K H p a n ∧ n < 1000000 ∧ SqL K H l xs ∧ 0 < xs.length ∧ xs.length < 1000000 ∧
  ∀ (H' : Hp) (i : Nat) (v : V), MT K H' p a (n + 1) → Ext p H H' → xs[i]? = some v → Q v H'
def spTurned (K : PySem.W.Frag) : Sp := fun vs H Q _ => ∃ (p a l : Addr) (n : Nat) (ns : List Nat), vs = [.ref p, .ref l] ∧ MT K H p a n ∧ SqL K H l (nats ns) ∧ ns.length ≤ 1000 ∧ n + ns.length ≤ 1000000 ∧
  ∀ (H' : Hp) (b : Addr) (ms : List Nat), MT K H' p a (n + ns.length) → Ext p H H' → H b = none → H' b = some (.lst (nats ms)) → ms.Perm ns → Q (.ref b) H'
theorem nats_ints (ns : List Nat) : nats ns = (ns.map fun x => ((x : Nat) : Int)).map V.int := by
  rw [List.map_map]
  rfl
theorem nats_ne (ns : List Nat) : PyData.eqv (.list ((ns.map fun x => ((x : Nat) : Int)).map PyData.int)) (.list []) = ns.isEmpty := by
  cases ns <;> rfl
section
variable {P : Program} {w : World} {K : PySem.W.Frag} {mg : Str → Option Value} {base : Heap}
theorem ok_of {f fN : Addr} {fd fdN : FuncData} (F : Fun K "_law_of" "_law_of" sOf f fd) (T : TB mg) (N : Cal K mg "_law_next" fN fdN ["m", "total"]) (GN : FnOk P w K mg base CX0 1 fN fdN ["m", "total"] (spNext K)) : FnOk P w K mg base CX0 2 f fd ["m", "some"] (spOf K) := by
  refine F.ok scOf (fun vs H Q E h => ?_) (fun cdv A outer s H vs Q E hr h => ?_)
  · obtain ⟨p, a, l, n, xs, rfl, _⟩ := h
    rfl
  · obtain ⟨p, a, l, n, xs, rfl, M, hn, hl, h0, h1, k⟩ := h
    refine ⟨_, pss_one (ps_ret (pe_ix ix_list (pv 1) (pe_call GN hr rfl N.g N.kp N.b .nil pass0 (pa_cons (pv 0) (pa_cons (pe_callB call_len_seq (by rfl) T.len PySem.boot_len (pa_cons (pv 1) pa_nil)) pa_nil))) (fun _ _ => rfl))), ?_⟩
    refine ⟨_, rfl, _, rfl, _, rfl, l, _, rfl, .inl hl, p, a, n, _, rfl, M, hn, by omega, by omega, fun H1 r M1 e1 r0 r1 => ?_⟩
    obtain ⟨j, rfl⟩ : ∃ j : Nat, r = (j : Nat) := ⟨r.toNat, by omega⟩
    obtain ⟨kvs, hp⟩ := M.dict
    have hj : j < xs.length := by omega
    exact ⟨l, _, _, xs[j], rfl, rfl, seq_ext hp e1 hl, at_of (j := j) rfl (List.getElem?_eq_getElem hj), k _ j _ M1 e1 (List.getElem?_eq_getElem hj)⟩
theorem ok_turned {f fN : Addr} {fd fdN : FuncData} (F : Fun K "_law_turned_about" "_law_turned_about" sTurned f fd) (T : TB mg) (N : Cal K mg "_law_next" fN fdN ["m", "total"]) (GN : FnOk P w K mg base CX0 1 fN fdN ["m", "total"] (spNext K)) : FnOk P w K mg base CX0 2 f fd ["m", "some"] (spTurned K) := by
  refine F.ok scTurned (fun vs H Q E h => ?_) (fun cdv A outer s H vs Q E hr h => ?_)
  · obtain ⟨p, a, l, n, ns, rfl, _⟩ := h
    rfl
  · obtain ⟨p, a, l, n, ns, rfl, M, hl, h1000, hn, k⟩ := h
    have nd := scTurned.nd
    have hu2 : (A.deeper (envOfC "_law_turned_about" (defScope sTurned) s.heap.objs.size f cdv)).units + 64 < cLine := hr.units
    refine ⟨_, C8.pss_cut (ps_par (i := 2) (j := 3) (by rfl) nd rfl rfl (by decide) rfl rfl (pa_cons (pe_callTy call_list_of (by rfl) T.list (by decide +kernel) (pa_cons (pv 1) pa_nil) (by decide)) (pa_cons (pe_lst pa_nil) pa_nil)) (by rfl))
      (pss_cons (ps_while PassesOwn.never (pt_cmpR (op_neD (by exact hu2)) (pv 2) (pe_lst pa_nil) (nomark _))
        (pss_one (ps_expr (pe_bm PySem.F.plainAttrs_list PySem.F.slot_list_append PySem.F.type_list_append mt_append (pv 3) (pa_cons (pe_bm PySem.F.plainAttrs_list PySem.F.slot_list_pop PySem.F.type_list_pop mt_popAt (pv 2) (pa_cons (pe_call GN hr rfl N.g N.kp N.b .nil pass0 (pa_cons (pv 0) (pa_cons (pe_callB call_len_seq (by rfl) T.len PySem.boot_len (pa_cons (pv 2) pa_nil)) pa_nil))) pa_nil)) pa_nil)))))
      (pss_one (ps_ret (pv 3)))), ?_⟩
    obtain ⟨ns0, k0, l0, hm0, hS0, _⟩ := M.ex
    refine ⟨fun σ H2 => ∃ (b c : Addr) (left done : List Nat) (n' : Nat), σ = [some (.ref p), some (.ref l), some (.ref b), some (.ref c)] ∧ H b = none ∧ H c = none ∧ b ≠ c ∧ H2 b = some (.lst (nats left)) ∧ H2 c = some (.lst (nats done)) ∧ (left ++ done).Perm ns ∧ MT K H2 p a n' ∧ n' + left.length = n + ns.length ∧ Ext p H H2, ?_, ?_⟩
    · refine ⟨_, rfl, l, _, rfl, .inl hl, fun b hb => ⟨Nat.zero_le _, fun c hc => ⟨_, _, rfl, ?_⟩⟩⟩
      have s1 := Same.new (o := .lst (nats ns)) hb
      have s2 := Same.new (o := .lst []) hc
      have hbc : b ≠ c := ne_of_none upd_same hc
      exact ⟨b, c, ns, [], n, rfl, hb, s1.free hc, hbc, s2 _ _ upd_same, upd_same, by rw [List.append_nil], M.keep (s1.trans s2), rfl, Ext.same (s1.trans s2)⟩
    · rintro σ0 H0 ⟨b, c, left0, done0, n0, rfl, hb, hc, hbc, hb0, hc0, hp0, M0, hn0, e0⟩
      unfold tSeq
      refine while_by (fun σ H2 => ∃ (left done : List Nat) (n' : Nat), σ = [some (.ref p), some (.ref l), some (.ref b), some (.ref c)] ∧ H2 b = some (.lst (nats left)) ∧ H2 c = some (.lst (nats done)) ∧ (left ++ done).Perm ns ∧ MT K H2 p a n' ∧ n' + left.length = n + ns.length ∧ Ext p H H2)
        (fun σ H2 => match H2 b with
          | some (.lst xs) => xs.length
          | _ => 0) ⟨left0, done0, n0, rfl, hb0, hc0, hp0, M0, hn0, e0⟩ ?_ ?_
      · rintro σ H2 ⟨left, done, n', rfl, hb2, hc2, hp2, M2, hn2, e2⟩
        refine ⟨_, rfl, Nat.zero_le _, fun z hz => ?_⟩
        have sz := Same.new (o := .lst []) hz
        have hb3 := sz _ _ hb2
        have hc3 := sz _ _ hc2
        have M3 := M2.keep sz
        have e3 := e2.trans (Ext.same sz)
        have ll : (left ++ done).length = ns.length := hp2.length_eq
        rw [List.length_append] at ll
        refine ⟨.list ((left.map fun x => ((x : Nat) : Int)).map PyData.int), .list [], (by
          refine .lst (SqL.of hb3) ?_
          rw [nats_ints]
          exact dp_ints _), .lst (SqL.of upd_same) .nil, ints_shaped _, rfl, _, rfl, ?_⟩
        rw [nats_ne]
        generalize hH3 : upd H2 z (.lst []) = H3 at hb3 hc3 M3 e3
        have mu : (match H2 b with
          | some (.lst xs) => xs.length
          | _ => 0) = left.length := by
          rw [hb2]
          exact List.length_map _
        cases left with
        | nil =>
          refine iteF ⟨_, rfl, k _ c done (M3.lt (by
            have : n' + ([] : List Nat).length = n + ns.length := hn2
            rw [List.length_nil] at this
            omega) (by omega)) e3 hc hc3 hp2⟩
        | cons x0 r0 =>
          have nlen : (nats (x0 :: r0)).length = (x0 :: r0).length := List.length_map _
          have hpos : 0 < (x0 :: r0).length := Nat.succ_pos _
          have nn : n' + (x0 :: r0).length = n + ns.length := hn2
          refine iteT ⟨_, rfl, .inl ⟨rfl, _, SqL.of hc3⟩, _, rfl, .inl ⟨rfl, _, SqL.of hb3⟩, _, rfl, _, rfl, b, _, rfl, .inl (SqL.of hb3), p, a, n', _, rfl, M3, by omega, by omega, by omega, fun H4 r M4 e4 q0 q1 => ?_⟩
          obtain ⟨j, rfl⟩ : ∃ j : Nat, r = (j : Nat) := ⟨r.toNat, by omega⟩
          rw [nlen] at q1
          have hj : j < (x0 :: r0).length := by omega
          have nb := M3.dict.neL hb3
          have nc := M3.dict.neL hc3
          have hb4 := e4 _ _ nb hb3
          have hc4 := e4 _ _ nc hc3
          obtain ⟨x, hx⟩ : ∃ x, (x0 :: r0)[j]? = some x := ⟨_, List.getElem?_eq_getElem hj⟩
          have hj' : seqIndex? ((j : Nat) : Int) (nats (x0 :: r0)).length = some j := seq_ix (by rw [nlen]; exact hj)
          refine ⟨b, _, _, j, _, rfl, rfl, hb4, by omega, by omega, hj', nats_at hx, ?_⟩
          rw [nats_erase]
          have M5 : MT K (upd H4 b (.lst (nats ((x0 :: r0).eraseIdx j)))) p a (n' + 1) := MT.wrN M hb (e3.trans e4) M4 hb4
          have hc5 : (upd H4 b (.lst (nats ((x0 :: r0).eraseIdx j)))) c = some (.lst (nats done)) := (upd_ne (Ne.symm hbc)).trans hc4
          have e5 : Ext p H (upd H4 b (.lst (nats ((x0 :: r0).eraseIdx j)))) := (e3.trans e4).wr hb
          have hb5 : (upd H4 b (.lst (nats ((x0 :: r0).eraseIdx j)))) b = some (.lst (nats ((x0 :: r0).eraseIdx j))) := upd_same
          generalize upd H4 b (.lst (nats ((x0 :: r0).eraseIdx j))) = H5 at M5 hc5 e5 hb5
          refine ⟨c, _, _, rfl, rfl, hc5, small1000 (by rw [List.length_map]; omega), ?_⟩
          have hper := erase_perm hx
          have hle : ((x0 :: r0).eraseIdx j).length + 1 = (x0 :: r0).length := by
            have : (x0 :: r0).length = ((x0 :: r0).eraseIdx j).length + 1 := hper.length_eq
            omega
          refine ⟨⟨(x0 :: r0).eraseIdx j, done ++ [x], n' + 1, rfl, (upd_ne hbc).trans hb5, ?_, ?_, MT.wrN M hc e5 M5 hc5, by omega, e5.wr hc⟩, ?_⟩
          · rw [upd_same, nats_app]
            rfl
          · refine List.Perm.trans ?_ hp2
            refine List.Perm.trans ?_ (List.Perm.append_right _ hper.symm)
            show ((x0 :: r0).eraseIdx j ++ (done ++ [x])).Perm (x :: ((x0 :: r0).eraseIdx j ++ done))
            rw [← List.append_assoc]
            exact List.perm_append_comm
          · rw [mu]
            show (match (upd H5 c (.lst (nats done ++ [V.int (x : Nat)]))) b with
              | some (.lst xs) => xs.length
              | _ => 0) < _
            rw [upd_ne hbc, hb5]
            show (nats ((x0 :: r0).eraseIdx j)).length < _
            rw [List.length_map]
            omega
      · intro σ H1 Q1 Q2 hq h
        obtain ⟨v, e1, e2, h⟩ := h
        refine ⟨v, e1, e2, fun z hz => ?_⟩
        obtain ⟨d, e, h1, h2, h3, h4, kk, h5, q⟩ := h z hz
        exact ⟨d, e, h1, h2, h3, h4, kk, h5, hq _ _ q⟩
end
end One
end P_N3

section P_M18
set_option linter.all false
/-! Growing by lines taken out by their places. -/
namespace One
theorem Grown.perm {n : Nat} {ps qs : List (Nat × Nat)} (g : Grown n ps) (h : ps.Perm qs) : Grown n qs := ⟨g.pos, g.lines.perm h, g.whole.perm h⟩
theorem Grown.flip {n x y : Nat} {ps : List (Nat × Nat)} (g : Grown n (ps ++ [(x, y)])) : Grown n (ps ++ [(y, x)]) := by
  have he : (ends (ps ++ [(x, y)])).Perm (ends (ps ++ [(y, x)])) := by
    rw [ends_append, ends_append]
    exact List.Perm.append_left _ (.swap ..)
  refine ⟨g.pos, ⟨?_, he.nodup_iff.mp g.lines.nd, fun e h => g.lines.lt e (he.mem_iff.mpr h)⟩, fun P hP h0 c hc => g.whole P (fun p hp => ?_) h0 c hc⟩
  · have := g.lines.len
    rw [List.length_append] at this ⊢
    exact this
  · rcases List.mem_append.mp hp with hp | hp
    · exact hP p (List.mem_append.mpr (.inl hp))
    · rw [List.mem_singleton.mp hp]
      exact (hP (y, x) (List.mem_append.mpr (.inr (List.mem_singleton.mpr rfl)))).symm
theorem keep_from {α : Type} (p : Nat → Bool) (k : Nat) (l : List α) (h : ∀ m, k ≤ m → p m = true) : keepIx p k l = l := by
  rw [keepIx_congr (q := fun _ => true) k l h, keepIx_all]
theorem Grown.one {n : Nat} {ps rest : List (Nat × Nat)} {a : Nat × Nat} (g : Grown n ps) (h : ps.Perm (a :: rest)) : Grown (n + 1) (rest ++ [(a.1, 4 * n), (4 * n + 1, 4 * n + 2), (4 * n + 3, a.2)]) := by
  have g1 := (g.perm h).put (i := 0) (j := 0) (a := a) (b := a) rfl rfl
  have e : putOn n (a :: rest) 0 0 a a = rest ++ [(a.1, 4 * n), (4 * n + 1, 4 * n + 2)] ++ [(a.2, 4 * n + 3)] := by
    unfold putOn fresh
    rw [if_pos rfl, List.append_assoc]
    show keepIx (notIJ 0 0) 1 rest ++ _ = _
    rw [keep_from _ _ _ fun m hm => by
      unfold notIJ
      have : ¬ m = 0 := by omega
      simp [this]]
    rfl
  rw [e] at g1
  have := g1.flip
  rw [List.append_assoc] at this
  exact this
theorem Grown.two {n : Nat} {ps rest : List (Nat × Nat)} {a b : Nat × Nat} (g : Grown n ps) (h : ps.Perm (a :: b :: rest)) : Grown (n + 1) (rest ++ [(a.1, 4 * n), (a.2, 4 * n + 2), (b.1, 4 * n + 1), (b.2, 4 * n + 3)]) := by
  have g1 := (g.perm h).put (i := 0) (j := 1) (a := a) (b := b) rfl rfl
  have e : putOn n (a :: b :: rest) 0 1 a b = rest ++ [(a.1, 4 * n), (a.2, 4 * n + 2), (b.1, 4 * n + 1), (b.2, 4 * n + 3)] := by
    unfold putOn fresh
    rw [if_neg (by decide)]
    show keepIx (notIJ 0 1) 2 rest ++ _ = _
    rw [keep_from _ _ _ fun m hm => by
      unfold notIJ
      have h0 : ¬ m = 0 := by omega
      have h1 : ¬ m = 1 := by omega
      simp [h0, h1]]
  rw [e] at g1
  exact g1
theorem erase_permG {α : Type} : ∀ {l : List α} {k : Nat} {x : α}, l[k]? = some x → l.Perm (x :: l.eraseIdx k)
  | [], k, x, h => by simp at h
  | y :: r, 0, x, h => by
    have e : y = x := Option.some.inj h
    subst e
    exact .refl _
  | y :: r, k + 1, x, h => (List.Perm.cons y (erase_permG (l := r) (k := k) (by simpa using h))).trans (.swap _ _ _)
end One
end P_M18

section P_N4
set_option linter.all false
set_option maxRecDepth 100000
set_option maxHeartbeats 8000000
namespace One
open PySem PySem.Spec PyProof.Rows L2
theorem PL.erase {H : Hp} {as : List Addr} {ps : List (Nat × Nat)} (h : PL H as ps) : ∀ k, PL H (as.eraseIdx k) (ps.eraseIdx k) := by
  induction h with
  | nil => intro k; exact .nil
  | cons h1 h2 ih =>
    intro k
    cases k with
    | zero => exact h2
    | succ k => exact .cons h1 (ih k)
theorem refs_erase : ∀ (as : List Addr) (k : Nat), (refs as).eraseIdx k = refs (as.eraseIdx k)
  | [], _ => rfl
  | x :: r, 0 => rfl
  | x :: r, k + 1 => by
    show V.ref x :: (refs r).eraseIdx k = V.ref x :: refs (r.eraseIdx k)
    rw [refs_erase r k]
abbrev sYard : Stmt := top 53
abbrev nYard : List Str := ["m", "most", "lines", "crossing", "begin", "end", "first", "way", "start", "stop", "names", "place", "one", "other"]
theorem scYard : FnScope nYard ["m", "most"] (defScope sYard) := ⟨rfl, rfl, rfl, by decide +kernel, rfl, by decide +kernel, by decide +kernel⟩
def spYard (K : PySem.W.Frag) : Sp := fun vs H Q _ => ∃ (p a : Addr) (n most : Nat), vs = [.ref p, .int (most : Nat)] ∧ MT K H p a n ∧ n ≤ 900000 ∧ 0 < most ∧ most ≤ 40 ∧
  ∀ (H' : Hp) (t : Addr) (k : Nat) (ps : List (Nat × Nat)), MT K H' p a (n + 2 + 8 * most) → Ext p H H' → YAt H' t k ps → k ≤ most → Q (.ref t) H'
section
variable {P : Program} {w : World} {K : PySem.W.Frag} {mg : Str → Option Value} {base : Heap}
theorem ok_yard {f fN fU : Addr} {fd fdN fdU : FuncData} (F : Fun K "_law_yard" "_law_yard" sYard f fd) (T : TB mg) (N : Cal K mg "_law_next" fN fdN ["m", "total"]) (GN : FnOk P w K mg base CX0 1 fN fdN ["m", "total"] (spNext K))
    (U : Cal K mg "_law_turned_about" fU fdU ["m", "some"]) (GU : FnOk P w K mg base CX0 2 fU fdU ["m", "some"] (spTurned K)) : FnOk P w K mg base CX0 3 f fd ["m", "most"] (spYard K) := by
  refine F.ok scYard (fun vs H Q E h => ?_) (fun cdv A outer s H vs Q E hr h => ?_)
  · obtain ⟨p, a, n, most, rfl, _⟩ := h
    rfl
  · obtain ⟨p, a, n, most, rfl, M, hn, h0, h40, k⟩ := h
    have nd := scYard.nd
    have hr1 : Room 1 _ := hr.mono (by decide)
    refine ⟨_, pss_cons (ps_set (i := 2) nd rfl (Or.inl rfl) (pe_mid (pe_ix ix_list (pe_lst (pa_cons (pe_lst (pa_cons (pe_tup (pa_cons pe_int (pa_cons pe_int pa_nil))) (pa_cons (pe_tup (pa_cons pe_int (pa_cons pe_int pa_nil))) pa_nil))) (pa_cons (pe_lst (pa_cons (pe_tup (pa_cons pe_int (pa_cons pe_int pa_nil))) (pa_cons (pe_tup (pa_cons pe_int (pa_cons pe_int pa_nil))) pa_nil))) (pa_cons (pe_lst (pa_cons (pe_tup (pa_cons pe_int (pa_cons pe_int pa_nil))) (pa_cons (pe_tup (pa_cons pe_int (pa_cons pe_int pa_nil))) pa_nil))) pa_nil)))) (pe_call GN hr1 rfl N.g N.kp N.b .nil pass0 (pa_cons (pv 0) (pa_cons pe_int pa_nil))) (fun _ _ => rfl))))
      (pss_cons (ps_for PassesOwn.never rfl (pi_range2 (by rfl) T.range (pa_cons pe_int (pa_cons (pe_op op_add pe_int (pe_call GN hr1 rfl N.g N.kp N.b .nil pass0 (pa_cons (pv 0) (pa_cons (pv 1) pa_nil)))) pa_nil))) (pg_name (i := 3) nd rfl (Or.inr rfl)) (pss_cons (ps_asg (pe_tup (pa_cons (pe_bm PySem.F.plainAttrs_list PySem.F.slot_list_pop PySem.F.type_list_pop mt_popAt (pv 2) (pa_cons (pe_call GN hr1 rfl N.g N.kp N.b .nil pass0 (pa_cons (pv 0) (pa_cons (pe_callB call_len_seq (by rfl) T.len PySem.boot_len (pa_cons (pv 2) pa_nil)) pa_nil))) pa_nil)) (pa_cons (pe_op op_mul pe_int (pv 3)) pa_nil))) (pg_tup rfl (pgs_cons (pg_tup rfl (pgs_cons (pg_name (i := 4) nd rfl (Or.inl rfl)) (pgs_cons (pg_name (i := 5) nd rfl (Or.inl rfl)) pgs_nil))) (pgs_cons (pg_name (i := 6) nd rfl (Or.inl rfl)) pgs_nil))))
      (pss_cons (ps_set (i := 7) nd rfl (Or.inl rfl) (pe_call GN hr1 rfl N.g N.kp N.b .nil pass0 (pa_cons (pv 0) (pa_cons pe_int pa_nil))))
      (pss_one (ps_if (pt_cmpR op_eq (pv 7) pe_int (nomark _)) (pss_one (ps_set (i := 2) nd rfl (Or.inl rfl) (pe_op op_catS (pv 2) (pe_lst (pa_cons (pe_tup (pa_cons (pv 4) (pa_cons (pv 6) pa_nil))) (pa_cons (pe_tup (pa_cons (pe_op op_add (pv 6) pe_int) (pa_cons (pe_op op_add (pv 6) pe_int) pa_nil))) (pa_cons (pe_tup (pa_cons (pe_op op_add (pv 6) pe_int) (pa_cons (pv 5) pa_nil))) pa_nil))))))) (pss_cons (ps_asg (pe_bm PySem.F.plainAttrs_list PySem.F.slot_list_pop PySem.F.type_list_pop mt_popAt (pv 2) (pa_cons (pe_call GN hr1 rfl N.g N.kp N.b .nil pass0 (pa_cons (pv 0) (pa_cons (pe_callB call_len_seq (by rfl) T.len PySem.boot_len (pa_cons (pv 2) pa_nil)) pa_nil))) pa_nil)) (pg_tup rfl (pgs_cons (pg_name (i := 8) nd rfl (Or.inl rfl)) (pgs_cons (pg_name (i := 9) nd rfl (Or.inl rfl)) pgs_nil))))
      (pss_one (ps_set (i := 2) nd rfl (Or.inl rfl) (pe_op op_catS (pv 2) (pe_lst (pa_cons (pe_tup (pa_cons (pv 4) (pa_cons (pv 6) pa_nil))) (pa_cons (pe_tup (pa_cons (pv 5) (pa_cons (pe_op op_add (pv 6) pe_int) pa_nil))) (pa_cons (pe_tup (pa_cons (pv 8) (pa_cons (pe_op op_add (pv 6) pe_int) pa_nil))) (pa_cons (pe_tup (pa_cons (pv 9) (pa_cons (pe_op op_add (pv 6) pe_int) pa_nil))) pa_nil))))))))))))))
      (pss_cons (ps_set (i := 10) nd rfl (Or.inr rfl) (pe_lst pa_nil))
      (pss_cons (ps_for PassesOwn.never rfl (pi_list (pe_call GU hr rfl U.g U.kp U.b .nil pass0 (pa_cons (pv 0) (pa_cons (pe_listRg (by rfl) (by rfl) T.list (prg_1 (by rfl) T.range (pe_op op_fdiv (pe_callB call_len_seq (by rfl) T.len PySem.boot_len (pa_cons (pv 2) pa_nil)) pe_int))) pa_nil)))) (pg_name (i := 3) nd rfl (Or.inr rfl)) (pss_one (ps_set (i := 10) nd rfl (Or.inr rfl) (pe_op op_catS (pv 10) (pe_lc (own := [("place", 11)]) (g := gName 11) (tt := tYes) (te := tOp (rI0 fun i j => .int (i + j)) (tOp (rI CMul fun i j => .int (i * j)) (tC (.int 4)) (tVar 3)) (tVar 11)) rfl nd (pi_list (pe_call GU hr rfl U.g U.kp U.b .nil pass0 (pa_cons (pv 0) (pa_cons (pe_lst (pa_cons pe_int (pa_cons pe_int (pa_cons pe_int (pa_cons pe_int pa_nil))))) pa_nil)))) (blkOk_by (N := nYard) (sc := defScope sYard) (by decide +kernel)) (fun _ _ _ _ _ => pg_name (i := 11) nd rfl (Or.inl rfl)) (fun _ _ _ _ _ => pts_nil) (fun _ _ _ _ _ => pe_op op_add (pe_op op_mul pe_int (pv 3)) (pv 11)))))))
      (pss_one (ps_ret (pe_tupleOf (by rfl) T.tuple (pe_callB cr_sortedPO (by rfl) T.sorted boot_sorted (pa_cons (pe_lc (own := [("one", 12), ("other", 13)]) (g := gTup K 2 (gCons (gName 12) (gCons (gName 13) gNil))) (tt := tYes)
            (te := tThen (tCB (rSorted K) (tCons (tLst (tCons (tOp (rIxL K) (tVar 10) (tVar 12)) (tCons (tOp (rIxL K) (tVar 10) (tVar 13)) tNil))) tNil)) (kTup K)) rfl nd (pi_list (pv 2)) (blkOk_by (N := nYard) (sc := defScope sYard) (by decide +kernel))
            (fun _ _ _ _ _ => pg_tup rfl (pgs_cons (pg_name (i := 12) nd rfl (Or.inl rfl)) (pgs_cons (pg_name (i := 13) nd rfl (Or.inl rfl)) pgs_nil))) (fun _ _ _ _ _ => pts_nil)
            (fun _ _ _ _ _ => pe_tupleOf (by rfl) T.tuple (pe_callB cr_sorted (by rfl) T.sorted boot_sorted (pa_cons (pe_lst (pa_cons (pe_ix ix_list (pv 10) (pv 12) (fun _ _ => rfl)) (pa_cons (pe_ix ix_list (pv 10) (pv 13) (fun _ _ => rfl)) pa_nil))) pa_nil)))) pa_nil)))))))), ?_⟩
    refine ⟨fun v H1 => ∃ (L : Addr) (as : List Addr) (ps : List (Nat × Nat)), v = .ref L ∧ MT K H1 p a (n + 1) ∧ Ext p H H1 ∧ H L = none ∧ H1 L = some (.lst (refs as)) ∧ PL H1 as ps ∧ Grown 1 ps, ?_, ?_⟩
    · refine ⟨two_le, fun t1 ht1 => ⟨two_le, fun u1 hu1 => ⟨two_le, fun l1 hl1 => ?_⟩⟩⟩
      obtain ⟨H1, eH1, s1, a1, b1, c1⟩ := made_two ht1 hu1 hl1
      have f1 : H l1 = none := ((Same.new ht1).trans (Same.new hu1)).free hl1
      rw [← eH1]
      refine ⟨two_le, fun t2 ht2 => ⟨two_le, fun u2 hu2 => ⟨two_le, fun l2 hl2 => ?_⟩⟩⟩
      obtain ⟨H2, eH2, s2, a2, b2, c2⟩ := made_two ht2 hu2 hl2
      have f2 : H l2 = none := s1.free (((Same.new ht2).trans (Same.new hu2)).free hl2)
      rw [← eH2]
      refine ⟨two_le, fun t3 ht3 => ⟨two_le, fun u3 hu3 => ⟨two_le, fun l3 hl3 => ?_⟩⟩⟩
      obtain ⟨H3, eH3, s3, a3, b3, c3⟩ := made_two ht3 hu3 hl3
      have f3 : H l3 = none := (s1.trans s2).free (((Same.new ht3).trans (Same.new hu3)).free hl3)
      rw [← eH3]
      refine ⟨by show 3 ≤ sizeLine; decide, fun l hl => ?_⟩
      have s4 := Same.new (o := .lst [.ref l1, .ref l2, .ref l3]) hl
      have sA := s1.trans (s2.trans (s3.trans s4))
      have M4 := M.keep sA
      refine ⟨_, rfl, p, a, n, 3, rfl, M4, by omega, by decide, by decide, fun H' r M' e r0 r3 => ?_⟩
      have e' : Ext p H H' := (Ext.same sA).trans e
      have keepT : ∀ b xs, H3 b = some (.tup xs) → H' b = some (.tup xs) := fun b xs h => tupD M4.dict e b xs (s4 _ _ h)
      have keepL : ∀ b xs, H3 b = some (.lst xs) → H' b = some (.lst xs) := fun b xs h => e b _ (M4.dict.neL (s4 _ _ h)) (s4 _ _ h)
      have hL' : H' l = some (.lst [.ref l1, .ref l2, .ref l3]) := e l _ (M4.dict.neL upd_same) upd_same
      have r012 : r = 0 ∨ r = 1 ∨ r = 2 := by omega
      rcases r012 with rfl | rfl | rfl
      · exact ⟨l, _, _, _, rfl, rfl, SqL.of hL', rfl, l1, [t1, u1], [(0, 1), (2, 3)], rfl, M', e', f1, keepL _ _ (s3 _ _ (s2 _ _ a1)), .cons (keepT _ _ (s3 _ _ (s2 _ _ b1))) (.cons (keepT _ _ (s3 _ _ (s2 _ _ c1))) .nil), grown_one (by decide)⟩
      · exact ⟨l, _, _, _, rfl, rfl, SqL.of hL', rfl, l2, [t2, u2], [(0, 2), (1, 3)], rfl, M', e', f2, keepL _ _ (s3 _ _ a2), .cons (keepT _ _ (s3 _ _ b2)) (.cons (keepT _ _ (s3 _ _ c2)) .nil), grown_one (by decide)⟩
      · exact ⟨l, _, _, _, rfl, rfl, SqL.of hL', rfl, l3, [t3, u3], [(0, 3), (1, 2)], rfl, M', e', f3, keepL _ _ a3, .cons (keepT _ _ b3) (.cons (keepT _ _ c3) .nil), grown_one (by decide)⟩
    rintro v H1 ⟨L0, as0, ps0, rfl, M1, e1, hL00, hL0, hP0, G0⟩
    refine ⟨_, rfl, _, rfl, p, a, n + 1, (most : Nat), rfl, M1, by omega, by omega, by omega, fun H2 r M2 e2 r0 r1 => ⟨_, _, rfl, rfl, 1, _, rfl, ⟨by decide, by decide, by omega, by omega⟩, ?_⟩⟩
    obtain ⟨q, rfl⟩ : ∃ q : Nat, r = (q : Nat) := ⟨r.toNat, by omega⟩
    have eq0 : ((1 + ((q : Nat) : Int)) - 1).toNat = q := by omega
    refine for_range (lo := 1) (n := ((1 + ((q : Nat) : Int)) - 1).toNat) (fun i σ H' => ∃ (L : Addr) (as : List Addr) (ps : List (Nat × Nat)) (v3 v4 v5 v6 v7 v8 v9 : Option V), σ = [some (.ref p), some (.int (most : Nat)), some (.ref L), v3, v4, v5, v6, v7, v8, v9, none, none, none, none] ∧
      MT K H' p a (n + 2 + 3 * i) ∧ Ext p H H' ∧ H L = none ∧ H' L = some (.lst (refs as)) ∧ PL H' as ps ∧ Grown (1 + i) ps)
      ⟨L0, as0, ps0, none, none, none, none, none, none, none, rfl, M2, e1.trans e2, hL00, e2 _ _ (M1.dict.neL hL0) hL0, hP0.mono (tupD M1.dict e2), G0⟩ ?_ ?_
    · rintro i σ H' hi ⟨L, as, ps, v3, v4, v5, v6, v7, v8, v9, rfl, M', e', hL00, hL', hP', G'⟩
      have hi : i < q := by omega
      have hlen : as.length = 2 * (1 + i) := by rw [hP'.len, G'.lines.len]
      have hrl : ((refs as).length : Nat) = 2 * (1 + i) := by rw [List.length_map, hlen]
      have nLp := M'.dict.neL hL'
      refine ⟨_, rfl, .inl ⟨rfl, _, SqL.of hL'⟩, _, rfl, _, rfl, L, _, rfl, .inl (SqL.of hL'), p, a, _, _, rfl, M', by omega, by omega, by omega, fun H3 r1 M3 e3 r10 r11 => ?_⟩
      obtain ⟨j1, rfl⟩ : ∃ j : Nat, r1 = (j : Nat) := ⟨r1.toNat, by omega⟩
      have h1 : j1 < as.length := by omega
      have hL3 := e3 _ _ nLp hL'
      have hP3 := hP'.mono (tupD M'.dict e3)
      obtain ⟨A1, hA1⟩ : ∃ A, ps[j1]? = some A := ⟨_, List.getElem?_eq_getElem (by rw [← hP'.len]; exact h1)⟩
      obtain ⟨x1, hx1, px1⟩ := hP3.get hA1
      refine ⟨L, _, _, j1, _, rfl, rfl, hL3, by omega, by omega, seq_ix (by omega), (by rw [List.getElem?_map, hx1]; rfl), ?_⟩
      rw [refs_erase]
      have e03 := e'.trans e3
      have M4 : MT K (upd H3 L (.lst (refs (as.eraseIdx j1)))) p a (n + 2 + 3 * i + 1) := MT.wrN M hL00 e03 M3 hL3
      have e04 : Ext p H (upd H3 L (.lst (refs (as.eraseIdx j1)))) := e03.wr hL00
      have t34 : ∀ b xs, H3 b = some (.tup xs) → (upd H3 L (.lst (refs (as.eraseIdx j1)))) b = some (.tup xs) := fun b xs h => (upd_ne (ne_of h hL3 (by intro z; cases z))).trans h
      have hP4 := (hP3.erase j1).mono t34
      have px4 := t34 _ _ px1
      have hL4 : (upd H3 L (.lst (refs (as.eraseIdx j1)))) L = some (.lst (refs (as.eraseIdx j1))) := upd_same
      generalize upd H3 L (.lst (refs (as.eraseIdx j1))) = H4 at M4 e04 hP4 px4 hL4
      refine ⟨_, rfl, _, _, rfl, rfl, .inl ⟨by decide, by decide⟩, two_le, fun t ht => ?_⟩
      have s5 := Same.new (o := .tup [V.ref x1, V.int (4 * (1 + (i : Nat)))]) ht
      refine ⟨t, _, rfl, SqT.of upd_same, rfl, _, _, rfl, x1, _, rfl, SqT.of (s5 _ _ px4), rfl, _, _, rfl, _, _, rfl, rfl, _, _, rfl, rfl, ?_⟩
      have M5 := M4.keep s5
      have hL5 := s5 _ _ hL4
      have hP5 := hP4.mono (sameT s5)
      refine ⟨_, rfl, p, a, _, 5, rfl, M5, by omega, by decide, by decide, fun H6 wv M6 e6 w0 w1 => ?_⟩
      have hL6 := e6 _ _ (M5.dict.neL hL5) hL5
      have hP6 := hP5.mono (tupD M5.dict e6)
      have e06 := e04.trans ((Ext.same s5).trans e6)
      have g1 := erase_permG hA1
      have lps : (ps.eraseIdx j1).length + 1 = 2 * (1 + i) := by
        have := g1.length_eq
        rw [List.length_cons, G'.lines.len] at this
        omega
      have las : (as.eraseIdx j1).length + 1 = 2 * (1 + i) := by rw [hP4.len]; exact lps
      refine ⟨_, rfl, rfl, _, rfl, ite2 (fun _ => ?_) (fun _ => ?_)⟩
      · refine ⟨_, rfl, _, rfl, _, rfl, two_le, fun t1 ht1 => ⟨_, rfl, _, _, rfl, rfl, _, rfl, _, _, rfl, rfl, two_le, fun t2 ht2 => ⟨_, rfl, _, _, rfl, rfl, _, rfl, two_le, fun t3 ht3 => ⟨(by show 3 ≤ sizeLine; decide), fun l9 hl9 => ?_⟩⟩⟩⟩
        have u1 := Same.new (o := .tup [V.int (A1.1 : Nat), V.int (4 * (1 + (i : Nat)))]) ht1
        have u2 := Same.new (o := .tup [V.int (4 * (1 + (i : Nat)) + 1), V.int (4 * (1 + (i : Nat)) + 2)]) ht2
        have u3 := Same.new (o := .tup [V.int (4 * (1 + (i : Nat)) + 3), V.int (A1.2 : Nat)]) ht3
        have u9 := Same.new (o := .lst [V.ref t1, V.ref t2, V.ref t3]) hl9
        have uA := u1.trans (u2.trans (u3.trans u9))
        refine ⟨L, l9, _, _, rfl, rfl, SqL.of (uA _ _ hL6), upd_same, Nat.le_of_lt (small1000 (by rw [List.length_map]; show _ + 3 ≤ 1000; omega)), fun L2 hL2 => ?_⟩
        have s9 := Same.new (o := .lst (refs (as.eraseIdx j1) ++ [V.ref t1, V.ref t2, V.ref t3])) hL2
        have sB := uA.trans s9
        have nL2 : L2 ≠ p := by
          obtain ⟨kvs, hk⟩ := (M6.keep uA).dict
          exact (ne_of_none hk hL2).symm
        refine ⟨L2, as.eraseIdx j1 ++ [t1, t2, t3], ps.eraseIdx j1 ++ [(A1.1, 4 * (1 + i)), (4 * (1 + i) + 1, 4 * (1 + i) + 2), (4 * (1 + i) + 3, A1.2)], _, _, _, _, _, _, _, rfl, (M6.keep sB).lt (by omega) (by omega), e06.trans (Ext.same sB), (e06.trans (Ext.same uA)).free nL2 hL2, ?_, ((hP6.mono (sameT sB)).app ?_), ?_⟩
        · rw [upd_same, refs_app]
          rfl
        · exact .cons (PAt.of (s9 _ _ (u9 _ _ (u3 _ _ (u2 _ _ upd_same)))) rfl (by omega)) (.cons (PAt.of (s9 _ _ (u9 _ _ (u3 _ _ upd_same))) (by omega) (by omega)) (.cons (PAt.of (s9 _ _ (u9 _ _ upd_same)) (by omega) rfl) .nil))
        · rw [show 1 + (i + 1) = (1 + i) + 1 by omega]
          exact G'.one g1
      · have hl1 : ((refs (as.eraseIdx j1)).length : Nat) = (as.eraseIdx j1).length := List.length_map _
        refine ⟨_, rfl, .inl ⟨rfl, _, SqL.of hL6⟩, _, rfl, _, rfl, L, _, rfl, .inl (SqL.of hL6), p, a, _, _, rfl, M6, by omega, by omega, by omega, fun H7 r2 M7 e7 r20 r21 => ?_⟩
        obtain ⟨j2, rfl⟩ : ∃ j : Nat, r2 = (j : Nat) := ⟨r2.toNat, by omega⟩
        have h2 : j2 < (as.eraseIdx j1).length := by omega
        have hL7 := e7 _ _ (M6.dict.neL hL6) hL6
        have hP7 := hP6.mono (tupD M6.dict e7)
        obtain ⟨A2, hA2⟩ : ∃ A, (ps.eraseIdx j1)[j2]? = some A := ⟨_, List.getElem?_eq_getElem (by rw [← hP7.len]; exact h2)⟩
        obtain ⟨x2, hx2, px2⟩ := hP7.get hA2
        refine ⟨L, _, _, j2, _, rfl, rfl, hL7, by omega, by omega, seq_ix (by omega), (by rw [List.getElem?_map, hx2]; rfl), ?_⟩
        rw [refs_erase]
        have e07 := e06.trans e7
        have M8 : MT K (upd H7 L (.lst (refs ((as.eraseIdx j1).eraseIdx j2)))) p a (n + 2 + 3 * i + 1 + 1 + 1) := MT.wrN M hL00 e07 M7 hL7
        have e08 : Ext p H (upd H7 L (.lst (refs ((as.eraseIdx j1).eraseIdx j2)))) := e07.wr hL00
        have t78 : ∀ b xs, H7 b = some (.tup xs) → (upd H7 L (.lst (refs ((as.eraseIdx j1).eraseIdx j2)))) b = some (.tup xs) := fun b xs h => (upd_ne (ne_of h hL7 (by intro z; cases z))).trans h
        have hP8 := (hP7.erase j2).mono t78
        have px8 := t78 _ _ px2
        have hL8 : (upd H7 L (.lst (refs ((as.eraseIdx j1).eraseIdx j2)))) L = some (.lst (refs ((as.eraseIdx j1).eraseIdx j2))) := upd_same
        generalize upd H7 L (.lst (refs ((as.eraseIdx j1).eraseIdx j2))) = H8 at M8 e08 hP8 px8 hL8
        refine ⟨x2, _, rfl, SqT.of px8, rfl, _, _, rfl, _, _, rfl, rfl, ?_⟩
        have g2 := erase_permG hA2
        have lps2 : ((ps.eraseIdx j1).eraseIdx j2).length + 2 = 2 * (1 + i) := by
          have := g2.length_eq
          rw [List.length_cons] at this
          omega
        have las2 : ((as.eraseIdx j1).eraseIdx j2).length + 2 = 2 * (1 + i) := by rw [hP8.len]; exact lps2
        refine ⟨_, rfl, _, rfl, _, rfl, two_le, fun t1 ht1 => ⟨_, rfl, _, rfl, _, _, rfl, rfl, two_le, fun t2 ht2 => ⟨_, rfl, _, rfl, _, _, rfl, rfl, two_le, fun t3 ht3 => ⟨_, rfl, _, rfl, _, _, rfl, rfl, two_le, fun t4 ht4 => ⟨(by show 4 ≤ sizeLine; decide), fun l9 hl9 => ?_⟩⟩⟩⟩⟩
        have u1 := Same.new (o := .tup [V.int (A1.1 : Nat), V.int (4 * (1 + (i : Nat)))]) ht1
        have u2 := Same.new (o := .tup [V.int (A1.2 : Nat), V.int (4 * (1 + (i : Nat)) + 2)]) ht2
        have u3 := Same.new (o := .tup [V.int (A2.1 : Nat), V.int (4 * (1 + (i : Nat)) + 1)]) ht3
        have u4 := Same.new (o := .tup [V.int (A2.2 : Nat), V.int (4 * (1 + (i : Nat)) + 3)]) ht4
        have u9 := Same.new (o := .lst [V.ref t1, V.ref t2, V.ref t3, V.ref t4]) hl9
        have uA := u1.trans (u2.trans (u3.trans (u4.trans u9)))
        refine ⟨L, l9, _, _, rfl, rfl, SqL.of (uA _ _ hL8), upd_same, Nat.le_of_lt (small1000 (by rw [List.length_map]; show _ + 4 ≤ 1000; omega)), fun L2 hL2 => ?_⟩
        have s9 := Same.new (o := .lst (refs ((as.eraseIdx j1).eraseIdx j2) ++ [V.ref t1, V.ref t2, V.ref t3, V.ref t4])) hL2
        have sB := uA.trans s9
        have nL2 : L2 ≠ p := by
          obtain ⟨kvs, hk⟩ := (M8.keep uA).dict
          exact (ne_of_none hk hL2).symm
        refine ⟨L2, (as.eraseIdx j1).eraseIdx j2 ++ [t1, t2, t3, t4], (ps.eraseIdx j1).eraseIdx j2 ++ [(A1.1, 4 * (1 + i)), (A1.2, 4 * (1 + i) + 2), (A2.1, 4 * (1 + i) + 1), (A2.2, 4 * (1 + i) + 3)], _, _, _, _, _, _, _, rfl, (M8.keep sB).lt (by omega) (by omega), e08.trans (Ext.same sB), (e08.trans (Ext.same uA)).free nL2 hL2, ?_, ((hP8.mono (sameT sB)).app ?_), ?_⟩
        · rw [upd_same, refs_app]
          rfl
        · exact .cons (PAt.of (s9 _ _ (u9 _ _ (u4 _ _ (u3 _ _ (u2 _ _ upd_same))))) rfl (by omega)) (.cons (PAt.of (s9 _ _ (u9 _ _ (u4 _ _ (u3 _ _ upd_same)))) rfl (by omega)) (.cons (PAt.of (s9 _ _ (u9 _ _ (u4 _ _ upd_same))) rfl (by omega)) (.cons (PAt.of (s9 _ _ (u9 _ _ upd_same)) rfl (by omega)) .nil)))
        · rw [show 1 + (i + 1) = (1 + i) + 1 by omega]
          exact G'.two (g1.trans (.cons _ g2))
    · rintro σ H' ⟨L, as, ps, v3, v4, v5, v6, v7, v8, v9, rfl, M', e', hL00, hL', hP', G⟩
      rw [eq0] at M' G
      have hlen : as.length = 2 * (1 + q) := by rw [hP'.len, G.lines.len]
      have nl : (refs as).length = as.length := List.length_map _
      have e2' : (((refs as).length : Nat) : Int) / 2 = ((1 + q : Nat) : Int) := by rw [nl, hlen]; omega
      refine ⟨Nat.zero_le _, fun F0 hF0 => ?_⟩
      have sF := Same.new (o := .lst []) hF0
      have MF := M'.keep sF
      have hLF := sF _ _ hL'
      have hPF := hP'.mono (sameT sF)
      have eF := e'.trans (Ext.same sF)
      refine ⟨_, rfl, _, rfl, L, _, rfl, .inl (SqL.of hLF), _, _, rfl, rfl, ⟨by decide, by decide⟩, ((1 + q : Nat) : Int), (by show V.int ((((refs as).length : Nat) : Int) / 2) = _; rw [e2']), RgOk.of_le (Int.le_refl _) (by omega) (by omega) (by omega), fun lf hlf => ?_⟩
      rw [nats_range]
      have sl := Same.new (o := .lst (nats (List.range (1 + q)))) hlf
      refine ⟨p, a, lf, _, List.range (1 + q), rfl, MF.keep sl, SqL.of upd_same, by rw [List.length_range]; omega, by rw [List.length_range]; omega, fun H8 b ms M8 e8 _ hb8 hp8 => ?_⟩
      rw [List.length_range] at M8
      have MFl := MF.keep sl
      have k8 := tupD MFl.dict e8
      have hL8 := e8 _ _ (MFl.dict.neL (sl _ _ hLF)) (sl _ _ hLF)
      have hP8 := (hPF.mono (sameT sl)).mono k8
      have hF8 := e8 _ _ (MFl.dict.neL (sl _ _ (upd_same : (upd H' F0 (.lst [])) F0 = _))) (sl _ _ upd_same)
      have e08 := (eF.trans (Ext.same sl)).trans e8
      have hml : ms.length = 1 + q := by rw [hp8.length_eq, List.length_range]
      refine ⟨b, rfl, ⟨_, SqL.of hb8⟩, for_list (K := K) (a := b) (xs := nats ms) (fun i σ H9 => ∃ (Fo : Addr) (bl : List (Nat × List Nat)) (w3 : Option V), σ = [some (.ref p), some (.int (most : Nat)), some (.ref L), w3, v4, v5, v6, v7, v8, v9, some (.ref Fo), none, none, none] ∧
          MT K H9 p a (n + 2 + 3 * q + (1 + q) + 4 * i) ∧ Ext p H H9 ∧ Ext p H8 H9 ∧ H9 Fo = some (.lst (nats (blocks bl))) ∧ bl.map Prod.fst = ms.take i ∧ (∀ c ∈ bl, c.2.Perm [0, 1, 2, 3]) ∧ bl.length = i)
        ⟨F0, [], v3, rfl, M8.lt (by omega) (by omega), e08, Ext.refl _ _, hF8, by simp, fun c hc => absurd hc (by simp), rfl⟩ (fun i σ H9 _ ⟨_, _, _, _, _, _, h, _⟩ => SqL.of (h _ _ (M8.dict.neL hb8) hb8)) ?_ ?_⟩
      · rintro i x σ H9 hx ⟨Fo, bl, w3, rfl, M9, e9, e89, hFo, hbf, hbp, hbl⟩
        obtain ⟨cr, hcr⟩ : ∃ cr, ms[i]? = some cr := by
          rw [List.getElem?_map] at hx
          cases e : ms[i]? with
          | none =>
            rw [e] at hx
            cases hx
          | some cr => exact ⟨cr, rfl⟩
        rw [List.getElem?_map, hcr] at hx
        cases hx
        have hi : i < 1 + q := by
          have := (List.getElem?_eq_some_iff.mp hcr).1
          omega
        refine ⟨_, rfl, _, rfl, (by show 4 ≤ sizeLine; decide), fun l4 hl4 => ?_⟩
        have s4 := Same.new (o := .lst [V.int 0, V.int 1, V.int 2, V.int 3]) hl4
        have M9s := M9.keep s4
        refine ⟨p, a, l4, _, [0, 1, 2, 3], rfl, M9s, SqL.of upd_same, by decide, by show _ + 4 ≤ _; omega, fun Ha b2 ms2 Ma ea _ hba hpa => ?_⟩
        have Ma : MT K Ha p a (n + 2 + 3 * q + (1 + q) + 4 * i + 4) := Ma
        have hFoa := ea _ _ (M9s.dict.neL (s4 _ _ hFo)) (s4 _ _ hFo)
        have hm4 : ms2.length = 4 := hpa.length_eq
        have nl2 : (nats ms2).length = ms2.length := List.length_map _
        refine ⟨b2, rfl, ⟨_, SqL.of hba⟩, fun D hD => ?_⟩
        have sD := Same.new (o := .lst []) hD
        refine lc_it (walk_list (K := K) (a := b2) (xs := nats ms2)) (fun j H6 => H6 D = some (.lst (nats ((ms2.take j).map (4 * cr + ·)))) ∧ Same Ha H6) ⟨upd_same, sD⟩ (fun j H6 _ h => SqL.of (h.2 _ _ hba)) ?_ ?_
        · rintro j x H6 H7 hj ⟨h6, s6⟩ ⟨rfl, hx⟩
          rw [nl2] at hj
          obtain ⟨y, hy⟩ : ∃ y, ms2[j]? = some y := ⟨_, List.getElem?_eq_getElem hj⟩
          rw [List.getElem?_map, hy] at hx
          cases hx
          refine ⟨rfl, yes ⟨_, rfl, _, _, rfl, rfl, .inl ⟨by decide, by decide⟩, _, rfl, _, _, rfl, rfl, _, h6, small1000 ?_, ?_, fun c o e => ?_⟩⟩
          · rw [List.length_map, List.length_map, List.length_take]
            omega
          · rw [upd_same, List.take_succ, hy, Option.toList_some, List.map_append, nats_app]
            have e : ((4 : Int) * (cr : Nat) + (y : Nat)) = ((4 * cr + y : Nat) : Int) := by omega
            show some (HO.lst (_ ++ [V.int ((4 : Int) * (cr : Nat) + (y : Nat))])) = _
            rw [e]
            rfl
          · rw [upd_ne (ne_of_none e hD)]
            exact s6 _ _ e
        · rintro H6 ⟨h6, s6⟩
          rw [nl2, List.take_length] at h6
          have hblk := blocks_len (l := bl) fun c hc => (hbp c hc).length_eq
          refine ⟨Fo, D, _, _, rfl, rfl, SqL.of (s6 _ _ hFoa), h6, Nat.le_of_lt (small1000 (by rw [List.length_map, List.length_map, List.length_map, hblk]; omega)), fun F2 hF2 => ?_⟩
          have s9 := Same.new (o := .lst (nats (blocks bl) ++ nats (ms2.map (4 * cr + ·)))) hF2
          have sA := s6.trans s9
          have eA : Ext p H9 _ := (Ext.same s4).trans (ea.trans (Ext.same sA))
          refine ⟨F2, bl ++ [(cr, ms2)], _, rfl, (Ma.keep sA).lt (by omega) (by omega), e9.trans eA, e89.trans eA, ?_, ?_, fun c hc => ?_, ?_⟩
          · rw [upd_same, blocks_snoc, nats_app]
          · rw [List.map_append, hbf, List.take_succ, hcr]
            rfl
          · rcases List.mem_append.mp hc with z | z
            · exact hbp c z
            · rw [List.mem_singleton.mp z]
              exact hpa
          · rw [List.length_append, hbl]
            rfl
      · rintro σ H9 ⟨Fo, bl, w3, rfl, M9, e9, e89, hFo, hbf, hbp, hbl⟩
        have nlm : (nats ms).length = ms.length := List.length_map _
        rw [nlm, List.take_length] at hbf
        rw [nlm, hml] at M9
        have hC : Called (1 + q) (blocks bl) := called_of_blocks (by rw [hbf]; exact hp8) hbp
        have hL9 := e89 _ _ (M8.dict.neL hL8) hL8
        have hP9 := hP8.mono (tupD M8.dict e89)
        refine ⟨_, rfl, L, rfl, ⟨_, SqL.of hL9⟩, fun D hD => ?_⟩
        have sD := Same.new (o := .lst []) hD
        have hlen9 : as.length = ps.length := hP9.len
        refine lc_it (walk_list (K := K) (a := L) (xs := refs as)) (fun i H6 => ∃ bs : List Addr, H6 D = some (.lst (refs bs)) ∧ PL H6 bs ((ps.take i).map (callL (blocks bl))) ∧ Same H9 H6) ⟨[], upd_same, .nil, sD⟩ (fun i H6 _ ⟨bs, h1, h2, h3⟩ => SqL.of (h3 _ _ hL9)) ?_ ?_
        · rintro i x H6 H7 hi ⟨bs, hD6, hB6, s6⟩ ⟨rfl, hx⟩
          have hi' : i < ps.length := by rw [← hlen9, ← nl]; exact hi
          obtain ⟨q1, hq1⟩ : ∃ q1, ps[i]? = some q1 := ⟨_, List.getElem?_eq_getElem hi'⟩
          obtain ⟨c, hc, pc⟩ := hP9.get hq1
          rw [List.getElem?_map, hc] at hx
          cases hx
          have z1 : q1.1 < 4 * (1 + q) := G.lines.lt _ (mem_ends.mpr ⟨q1, List.mem_of_getElem? hq1, .inl rfl⟩)
          have z2 : q1.2 < 4 * (1 + q) := G.lines.lt _ (mem_ends.mpr ⟨q1, List.mem_of_getElem? hq1, .inr rfl⟩)
          have get : ∀ y, y < 4 * (1 + q) → atI (nats (blocks bl)) ((y : Nat) : Int) = some (V.int ((blocks bl).getD y 0 : Nat)) := fun y hy => by
            have hy' : y < (blocks bl).length := by rw [hC.len]; exact hy
            refine at_of (j := y) rfl ?_
            rw [List.getElem?_map, List.getElem?_eq_getElem hy', List.getD_eq_getElem?_getD, List.getElem?_eq_getElem hy']
            rfl
          have hN6 := s6 _ _ hFo
          refine ⟨c, _, rfl, SqT.of (s6 _ _ pc), rfl, _, _, rfl, _, _, rfl, rfl, rfl, yes ?_⟩
          refine ⟨_, rfl, _, rfl, Fo, _, _, _, rfl, rfl, SqL.of hN6, get _ z1, _, rfl, _, rfl, Fo, _, _, _, rfl, rfl, SqL.of hN6, get _ z2, two_le, fun l hl => ?_⟩
          have s7 := Same.new (o := .lst [V.int ((blocks bl).getD q1.1 0 : Nat), V.int ((blocks bl).getD q1.2 0 : Nat)]) hl
          refine ⟨l, [(((blocks bl).getD q1.1 0 : Nat) : Int), (((blocks bl).getD q1.2 0 : Nat) : Int)], rfl, SqL.of upd_same, (by show 2 < 64; decide), fun ns' l2 hp hs hl2 => ?_⟩
          have s8 := Same.new (o := .lst (ns'.map V.int)) hl2
          have en := low_of hp hs
          subst en
          refine .inl ⟨l2, _, rfl, SqL.of upd_same, fun u hu => ?_⟩
          have s9 := Same.new (o := .tup [V.int ((callL (blocks bl) q1).1 : Nat), V.int ((callL (blocks bl) q1).2 : Nat)]) hu
          have sA := s7.trans (s8.trans s9)
          have hD9 := sA _ _ hD6
          refine ⟨refs bs, hD9, small1000 ?_, bs ++ [u], ?_, ?_, ?_⟩
          · rw [List.length_map, hB6.len, List.length_map, List.length_take]
            have := G.lines.len
            omega
          · rw [upd_same, refs_app]
            rfl
          · have hne : ∀ b xs, H7 b = some (.tup xs) → (upd _ D (HO.lst (refs bs ++ [V.ref u]))) b = some (.tup xs) := fun b xs h => (upd_ne (ne_of (sA _ _ h) hD9 (by intro z; cases z))).trans (sA _ _ h)
            have hun : u ≠ D := ne_of (upd_same : (upd _ u _) u = _) hD9 (by intro z; cases z)
            rw [List.take_succ, hq1, Option.toList_some, List.map_append]
            exact (hB6.mono hne).app (.cons ((upd_ne hun).trans upd_same) .nil)
          · intro b o h
            have nb : b ≠ D := ne_of_none h hD
            rw [upd_ne nb]
            exact sA _ _ (s6 _ _ h)
        · rintro H6 ⟨bs, hD6, hB6, s6⟩
          rw [nl, hlen9, List.take_length] at hB6
          show rSortedPO K [V.ref D] H6 (fun x H1 => kTup K x H1 Q)
          refine rd_sorted (SqL.of hD6) hB6 fun cs qs l hC6 hperm hle hl => ?_
          have s7 := Same.new (o := .lst (refs cs)) hl
          refine .inl ⟨l, _, rfl, SqL.of upd_same, fun u hu => ?_⟩
          have s8 := Same.new (o := .tup (refs cs)) hu
          have sA := s6.trans (s7.trans s8)
          exact k _ u (1 + q) qs ((M9.keep sA).lt (by omega) (by omega)) (e9.trans (Ext.same sA)) ⟨called_yard G hC hperm hle, cs, upd_same, hC6.mono (sameT (s7.trans s8))⟩ (by omega)
end
end One
end P_N4

section P_M5
set_option linter.all false
/-! Far ends; sewing the newest crossing out again. -/
namespace One
/-- strictly sorted lists with the same items are the same -/
theorem sorted_ext {α : Type} {lt : α → α → Prop} (irr : ∀ a, ¬ lt a a) (tr : ∀ a b c, lt a b → lt b c → lt a c) : ∀ {L M : List α}, L.Pairwise lt → M.Pairwise lt → (∀ x, x ∈ L ↔ x ∈ M) → L = M
  | [], [], _, _, _ => rfl
  | [], b :: M, _, _, h => absurd ((h b).mpr (List.mem_cons_self ..)) (by simp)
  | a :: L, [], _, _, h => absurd ((h a).mp (List.mem_cons_self ..)) (by simp)
  | a :: L, b :: M, hL, hM, h => by
    obtain ⟨h1, h2⟩ := List.pairwise_cons.mp hL
    obtain ⟨h3, h4⟩ := List.pairwise_cons.mp hM
    have e : a = b := by
      rcases List.mem_cons.mp ((h a).mp (List.mem_cons_self ..)) with e | m
      · exact e
      · rcases List.mem_cons.mp ((h b).mpr (List.mem_cons_self ..)) with e | m'
        · exact e.symm
        · exact absurd (tr _ _ _ (h1 b m') (h3 a m)) (irr a)
    subst e
    refine congrArg (a :: ·) (sorted_ext irr tr h2 h4 fun x => ⟨fun m => ?_, fun m => ?_⟩)
    · rcases List.mem_cons.mp ((h x).mp (List.mem_cons_of_mem _ m)) with e | m'
      · subst e
        exact absurd (h1 x m) (irr x)
      · exact m'
    · rcases List.mem_cons.mp ((h x).mpr (List.mem_cons_of_mem _ m)) with e | m'
      · subst e
        exact absurd (h3 x m) (irr x)
      · exact m'
theorem ltP_irr (a : Nat × Nat) : ¬ ltP a a := fun h => by
  unfold ltP at h
  omega
theorem ltP_tr (a b c : Nat × Nat) (h : ltP a b) (k : ltP b c) : ltP a c := by
  unfold ltP at *
  omega
theorem Yard.eq {n m : Nat} {L M : List (Nat × Nat)} (y : Yard n L) (z : Yard m M) (h : ∀ x, x ∈ L ↔ x ∈ M) : L = M := sorted_ext ltP_irr ltP_tr y.up z.up h
/-- the far end -/
def far : List (Nat × Nat) → Nat → Nat
  | [], _ => 0
  | p :: r, e => if e = p.1 then p.2 else if e = p.2 then p.1 else far r e
theorem far_out : ∀ {ps : List (Nat × Nat)} {e : Nat}, e ∉ ends ps → far ps e = 0
  | [], _, _ => rfl
  | p :: r, e, h => by
    have h : e ∉ p.1 :: p.2 :: ends r := h
    simp only [List.mem_cons, not_or] at h
    unfold far
    rw [if_neg h.1, if_neg h.2.1, far_out h.2.2]
theorem far_of : ∀ {ps : List (Nat × Nat)}, (ends ps).Nodup → ∀ {p : Nat × Nat}, p ∈ ps → far ps p.1 = p.2 ∧ far ps p.2 = p.1
  | q :: r, h, p, m => by
    have h : (q.1 :: q.2 :: ends r).Nodup := h
    obtain ⟨h1, h2⟩ := List.nodup_cons.mp h
    obtain ⟨h3, h4⟩ := List.nodup_cons.mp h2
    unfold far
    rcases List.mem_cons.mp m with e | m
    · subst e
      refine ⟨if_pos rfl, ?_⟩
      rw [if_neg (fun e => h1 (List.mem_cons.mpr (.inl e.symm))), if_pos rfl]
    · have m1 : p.1 ∈ ends r := mem_ends.mpr ⟨p, m, .inl rfl⟩
      have m2 : p.2 ∈ ends r := mem_ends.mpr ⟨p, m, .inr rfl⟩
      obtain ⟨i1, i2⟩ := far_of h4 m
      have n1 : p.1 ≠ q.1 := fun e => h1 (List.mem_cons.mpr (.inr (e ▸ m1)))
      have n2 : p.1 ≠ q.2 := fun e => h3 (e ▸ m1)
      have n3 : p.2 ≠ q.1 := fun e => h1 (List.mem_cons.mpr (.inr (e ▸ m2)))
      have n4 : p.2 ≠ q.2 := fun e => h3 (e ▸ m2)
      rw [if_neg n1, if_neg n2, if_neg n3, if_neg n4]
      exact ⟨i1, i2⟩
theorem far_line {ps : List (Nat × Nat)} (h : (ends ps).Nodup) {e : Nat} (m : e ∈ ends ps) : ((e, far ps e) ∈ ps ∨ (far ps e, e) ∈ ps) ∧ far ps (far ps e) = e := by
  obtain ⟨p, hp, z | z⟩ := mem_ends.mp m
  · obtain ⟨i1, i2⟩ := far_of h hp
    rw [z, i1, i2]
    exact ⟨.inl hp, rfl⟩
  · obtain ⟨i1, i2⟩ := far_of h hp
    rw [z, i2, i1]
    exact ⟨.inr hp, rfl⟩
theorem far_snoc {p : Nat × Nat} : ∀ {ps : List (Nat × Nat)}, (ends (ps ++ [p])).Nodup → ∀ e, far (ps ++ [p]) e = if e = p.1 then p.2 else if e = p.2 then p.1 else far ps e
  | ps, h, e => by
    have hp : p ∈ ps ++ [p] := List.mem_append_right _ (List.mem_cons_self ..)
    obtain ⟨i1, i2⟩ := far_of h hp
    by_cases e1 : e = p.1
    · rw [if_pos e1, e1, i1]
    · rw [if_neg e1]
      by_cases e2 : e = p.2
      · rw [if_pos e2, e2, i2]
      · rw [if_neg e2]
        have go : ∀ (l : List (Nat × Nat)), far (l ++ [p]) e = far l e := by
          intro l
          induction l with
          | nil =>
            show (if e = p.1 then p.2 else if e = p.2 then p.1 else far [] e) = far [] e
            rw [if_neg e1, if_neg e2]
          | cons q r ih =>
            show (if e = q.1 then q.2 else if e = q.2 then q.1 else far (r ++ [p]) e) = (if e = q.1 then q.2 else if e = q.2 then q.1 else far r e)
            rw [ih]
        exact go ps
theorem pigeon : ∀ (m : Nat) (l : List Nat), l.Nodup → (∀ x ∈ l, x < m) → l.length ≤ m
  | 0, [], _, _ => Nat.le_refl _
  | 0, a :: l, _, h => absurd (h a (List.mem_cons_self ..)) (by omega)
  | m + 1, l, nd, h => by
    by_cases hm : m ∈ l
    · have e := List.length_erase_of_mem hm
      have ih := pigeon m (l.erase m) (nd.erase m) fun x hx => by
        have q := (nd.mem_erase_iff).mp hx
        have := h x q.2
        have := q.1
        omega
      omega
    · have ih := pigeon m l nd fun x hx => by
        have := h x hx
        have : x ≠ m := fun e => hm (e ▸ hx)
        omega
      omega
/-- every end below 4n stands in lines of n crossings -/
theorem ends_full {n : Nat} {ps : List (Nat × Nat)} (L : Lines n ps) {e : Nat} (h : e < 4 * n) : e ∈ ends ps := by
  by_cases m : e ∈ ends ps
  · exact m
  · exfalso
    have hl : (ends ps).length = 4 * n := by rw [ends_length, L.len]; omega
    have nd : (e :: ends ps).Nodup := List.nodup_cons.mpr ⟨m, L.nd⟩
    have := pigeon (4 * n) (e :: ends ps) nd fun x hx => by
      rcases List.mem_cons.mp hx with z | z
      · rw [z]; exact h
      · exact L.lt x z
    rw [List.length_cons, hl] at this
    omega
theorem far_lt {n : Nat} {ps : List (Nat × Nat)} (L : Lines n ps) {e : Nat} (h : e < 4 * n) : far ps e < 4 * n := by
  obtain ⟨z | z, _⟩ := far_line L.nd (ends_full L h)
  · exact L.lt _ (mem_ends.mpr ⟨_, z, .inr rfl⟩)
  · exact L.lt _ (mem_ends.mpr ⟨_, z, .inl rfl⟩)
/-- the lines told from the far ends -/
def linesOf (F : Nat → Nat) (m : Nat) : List (Nat × Nat) := (List.range m).filterMap fun e => if e < F e then some (e, F e) else none
theorem linesOf_snoc (F : Nat → Nat) (m : Nat) : linesOf F (m + 1) = linesOf F m ++ (if m < F m then [(m, F m)] else []) := by
  unfold linesOf
  rw [List.range_succ, List.filterMap_append]
  by_cases h : m < F m
  · simp [h]
  · simp [h]
theorem linesOf_mem {F : Nat → Nat} {m : Nat} {p : Nat × Nat} : p ∈ linesOf F m ↔ p.1 < m ∧ F p.1 = p.2 ∧ p.1 < p.2 := by
  unfold linesOf
  rw [List.mem_filterMap]
  constructor
  · rintro ⟨e, he, h⟩
    split at h
    · cases h
      exact ⟨List.mem_range.mp he, rfl, by assumption⟩
    · cases h
  · rintro ⟨h1, h2, h3⟩
    refine ⟨p.1, List.mem_range.mpr h1, ?_⟩
    rw [h2, if_pos h3]
theorem linesOf_up (F : Nat → Nat) : ∀ m, (linesOf F m).Pairwise ltP
  | 0 => .nil
  | m + 1 => by
    rw [linesOf_snoc]
    refine List.pairwise_append.mpr ⟨linesOf_up F m, ?_, fun a ha b hb => ?_⟩
    · split
      · exact List.pairwise_singleton _ _
      · exact .nil
    · split at hb
      · rw [List.mem_singleton.mp hb]
        exact .inl (linesOf_mem.mp ha).1
      · cases hb
theorem yard_linesOf {n : Nat} {ps : List (Nat × Nat)} (y : Yard n ps) : linesOf (far ps) (4 * n) = ps := by
  refine sorted_ext ltP_irr ltP_tr (linesOf_up _ _) y.up fun p => ⟨fun h => ?_, fun h => ?_⟩
  · obtain ⟨h1, h2, h3⟩ := linesOf_mem.mp h
    obtain ⟨z | z, _⟩ := far_line y.lines.nd (ends_full y.lines h1)
    · rw [h2] at z
      exact z
    · rw [h2] at z
      have := y.low _ z
      simp only at this
      omega
  · have h1 := y.lines.lt _ (mem_ends.mpr ⟨p, h, .inl rfl⟩)
    exact linesOf_mem.mpr ⟨h1, (far_of y.lines.nd h).1, y.low p h⟩
end One
end P_M5

section P_Q0
set_option linter.all false
set_option maxRecDepth 100000
set_option maxHeartbeats 4000000
namespace One
open PySem PySem.Spec PyProof.Rows L2
/-! ### ranks -/
/-- way j is ahead of way i -/
def ahead (x : Nat → Int) (j i : Nat) : Prop := x i < x j ∨ (x i = x j ∧ j < i)
structure IsRank (x : Nat → Int) (r : List Nat) : Prop where
  perm : r.Perm [0, 1, 2]
  up : r.Pairwise (ahead x)
theorem ahead_irr (x : Nat → Int) (a : Nat) : ¬ ahead x a a := fun h => by
  unfold ahead at h
  omega
theorem ahead_tr (x : Nat → Int) (a b c : Nat) (h : ahead x a b) (k : ahead x b c) : ahead x a c := by
  unfold ahead at *
  omega
theorem IsRank.eq {x : Nat → Int} {r q : List Nat} (a : IsRank x r) (b : IsRank x q) : r = q :=
  sorted_ext (ahead_irr x) (ahead_tr x) a.up b.up fun z => (a.perm.mem_iff).trans b.perm.mem_iff.symm
theorem IsRank.len {x : Nat → Int} {r : List Nat} (a : IsRank x r) : r.length = 3 := a.perm.length_eq
theorem IsRank.three {x : Nat → Int} {r : List Nat} (a : IsRank x r) : ∃ b s l : Nat, r = [b, s, l] ∧ b < 3 ∧ s < 3 ∧ l < 3 := by
  have h := a.len
  have m := fun z => (a.perm.mem_iff (a := z)).mp
  match r, h, m with
  | [b, s, l], _, m =>
    have lt : ∀ z ∈ [b, s, l], z < 3 := fun z hz => by
      have := m z hz
      simp at this
      omega
    exact ⟨b, s, l, rfl, lt b (by simp), lt s (by simp), lt l (by simp)⟩
/-- pairs of any numbers, in order -/
def leI (p q : Int × Int) : Prop := p.1 < q.1 ∨ (p.1 = q.1 ∧ p.2 ≤ q.2)
inductive PLI (H : Hp) : List Addr → List (Int × Int) → Prop
  | nil : PLI H [] []
  | cons {a p as ps} : H a = some (.tup [.int p.1, .int p.2]) → PLI H as ps → PLI H (a :: as) (p :: ps)
theorem PLI.len {H : Hp} {as : List Addr} {ps : List (Int × Int)} (h : PLI H as ps) : as.length = ps.length := by
  induction h with
  | nil => rfl
  | cons _ _ ih => simp [ih]
theorem PLI.mono {H H' : Hp} {as : List Addr} {ps : List (Int × Int)} (h : PLI H as ps) (k : ∀ b xs, H b = some (.tup xs) → H' b = some (.tup xs)) : PLI H' as ps := by
  induction h with
  | nil => exact .nil
  | cons h1 _ ih => exact .cons (k _ _ h1) ih
theorem PLI.app {H : Hp} {as bs : List Addr} {ps qs : List (Int × Int)} (h : PLI H as ps) (k : PLI H bs qs) : PLI H (as ++ bs) (ps ++ qs) := by
  induction h with
  | nil => exact k
  | cons h1 _ ih => exact .cons h1 ih
theorem PLI.got {H : Hp} {as : List Addr} {ps : List (Int × Int)} (h : PLI H as ps) : ∀ {i : Nat} {a : Addr}, as[i]? = some a → ∃ p, ps[i]? = some p ∧ H a = some (.tup [.int p.1, .int p.2]) := by
  induction h with
  | nil => intro i a e; simp at e
  | cons h1 _ ih =>
    intro i a e
    cases i with
    | zero =>
      cases Option.some.inj e
      exact ⟨_, rfl, h1⟩
    | succ i => exact ih (i := i) (by simpa using e)
def keyI (H : Hp) (a : Addr) : Int × Int := match H a with
  | some (.tup [.int x, .int y]) => (x, y)
  | _ => (0, 0)
theorem keyI_of {H : Hp} {a : Addr} {p : Int × Int} (h : H a = some (.tup [.int p.1, .int p.2])) : keyI H a = p := by
  unfold keyI
  rw [h]
theorem PLI.keys {H : Hp} {as : List Addr} {ps : List (Int × Int)} (h : PLI H as ps) : ps = as.map (keyI H) ∧ ∀ a ∈ as, H a = some (.tup [.int (keyI H a).1, .int (keyI H a).2]) := by
  induction h with
  | nil => exact ⟨rfl, fun a m => absurd m (by simp)⟩
  | cons h1 _ ih =>
    refine ⟨by rw [List.map_cons, keyI_of h1, ← ih.1], fun b m => ?_⟩
    rcases List.mem_cons.mp m with rfl | m
    · rw [keyI_of h1]
      exact h1
    · exact ih.2 b m
theorem PLI.of_keys {H : Hp} : ∀ {as : List Addr}, (∀ a ∈ as, H a = some (.tup [.int (keyI H a).1, .int (keyI H a).2])) → PLI H as (as.map (keyI H))
  | [], _ => .nil
  | a :: as, h => .cons (h a (List.mem_cons_self ..)) (PLI.of_keys fun b m => h b (List.mem_cons_of_mem _ m))
theorem rd_sortedI {K : PySem.W.Frag} {H : Hp} {Q : VK} {a : Addr} {as : List Addr} {ps : List (Int × Int)} (hs : SqL K H a (refs as)) (hP : PLI H as ps)
    (h : ∀ (bs : List Addr) (qs : List (Int × Int)) (p : Addr), PLI H bs qs → qs.Perm ps → qs.Pairwise leI → H p = none → Q (.ref p) (upd H p (.lst (refs bs)))) : rSortedPO K [.ref a] H Q := by
  obtain ⟨e1, e2⟩ := hP.keys
  refine ⟨a, refs as, fun v => keyI H (backA v), rfl, hs, fun x hx => ?_, fun ys p h1 h2 hp => ?_⟩
  · obtain ⟨b, hb, rfl⟩ := List.mem_map.mp hx
    exact ⟨b, rfl, e2 b hb⟩
  · have hy : ys = refs (ys.map backA) := refs_of fun y m => by
      obtain ⟨b, _, e⟩ := List.mem_map.mp (h2.perm.mem_iff.mp m)
      exact ⟨b, e.symm⟩
    have hb : (ys.map backA).Perm as := by
      have := h2.perm.map backA
      rwa [back_refs] at this
    rw [hy]
    refine h (ys.map backA) ((ys.map backA).map (keyI H)) p (PLI.of_keys fun b m => e2 b (hb.mem_iff.mp m)) (by rw [e1]; exact hb.map _) ?_ hp
    rw [List.map_map, List.pairwise_map]
    refine List.Pairwise.imp ?_ h1
    intro x y hxy
    have q := SrtO.lexB_no.mp hxy
    show leI (keyI H (backA x)) (keyI H (backA y))
    unfold leI
    simp only at q
    omega
/-- three numbers in a tuple -/
structure Three where
  a : Int
  b : Int
  c : Int
def Three.at (t : Three) : Nat → Int := fun i => [t.a, t.b, t.c].getD i 0
def Three.vals (t : Three) : List V := [.int t.a, .int t.b, .int t.c]
inductive TLs (H : Hp) : List Addr → List Three → Prop
  | nil : TLs H [] []
  | cons {a t as ts} : H a = some (.tup t.vals) → TLs H as ts → TLs H (a :: as) (t :: ts)
theorem TLs.len {H : Hp} {as : List Addr} {ts : List Three} (h : TLs H as ts) : as.length = ts.length := by
  induction h with
  | nil => rfl
  | cons _ _ ih => simp [ih]
theorem TLs.mono {H H' : Hp} {as : List Addr} {ts : List Three} (h : TLs H as ts) (k : ∀ b xs, H b = some (.tup xs) → H' b = some (.tup xs)) : TLs H' as ts := by
  induction h with
  | nil => exact .nil
  | cons h1 _ ih => exact .cons (k _ _ h1) ih
theorem TLs.app {H : Hp} {as bs : List Addr} {ps qs : List Three} (h : TLs H as ps) (k : TLs H bs qs) : TLs H (as ++ bs) (ps ++ qs) := by
  induction h with
  | nil => exact k
  | cons h1 _ ih => exact .cons h1 ih
theorem TLs.got {H : Hp} {as : List Addr} {ts : List Three} (h : TLs H as ts) : ∀ {i : Nat} {a : Addr}, as[i]? = some a → ∃ t, ts[i]? = some t ∧ H a = some (.tup t.vals) := by
  induction h with
  | nil => intro i a e; simp at e
  | cons h1 _ ih =>
    intro i a e
    cases i with
    | zero =>
      cases Option.some.inj e
      exact ⟨_, rfl, h1⟩
    | succ i => exact ih (i := i) (by simpa using e)
def Three.ok (t : Three) : Prop := ∀ i, i < 3 → -(10 ^ 30) ≤ t.at i ∧ t.at i ≤ 10 ^ 30
/-- worths of m crossings at t -/
def WsAt (H : Hp) (t : Addr) (m : Nat) (ts : List Three) : Prop := ts.length = m ∧ (∀ x ∈ ts, x.ok) ∧ ∃ as : List Addr, H t = some (.tup (refs as)) ∧ TLs H as ts
theorem WsAt.mono {H H' : Hp} {t : Addr} {m : Nat} {ts : List Three} (h : WsAt H t m ts) (k : ∀ b xs, H b = some (.tup xs) → H' b = some (.tup xs)) : WsAt H' t m ts := by
  obtain ⟨h0, h1, as, h2, h3⟩ := h
  exact ⟨h0, h1, as, k _ _ h2, h3.mono k⟩
end One
end P_Q0

section P_F4
set_option linter.all false
set_option maxRecDepth 100000
set_option maxHeartbeats 8000000
namespace One
open PySem PySem.Spec PyProof.Rows L2
abbrev sNeed : Stmt := top 31
abbrev sCross : Stmt := top 37
abbrev sBadYard : Stmt := top 2
theorem scNeed : FnScope ["thing", "place"] ["thing"] (defScope sNeed) := ⟨rfl, rfl, rfl, by decide +kernel, rfl, by decide +kernel, by decide +kernel⟩
theorem scCross : FnScope ["yard"] ["yard"] (defScope sCross) := ⟨rfl, rfl, rfl, by decide +kernel, rfl, by decide +kernel, by decide +kernel⟩
theorem il_of {H : Hp} {N : Nat} {as : List Addr} {ps : List (Nat × Nat)} (h : PL H as ps) (k : ∀ p ∈ ps, p.1 < p.2 ∧ p.2 < N) : IL H N (refs as) (ps.map some) := by
  induction h with
  | nil => exact .nil
  | cons h1 _ ih =>
    obtain ⟨k1, k2⟩ := k _ (List.mem_cons_self ..)
    exact .line h1 k1 k2 (ih fun p m => k p (List.mem_cons_of_mem _ m))
theorem map_some_inj {α : Type} : ∀ {a b : List α}, a.map some = b.map some → a = b
  | [], [], _ => rfl
  | [], _ :: _, h => by cases h
  | _ :: _, [], h => by cases h
  | x :: a, y :: b, h => by
    rw [List.map_cons, List.map_cons] at h
    obtain ⟨h1, h2⟩ := List.cons.inj h
    rw [Option.some.inj h1, map_some_inj h2]
theorem Yard.lt {n : Nat} {ps : List (Nat × Nat)} (y : Yard n ps) : ∀ p ∈ ps, p.1 < p.2 ∧ p.2 < 4 * n := fun p m => ⟨y.low p m, y.lines.lt _ (mem_ends.mpr ⟨p, m, .inr rfl⟩)⟩
/-- a yard has no fault -/
theorem fault_good {H : Hp} {t : Addr} {n : Nat} {ps : List (Nat × Nat)} {Q : VK} {E : XK} (y : YAt H t n ps) (hn : n ≤ 40) (q : ∀ H', Same H H' → Q .non H') : spFault [.ref t] H Q E := by
  obtain ⟨Y, as, ht, hP⟩ := y
  have hl : (refs as).length = 2 * n := by rw [List.length_map, hP.len, Y.lines.len]
  have hpos := Y.pos
  refine ⟨_, rfl, .inr ⟨t, refs as, ps.map some, rfl, ht, ?_, ?_, fun k hk => ?_, fun _ qs e => ?_⟩⟩
  · unfold canBe
    rw [hl]
    simp only [Bool.and_eq_true, decide_eq_true_eq]
    omega
  · rw [hl]
    exact il_of hP fun p m => ⟨(Y.lt p m).1, by have := (Y.lt p m).2; omega⟩
  · rw [yard_good Y] at hk
    cases hk
  · cases map_some_inj e
    rw [hl, show 2 * n / 2 = n by omega]
    exact ⟨fun _ => q, fun z => absurd Y.whole z⟩
theorem fault_mono {H : Hp} {v : V} {Q Q' : VK} {E E' : XK} (h : spFault [v] H Q E) (k : ∀ r H', Q r H' → Q' r H') : spFault [v] H Q' E' := by
  obtain ⟨v', e, h⟩ := h
  refine ⟨v', e, ?_⟩
  rcases h with ⟨h1, h2⟩ | ⟨t, xs, os, h1, h2, h3, h4, h5, h6⟩
  · exact .inl ⟨h1, fun H' p a b => k _ _ (h2 H' p a b)⟩
  · exact .inr ⟨t, xs, os, h1, h2, h3, h4, fun j e H' p a b => k _ _ (h5 j e H' p a b), fun e ps eo => ⟨fun z H' a => k _ _ ((h6 e ps eo).1 z H' a), fun z H' p a b => k _ _ ((h6 e ps eo).2 z H' p a b)⟩⟩
/-- a tuple of no good length: () -/
theorem fault_len {H : Hp} {t : Addr} {xs : List V} {Q : VK} {E : XK} (ht : H t = some (.tup xs)) (hc : canBe (xs.length : Nat) = false) (q : ∀ (H' : Hp) (p : Addr), Same H H' → H' p = some (.tup []) → Q (.ref p) H') : spFault [.ref t] H Q E :=
  ⟨_, rfl, .inl ⟨.inr ⟨t, xs, rfl, ht, hc⟩, q⟩⟩
/-- a fault told -/
def Wrong (C0 : Addr) (E : XK) (r : V) (H : Hp) : Prop := ∃ (p : Addr) (ns : List Nat), r = .ref p ∧ H p = some (.tup (nats ns)) ∧ ns.length ≤ 100 ∧ (∀ n ∈ ns, n < 1000) ∧ ∀ d, H d = none → E (.ref C0) (some d) (upd H d (.xd [("place", .ref p)]))
def spNeed (C0 : Addr) : Sp := fun vs H Q E => ∃ v, vs = [v] ∧ spFault [v] H (fun r H' => (r = .non ∧ Q v H') ∨ Wrong C0 E r H') E0
def spCross (C0 : Addr) : Sp := fun vs H Q E => spNeed C0 vs H (fun v H' => ∃ t xs, v = .ref t ∧ H' t = some (.tup xs) ∧ Q (.int ((xs.length / 2 : Nat))) H') E
section
variable {P : Program} {w : World} {K : PySem.W.Frag} {mg : Str → Option Value} {base : Heap} {C0 fI : Addr} {sX : Stmt}
theorem ok_need {f fF : Addr} {fd fdF : FuncData} (F : Fun K "need_yard" "need_yard" sNeed f fd) (T : OwnTxt P K sX "place" C0 fI) (O : OwnCls K mg "BadYard" C0 fI) (noS : mg "super" = none) (B : Cal K mg "yard_fault" fF fdF ["thing"]) (GF : FnOk P w K mg base CX0 4 fF fdF ["thing"] spFault) :
    FnOk P w K mg base (L2.CX P w) 5 f fd ["thing"] (spNeed C0) := by
  refine F.okX scNeed (fun vs H Q E h => ?_) (fun cdv A outer s H vs Q E hr h => ?_)
  · obtain ⟨v, rfl, _⟩ := h
    rfl
  · obtain ⟨v, rfl, h⟩ := h
    have nd := scNeed.nd
    refine ⟨_, pss_cons (ps_set (i := 1) nd rfl (Or.inl rfl) (pe_call GF hr rfl B.g B.kp B.b .nil pass0 (pa_cons (pv 0) pa_nil)))
      (pss_cons (ps_if (pt_cmpR op_notN (pv 1) pe_non (nomark _)) (pss_one (ps_raiseX rfl (Or.inl rfl) T O noS hr (takes_of rfl rfl rfl rfl) (pa_cons (pv 1) pa_nil) (by rfl))) pss_nil)
      (pss_one (ps_ret (pv 0)))), ?_⟩
    refine ⟨_, rfl, ?_⟩
    unfold tNil
    refine fault_mono (Q := fun r H' => (r = .non ∧ Q v H') ∨ Wrong C0 E r H') h fun r H' hq => ?_
    rcases hq with ⟨rfl, q⟩ | ⟨p, ns, rfl, hp, hl, hs, q⟩
    · exact ⟨_, rfl, rfl, _, rfl, iteF ⟨_, rfl, q⟩⟩
    · refine ⟨_, rfl, rfl, _, rfl, iteT ⟨_, rfl, _, rfl, .tup ns (SqT.of hp) hl hs, fun d hd => q d hd⟩⟩
theorem ok_cross {f fN : Addr} {fd fdN : FuncData} (F : Fun K "crossings" "crossings" sCross f fd) (T : TB mg) (N : Cal K mg "need_yard" fN fdN ["thing"]) (GN : FnOk P w K mg base (L2.CX P w) 5 fN fdN ["thing"] (spNeed C0)) :
    FnOk P w K mg base (L2.CX P w) 6 f fd ["yard"] (spCross C0) := by
  refine F.okX scCross (fun vs H Q E h => ?_) (fun cdv A outer s H vs Q E hr h => ?_)
  · obtain ⟨v, rfl, _⟩ := h
    rfl
  · obtain ⟨v, rfl, h⟩ := h
    refine ⟨_, pss_one (ps_ret (pe_op op_fdiv (pe_callB call_len_seq (by rfl) T.len PySem.boot_len (pa_cons (pe_call GN hr rfl N.g N.kp N.b .nil (passes_call (takes_of rfl rfl rfl rfl) (fun _ _ _ _ h => h)) (pa_cons (pv 0) pa_nil)) pa_nil)) pe_int)), ?_⟩
    refine ⟨_, rfl, v, rfl, fault_mono h fun r H' hq => hq.imp (fun ⟨e, t, xs, e2, ht, q⟩ => ⟨e, t, xs, by rw [e2], .inr (SqT.of ht), ?_⟩) id⟩
    refine ⟨_, _, rfl, rfl, ⟨by decide, by decide⟩, ?_⟩
    have e4 : ((xs.length : Nat) : Int) / 2 = ((xs.length / 2 : Nat) : Int) := by omega
    show Q (.int (((xs.length : Nat) : Int) / 2)) H'
    rw [e4]
    exact q
end
end One
end P_F4

section P_QA
set_option linter.all false
set_option maxRecDepth 100000
set_option maxHeartbeats 8000000
namespace One
open PySem PySem.Spec PyProof.Rows L2
abbrev sTh : Stmt := top 45
abbrev sWF : Stmt := top 44
abbrev nTh : List Str := ["thing", "way", "worth"]
abbrev nWF : List Str := ["thing", "many", "crossing", "three", "place"]
theorem scTh : FnScope nTh ["thing"] (defScope sTh) := ⟨rfl, rfl, rfl, by decide +kernel, rfl, by decide +kernel, by decide +kernel⟩
theorem scWF : FnScope nWF ["thing", "many"] (defScope sWF) := ⟨rfl, rfl, rfl, by decide +kernel, rfl, by decide +kernel, by decide +kernel⟩
theorem take_get {α} {xs : List α} {i j : Nat} {y : α} (h : i < j) (e : xs[i]? = some y) : (xs.take j)[i]? = some y := by
  rw [List.getElem?_take, if_pos h]
  exact e
theorem first_bad {α} (p : α → Bool) : ∀ (xs : List α), xs.all p = true ∨ ∃ (i : Nat) (y : α), xs[i]? = some y ∧ p y = false ∧ (xs.take i).all p = true
  | [] => .inl rfl
  | x :: xs => by
    cases hx : p x with
    | false => exact .inr ⟨0, x, rfl, hx, rfl⟩
    | true =>
      rcases first_bad p xs with h | ⟨i, y, h1, h2, h3⟩
      · exact .inl (by rw [List.all_cons, hx, h]; rfl)
      · exact .inr ⟨i + 1, y, h1, h2, by rw [List.take_succ_cons, List.all_cons, hx, h3]; rfl⟩
theorem same_first {α} {p : α → Bool} {xs : List α} {i j : Nat} {x y : α} (e1 : xs[i]? = some x) (h1 : p x = false) (a1 : (xs.take i).all p = true) (e2 : xs[j]? = some y) (h2 : p y = false) (a2 : (xs.take j).all p = true) : i = j := by
  rcases Nat.lt_trichotomy i j with h | h | h
  · have := List.all_eq_true.mp a2 x (List.mem_of_getElem? (take_get h e1))
    rw [h1] at this
    cases this
  · exact h
  · have := List.all_eq_true.mp a1 y (List.mem_of_getElem? (take_get h e2))
    rw [h2] at this
    cases this
/-- a worth as it may be -/
def okWo (v : V) : Bool := match v with
  | .int i => decide (-1000000000000000000000000000000 ≤ i) && decide (i ≤ 1000000000000000000000000000000)
  | _ => false
/-- where a thing is no tuple of n good ones; none of one -/
def SeqF (ok : V → Bool) (n : Nat) (H : Hp) (x : V) (r : Option (List Nat)) : Prop :=
  ((∀ a ys, x = .ref a → H a = some (.tup ys) → ys.length ≠ n) ∧ r = some []) ∨
  ∃ (a : Addr) (ys : List V), x = .ref a ∧ H a = some (.tup ys) ∧ ys.length = n ∧ (∀ y ∈ ys, ∃ T, TV H y T) ∧
    ((ys.all ok = true ∧ r = none) ∨ ∃ (i : Nat) (y : V), ys[i]? = some y ∧ ok y = false ∧ (ys.take i).all ok = true ∧ r = some [i])
/-- where a thing is no three worths; none of three -/
abbrev ThreeF := SeqF okWo 3
/-- where a thing is no worths of n crossings; none of worths -/
def WorthsF (H : Hp) (v : V) (n : Nat) (r : Option (List Nat)) : Prop :=
  ((∀ t xs, v = .ref t → H t = some (.tup xs) → xs.length ≠ n) ∧ r = some []) ∨
  ∃ (t : Addr) (xs : List V), v = .ref t ∧ H t = some (.tup xs) ∧ xs.length = n ∧ (∀ x ∈ xs, ∃ T, TV H x T) ∧
    (((∀ x ∈ xs, ThreeF H x none) ∧ r = none) ∨ ∃ (i : Nat) (x : V) (l : List Nat), xs[i]? = some x ∧ ThreeF H x (some l) ∧ (∀ z ∈ xs.take i, ThreeF H z none) ∧ l.length ≤ 1 ∧ r = some (i :: l))
theorem TV.notTup {H : Hp} {v : V} {T : String} (h : TV H v T) (k : isTup T = true) : ∃ (t : Addr) (xs : List V), v = .ref t ∧ H t = some (.tup xs) := by
  cases h with
  | @tup a xs e => exact ⟨a, xs, rfl, e⟩
  | non => exact absurd k (by decide)
  | bl b => exact absurd k (by decide)
  | int i => exact absurd k (by decide)
  | str x => exact absurd k (by decide)
  | lst e => exact absurd k (by decide)
  | dct e => exact absurd k (by decide)
theorem TV.isTupOf {H : Hp} {t : Addr} {xs : List V} {T : String} (h : TV H (.ref t) T) (k : H t = some (.tup xs)) : isTup T = true := by
  cases h with
  | tup e => rfl
  | lst e => cases k.symm.trans e
  | dct e => cases k.symm.trans e
theorem TV.monoN {H H' : Hp} {v : V} {T : String} (h : TV H v T) (k : ∀ b o, H b = some o → (∀ ps, o ≠ .tbl ps) → H' b = some o) : TV H' v T := by
  cases h with
  | non => exact .non
  | bl b => exact .bl b
  | int i => exact .int i
  | str x => exact .str x
  | tup e => exact .tup (k _ _ e (fun ps z => by cases z))
  | lst e => exact .lst (k _ _ e (fun ps z => by cases z))
  | dct e => exact .dct (k _ _ e (fun ps z => by cases z))
theorem SeqF.mono {ok : V → Bool} {n : Nat} {H H' : Hp} {v : V} {T : String} {r : Option (List Nat)} (hv : TV H v T) (h : SeqF ok n H v r) (s : ∀ b o, H b = some o → (∀ ps, o ≠ .tbl ps) → H' b = some o) : SeqF ok n H' v r := by
  rcases h with ⟨h, e⟩ | ⟨a, ys, rfl, h1, h2, h3, h4⟩
  · refine .inl ⟨fun a ys ea ha => ?_, e⟩
    subst ea
    cases hv with
    | tup q => exact h a _ rfl (by
        have := (s _ _ q (fun ps z => by cases z)).symm.trans ha
        cases this
        exact q)
    | lst q => cases (s _ _ q (fun ps z => by cases z)).symm.trans ha
    | dct q => cases (s _ _ q (fun ps z => by cases z)).symm.trans ha
  · refine .inr ⟨a, ys, rfl, s _ _ h1 (fun ps z => by cases z), h2, fun y m => ?_, h4⟩
    obtain ⟨T, q⟩ := h3 y m
    exact ⟨T, q.monoN s⟩
theorem SeqF.not {ok : V → Bool} {n : Nat} {H : Hp} {v : V} {l : List Nat} (h : SeqF ok n H v (some l)) : ¬ SeqF ok n H v none := by
  intro k
  rcases k with ⟨_, e⟩ | ⟨a, ys, rfl, h1, h2, _, ⟨h3, _⟩ | ⟨_, _, _, _, _, e⟩⟩
  · cases e
  · rcases h with ⟨k, _⟩ | ⟨a', ys', e, k1, k2, _, ⟨_, e'⟩ | ⟨i, y, q1, q2, _, _⟩⟩
    · exact k a ys rfl h1 h2
    · cases e'
    · cases e
      cases h1.symm.trans k1
      have := List.all_eq_true.mp h3 y (List.mem_of_getElem? q1)
      rw [q2] at this
      cases this
  · cases e
theorem WorthsF.mono {H H' : Hp} {v : V} {T : String} {n : Nat} {r : Option (List Nat)} (hv : TV H v T) (h : WorthsF H v n r) (s : ∀ b o, H b = some o → (∀ ps, o ≠ .tbl ps) → H' b = some o) : WorthsF H' v n r := by
  rcases h with ⟨h, e⟩ | ⟨a, ys, rfl, h1, h2, h3, h4⟩
  · refine .inl ⟨fun a ys ea ha => ?_, e⟩
    subst ea
    cases hv with
    | tup q => exact h a _ rfl (by
        have := (s _ _ q (fun ps z => by cases z)).symm.trans ha
        cases this
        exact q)
    | lst q => cases (s _ _ q (fun ps z => by cases z)).symm.trans ha
    | dct q => cases (s _ _ q (fun ps z => by cases z)).symm.trans ha
  · have m3 : ∀ (x : V) (r : Option (List Nat)), x ∈ ys → ThreeF H x r → ThreeF H' x r := fun x r m k => by
      obtain ⟨T, q⟩ := h3 x m
      exact SeqF.mono q k s
    refine .inr ⟨a, ys, rfl, s _ _ h1 (fun ps z => by cases z), h2, fun y m => ?_, ?_⟩
    · obtain ⟨T, q⟩ := h3 y m
      exact ⟨T, q.monoN s⟩
    · rcases h4 with ⟨k, e⟩ | ⟨i, x, l, e1, e2, e3, e4⟩
      · exact .inl ⟨fun x m => m3 x _ m (k x m), e⟩
      · exact .inr ⟨i, x, l, e1, m3 x _ (List.mem_of_getElem? e1) e2, fun z m => m3 z _ (List.mem_of_mem_take m) (e3 z m), e4⟩
theorem Same.toN {H H' : Hp} (s : Same H H') : ∀ b o, H b = some o → (∀ ps, o ≠ .tbl ps) → H' b = some o := fun b o e _ => s b o e
theorem okWo_iff {v : V} (h : okWo v = true) : ∃ i : Int, v = .int i ∧ -(10 ^ 30) ≤ i ∧ i ≤ 10 ^ 30 := by
  cases v with
  | int i =>
    have h : (decide (-1000000000000000000000000000000 ≤ i) && decide (i ≤ 1000000000000000000000000000000)) = true := h
    simp only [Bool.and_eq_true, decide_eq_true_eq] at h
    exact ⟨i, rfl, h.1, h.2⟩
  | _ => exact nof h
theorem okWo_of {i : Int} (h : -(10 ^ 30) ≤ i) (k : i ≤ 10 ^ 30) : okWo (.int i) = true := by
  show (decide (-1000000000000000000000000000000 ≤ i) && decide (i ≤ 1000000000000000000000000000000)) = true
  simp only [Bool.and_eq_true, decide_eq_true_eq]
  exact ⟨h, k⟩
theorem three_none {H : Hp} {v : V} : ThreeF H v none ↔ ∃ (a : Addr) (x : Three), v = .ref a ∧ H a = some (.tup x.vals) ∧ x.ok := by
  constructor
  · intro h
    rcases h with ⟨_, e⟩ | ⟨a, ys, rfl, h1, h2, _, ⟨h4, _⟩ | ⟨_, _, _, _, _, e⟩⟩
    · cases e
    · match ys, h2, h4 with
      | [p, q, s], _, h4 =>
        simp only [List.all_cons, List.all_nil, Bool.and_true, Bool.and_eq_true] at h4
        obtain ⟨i, rfl, i1, i2⟩ := okWo_iff h4.1
        obtain ⟨j, rfl, j1, j2⟩ := okWo_iff h4.2.1
        obtain ⟨k, rfl, k1, k2⟩ := okWo_iff h4.2.2
        refine ⟨a, ⟨i, j, k⟩, rfl, h1, fun n hn => ?_⟩
        have hc : n = 0 ∨ n = 1 ∨ n = 2 := by omega
        rcases hc with rfl | rfl | rfl
        · exact ⟨i1, i2⟩
        · exact ⟨j1, j2⟩
        · exact ⟨k1, k2⟩
    · cases e
  · rintro ⟨a, x, rfl, h1, hx⟩
    refine .inr ⟨a, _, rfl, h1, rfl, fun y m => ?_, .inl ⟨?_, rfl⟩⟩
    · have m : y ∈ [V.int x.a, V.int x.b, V.int x.c] := m
      simp only [List.mem_cons, List.not_mem_nil, or_false] at m
      rcases m with rfl | rfl | rfl <;> exact ⟨_, .int _⟩
    · show (okWo (.int x.a) && (okWo (.int x.b) && (okWo (.int x.c) && true))) = true
      have a0 := hx 0 (by decide)
      have a1 := hx 1 (by decide)
      have a2 := hx 2 (by decide)
      rw [okWo_of (i := x.a) a0.1 a0.2, okWo_of (i := x.b) a1.1 a1.2, okWo_of (i := x.c) a2.1 a2.2]
      rfl
theorem TLs.of_all {H : Hp} : ∀ {xs : List V}, (∀ x ∈ xs, ThreeF H x none) → ∃ (as : List Addr) (ts : List Three), xs = refs as ∧ TLs H as ts ∧ ∀ x ∈ ts, x.ok
  | [], _ => ⟨[], [], rfl, .nil, fun x m => by simp at m⟩
  | v :: xs, h => by
    obtain ⟨as, ts, rfl, h2, h3⟩ := TLs.of_all fun x m => h x (List.mem_cons_of_mem _ m)
    obtain ⟨a, x, rfl, h4, h5⟩ := three_none.mp (h v (List.mem_cons_self ..))
    refine ⟨a :: as, x :: ts, rfl, .cons h4 h2, fun y m => ?_⟩
    rcases List.mem_cons.mp m with rfl | m
    · exact h5
    · exact h3 y m
theorem TLs.all_of {H : Hp} {as : List Addr} {ts : List Three} (h : TLs H as ts) (ok : ∀ x ∈ ts, x.ok) : ∀ v ∈ refs as, ThreeF H v none := by
  induction h with
  | nil => intro v m; simp [refs] at m
  | @cons a t as ts h1 _ ih =>
    intro v m
    rcases List.mem_cons.mp (show v ∈ V.ref a :: refs as from m) with rfl | m
    · exact three_none.mpr ⟨a, t, rfl, h1, ok t (List.mem_cons_self ..)⟩
    · exact ih (fun x hx => ok x (List.mem_cons_of_mem _ hx)) v m
theorem ThreeF.tv {H : Hp} {v : V} (h : ThreeF H v none) : ∃ T, TV H v T := by
  obtain ⟨a, x, rfl, h1, _⟩ := three_none.mp h
  exact ⟨_, .tup h1⟩
theorem worths_none {H : Hp} {v : V} {m : Nat} : WorthsF H v m none ↔ ∃ (t : Addr) (ts : List Three), v = .ref t ∧ WsAt H t m ts := by
  constructor
  · intro h
    rcases h with ⟨_, e⟩ | ⟨t, xs, rfl, h1, h2, _, ⟨h4, _⟩ | ⟨_, _, _, _, _, _, _, e⟩⟩
    · cases e
    · obtain ⟨as, ts, rfl, h5, h6⟩ := TLs.of_all h4
      refine ⟨t, ts, rfl, ?_, h6, as, h1, h5⟩
      rw [← h5.len, ← h2]
      exact (List.length_map _).symm
    · cases e
  · rintro ⟨t, ts, rfl, hl, ok, as, h1, h2⟩
    have h3 := h2.all_of ok
    refine .inr ⟨t, _, rfl, h1, ?_, fun x m => (h3 x m).tv, .inl ⟨h3, rfl⟩⟩
    rw [← hl, ← h2.len]
    exact List.length_map _
def TellsF (H : Hp) (Q : VK) (r : Option (List Nat)) : Prop := (r = none → ∀ H', Same H H' → Q .non H') ∧ ∀ l, r = some l → ∀ (H' : Hp) (p : Addr), Same H H' → H' p = some (.tup (nats l)) → Q (.ref p) H'
def spTh : Sp := fun vs H Q _ => ∃ (v : V) (T : String) (r : Option (List Nat)), vs = [v] ∧ TV H v T ∧ ThreeF H v r ∧ TellsF H Q r
def spWX : Sp := fun vs H Q _ => ∃ (v : V) (T : String) (n : Nat) (r : Option (List Nat)), vs = [v, .int (n : Nat)] ∧ TV H v T ∧ WorthsF H v n r ∧ TellsF H Q r
section
variable {P : Program} {w : World} {K : PySem.W.Frag} {mg : Str → Option Value} {base : Heap}
theorem ok_th {f fN : Addr} {fd fdN : FuncData} (F : Fun K "three_fault" "three_fault" sTh f fd) (T : TB mg) (w3 : ∃ t, mg "MANY_WAYS" = some (.int 3 t)) (ww : ∃ t, mg "MOST_WORTH" = some (.int 1000000000000000000000000000000 t)) (N : Cal K mg "is_number" fN fdN ["thing"])
    (GN : FnOk P w K mg base CX0 1 fN fdN ["thing"] spIsNum) : FnOk P w K mg base CX0 2 f fd ["thing"] spTh := by
  refine F.ok scTh (fun vs H Q E h => ?_) (fun cdv A outer s H vs Q E hr h => ?_)
  · obtain ⟨v, Tt, r, rfl, _⟩ := h
    rfl
  · obtain ⟨v, Tt, r, rfl, hv, hF, kn, ks⟩ := h
    have nd := scTh.nd
    have hr1 : Room 1 _ := hr
    obtain ⟨u3, ht3⟩ := w3
    obtain ⟨uw, htw⟩ := ww
    refine ⟨_, pss_cons (ps_if (PW.pt (pw_or (pt_not (pt_val (pe_callB call_isi (by rfl) T.isinstance boot_isinstance (pa_cons (pv 0) (pa_cons (pe_bltn (v := .ty "tuple") (by rfl) T.tuple boot_tuple rfl) pa_nil))))) (pw_or1 (pt_cmpR op_ne (pe_callB call_len_seq (by rfl) T.len PySem.boot_len (pa_cons (pv 0) pa_nil)) (pe_glob (v := .int 3) rfl ht3 ⟨_, rfl⟩) (nomark _))))) (pss_one (ps_ret (pe_tup pa_nil))) pss_nil)
      (pss_cons (ps_for PassesOwn.never rfl (pi_enumT (by rfl) T.enumerate (pa_cons (pv 0) pa_nil)) (pg_tup rfl (pgs_cons (pg_name (i := 1) nd rfl (Or.inl rfl)) (pgs_cons (pg_name (i := 2) nd rfl (Or.inl rfl)) pgs_nil)))
        (pss_one (ps_if (PW.pt (pw_or (pt_not (pt_val (pe_call GN hr1 rfl N.g N.kp N.b .nil pass0 (pa_cons (pv 2) pa_nil)))) (pw_or1 (pt_not (pt_chain op_le op_le (pe_un un_neg (pe_glob (v := .int 1000000000000000000000000000000) rfl htw ⟨_, rfl⟩)) (pv 2) (pe_glob (v := .int 1000000000000000000000000000000) rfl htw ⟨_, rfl⟩)))))) (pss_one (ps_ret (pe_tup (pa_cons (pv 1) pa_nil)))) pss_nil)))
      (pss_one (ps_ret pe_non))), ?_⟩
    refine ⟨_, rfl, _, _, _, _, _, rfl, .ty _, hv.tyx, hv.kTup, _, rfl, ?_⟩
    rcases hF with ⟨hno, rfl⟩ | ⟨t, xs, rfl, ht, hl, hx, hrest⟩
    · have k := ks [] rfl
      cases hT : isTup Tt with
      | false => exact iteT (iteT ⟨Nat.zero_le _, fun p hp => k _ p (Same.new hp) upd_same⟩)
      | true =>
        obtain ⟨t, xs, rfl, ht⟩ := hv.notTup hT
        have hne := hno t xs rfl ht
        refine iteF ⟨_, rfl, t, _, rfl, .inr (SqT.of ht), rfl, _, rfl, ?_⟩
        have e : decide (V.int (xs.length : Nat) = V.int 3) = false := decide_eq_false fun z => hne (by
          have := V.int.inj z
          omega)
        rw [e]
        exact iteT ⟨Nat.zero_le _, fun p hp => k _ p (Same.new hp) upd_same⟩
    · rw [hv.isTupOf ht]
      refine iteF ⟨_, rfl, t, _, rfl, .inr (SqT.of ht), rfl, _, rfl, ?_⟩
      have e : decide (V.int (xs.length : Nat) = V.int 3) = true := decide_eq_true (by rw [hl]; rfl)
      rw [e]
      refine iteF ?_
      refine ⟨_, rfl, t, _, rfl, SqT.of ht, for_it (walk_enumT (K := K) (a := t) (xs := xs)) (fun i σ H2 => ∃ v3 v4 : Option V, σ = [some (.ref t), v3, v4] ∧ Same H H2 ∧ (xs.take i).all okWo = true) ⟨none, none, rfl, Same.refl H, rfl⟩ (fun i σ H2 _ ⟨_, _, _, s', _⟩ => SqT.of (s' _ _ ht)) ?_ ?_⟩
      · rintro i x σ H2 H3 hi ⟨v3, v4, rfl, s2, a2⟩ ⟨q, x', y', rfl, hq, rfl, ex, ey⟩
        cases ex
        have ey : xs[i]? = some y' := ey
        have s3 := Same.new (o := .tup [V.int (i : Nat), y']) hq
        have sA := s2.trans s3
        obtain ⟨Ty, hy⟩ := hx y' (List.mem_of_getElem? ey)
        refine ⟨q, _, rfl, SqT.of upd_same, rfl, _, _, rfl, _, _, rfl, rfl, ?_⟩
        generalize upd H2 q (.tup [V.int (i : Nat), y']) = H3 at sA
        have a3 : okWo y' = true → (xs.take (i + 1)).all okWo = true := fun h => by
          rw [List.take_succ, ey, Option.toList_some, List.all_append, a2]
          show (true && (okWo y' && true)) = true
          rw [h]
          rfl
        have bad : okWo y' = false → ∀ (p : Addr), H3 p = none → Q (.ref p) (upd H3 p (.tup [V.int (i : Nat)])) := fun hb p hp => by
          rcases hrest with ⟨ha, _⟩ | ⟨j, y, e1, e2, e3, rfl⟩
          · have := List.all_eq_true.mp ha y' (List.mem_of_getElem? ey)
            rw [hb] at this
            cases this
          · have ij : i = j := same_first ey hb a2 e1 e2 e3
            subst ij
            exact ks [i] rfl _ p (sA.trans (Same.new hp)) upd_same
        refine ⟨_, rfl, y', Ty, rfl, hy.mono sA, _, rfl, ?_⟩
        cases hI : isI y' with
        | false =>
          refine iteT (iteT ⟨_, rfl, (by show 1 ≤ sizeLine; decide), fun p hp => bad ?_ p hp⟩)
          cases y' with
          | int j => cases hI
          | _ => rfl
        | true =>
          obtain ⟨z, rfl⟩ : ∃ z, y' = .int z := by
            cases y' with
            | int j => exact ⟨j, rfl⟩
            | _ => cases hI
          refine iteF ⟨_, rfl, _, rfl, _, _, rfl, rfl, _, rfl, ?_⟩
          cases h1 : decide (-1000000000000000000000000000000 ≤ z) with
          | false =>
            rw [if_neg (by decide)]
            refine ⟨_, rfl, iteT ⟨_, rfl, (by show 1 ≤ sizeLine; decide), fun p hp => bad ?_ p hp⟩⟩
            show (decide (-1000000000000000000000000000000 ≤ z) && decide (z ≤ 1000000000000000000000000000000)) = false
            rw [h1]
            rfl
          | true =>
            rw [if_pos rfl]
            refine ⟨_, _, rfl, rfl, _, rfl, ?_⟩
            cases h2 : decide (z ≤ 1000000000000000000000000000000) with
            | false =>
              refine iteT ⟨_, rfl, (by show 1 ≤ sizeLine; decide), fun p hp => bad ?_ p hp⟩
              show (decide (-1000000000000000000000000000000 ≤ z) && decide (z ≤ 1000000000000000000000000000000)) = false
              rw [h2, Bool.and_false]
            | true =>
              refine iteF ⟨_, _, rfl, sA, a3 ?_⟩
              show (decide (-1000000000000000000000000000000 ≤ z) && decide (z ≤ 1000000000000000000000000000000)) = true
              rw [h1, h2]
              rfl
      · rintro σ H2 ⟨v3, v4, rfl, s2, a2⟩
        rw [List.take_length] at a2
        refine kn ?_ _ s2
        rcases hrest with ⟨_, e⟩ | ⟨j, y, e1, e2, e3, rfl⟩
        · exact e
        · have := List.all_eq_true.mp a2 y (List.mem_of_getElem? e1)
          rw [e2] at this
          cases this
theorem ok_wx {f fN : Addr} {fd fdN : FuncData} (F : Fun K "worths_fault" "worths_fault" sWF f fd) (T : TB mg) (N : Cal K mg "three_fault" fN fdN ["thing"])
    (GN : FnOk P w K mg base CX0 2 fN fdN ["thing"] spTh) : FnOk P w K mg base CX0 3 f fd ["thing", "many"] spWX := by
  refine F.ok scWF (fun vs H Q E h => ?_) (fun cdv A outer s H vs Q E hr h => ?_)
  · obtain ⟨v, Tt, n, r, rfl, _⟩ := h
    rfl
  · obtain ⟨v, Tt, n, r, rfl, hv, hF, kn, ks⟩ := h
    have nd := scWF.nd
    have hr2 : Room 2 _ := hr
    refine ⟨_, pss_cons (ps_if (PW.pt (pw_or (pt_not (pt_val (pe_callB call_isi (by rfl) T.isinstance boot_isinstance (pa_cons (pv 0) (pa_cons (pe_bltn (v := .ty "tuple") (by rfl) T.tuple boot_tuple rfl) pa_nil))))) (pw_or1 (pt_cmpR op_ne (pe_callB call_len_seq (by rfl) T.len PySem.boot_len (pa_cons (pv 0) pa_nil)) (pv 1) (nomark _))))) (pss_one (ps_ret (pe_tup pa_nil))) pss_nil)
      (pss_cons (ps_for PassesOwn.never rfl (pi_enumT (by rfl) T.enumerate (pa_cons (pv 0) pa_nil)) (pg_tup rfl (pgs_cons (pg_name (i := 2) nd rfl (Or.inl rfl)) (pgs_cons (pg_name (i := 3) nd rfl (Or.inl rfl)) pgs_nil)))
        (pss_cons (ps_set (i := 4) nd rfl (Or.inl rfl) (pe_call GN hr2 rfl N.g N.kp N.b .nil pass0 (pa_cons (pv 3) pa_nil)))
        (pss_one (ps_if (pt_cmpR op_notN (pv 4) pe_non (nomark _)) (pss_one (ps_ret (pe_op op_catT (pe_tup (pa_cons (pv 2) pa_nil)) (pv 4)))) pss_nil))))
      (pss_one (ps_ret pe_non))), ?_⟩
    refine ⟨_, rfl, _, _, _, _, _, rfl, .ty _, hv.tyx, hv.kTup, _, rfl, ?_⟩
    rcases hF with ⟨hno, rfl⟩ | ⟨t, xs, rfl, ht, hl, hx, hrest⟩
    · have k := ks [] rfl
      cases hT : isTup Tt with
      | false => exact iteT (iteT ⟨Nat.zero_le _, fun p hp => k _ p (Same.new hp) upd_same⟩)
      | true =>
        obtain ⟨t, xs, rfl, ht⟩ := hv.notTup hT
        have hne := hno t xs rfl ht
        refine iteF ⟨_, rfl, t, _, rfl, .inr (SqT.of ht), _, rfl, rfl, _, rfl, ?_⟩
        have e : decide (V.int (xs.length : Nat) = V.int (n : Nat)) = false := decide_eq_false fun z => hne (by
          have := V.int.inj z
          omega)
        rw [e]
        exact iteT ⟨Nat.zero_le _, fun p hp => k _ p (Same.new hp) upd_same⟩
    · rw [hv.isTupOf ht]
      refine iteF ⟨_, rfl, t, _, rfl, .inr (SqT.of ht), _, rfl, rfl, _, rfl, ?_⟩
      have e : decide (V.int (xs.length : Nat) = V.int (n : Nat)) = true := decide_eq_true (by rw [hl])
      rw [e]
      refine iteF ?_
      refine ⟨_, rfl, t, _, rfl, SqT.of ht, for_it (walk_enumT (K := K) (a := t) (xs := xs)) (fun i σ H2 => ∃ v3 v4 v5 : Option V, σ = [some (.ref t), some (.int (n : Nat)), v3, v4, v5] ∧ Same H H2 ∧ ∀ z ∈ xs.take i, ThreeF H z none) ⟨none, none, none, rfl, Same.refl H, fun z m => by simp at m⟩ (fun i σ H2 _ ⟨_, _, _, _, s', _⟩ => SqT.of (s' _ _ ht)) ?_ ?_⟩
      · rintro i x σ H2 H3 hi ⟨v3, v4, v5, rfl, s2, a2⟩ ⟨q, x', y', rfl, hq, rfl, ex, ey⟩
        cases ex
        have ey : xs[i]? = some y' := ey
        have s3 := Same.new (o := .tup [V.int (i : Nat), y']) hq
        have sA := s2.trans s3
        obtain ⟨Ty, hy⟩ := hx y' (List.mem_of_getElem? ey)
        refine ⟨q, _, rfl, SqT.of upd_same, rfl, _, _, rfl, _, _, rfl, rfl, ?_⟩
        generalize upd H2 q (.tup [V.int (i : Nat), y']) = H3 at sA
        -- what is told of this one
        have hcase : ThreeF H y' none ∨ ∃ l, ThreeF H y' (some l) ∧ l.length ≤ 1 ∧ r = some (i :: l) := by
          rcases hrest with ⟨ha, _⟩ | ⟨j, y, l, e1, e2, e3, e4, e5⟩
          · exact .inl (ha y' (List.mem_of_getElem? ey))
          · rcases Nat.lt_trichotomy i j with h | h | h
            · exact .inl (e3 y' (List.mem_of_getElem? (take_get h ey)))
            · subst h
              cases ey.symm.trans e1
              exact .inr ⟨l, e2, e4, e5⟩
            · exact absurd (a2 y (List.mem_of_getElem? (take_get h e1))) (SeqF.not e2)
        rcases hcase with h0 | ⟨l, h1, hl1, rfl⟩
        · refine ⟨_, rfl, y', Ty, none, rfl, hy.mono sA, SeqF.mono hy h0 (Same.toN sA), fun _ H4 s4 => ?_, fun l z => by cases z⟩
          refine ⟨_, rfl, rfl, _, rfl, iteF ⟨_, _, _, rfl, sA.trans s4, fun z m => ?_⟩⟩
          rw [List.take_succ, ey, Option.toList_some, List.mem_append, List.mem_singleton] at m
          rcases m with m | rfl
          · exact a2 z m
          · exact h0
        · refine ⟨_, rfl, y', Ty, some l, rfl, hy.mono sA, SeqF.mono hy h1 (Same.toN sA), (fun z => by cases z), fun l' z H4 p s4 hp => ?_⟩
          cases z
          refine ⟨_, rfl, rfl, _, rfl, iteT ⟨_, rfl, (by show 1 ≤ sizeLine; decide), fun c hc => ?_⟩⟩
          have sc := Same.new (o := .tup [V.int (i : Nat)]) hc
          have sB := (sA.trans s4).trans sc
          refine ⟨_, rfl, _, _, _, _, rfl, rfl, SqT.of upd_same, SqT.of (sc _ _ hp), by simp, ?_, fun e => ?_, fun e d hd => ?_⟩
          · have : (nats l).length ≤ 1 := by
              show (l.map _).length ≤ 1
              rw [List.length_map]
              exact hl1
            show 1 + (nats l).length ≤ sizeLine
            exact Nat.le_trans (by omega : 1 + (nats l).length ≤ 2) (by decide)
          · have : l = [] := List.map_eq_nil_iff.mp e
            subst this
            exact ks [i] rfl _ c sB upd_same
          · exact ks (i :: l) rfl _ d (sB.trans (Same.new hd)) upd_same
      · rintro σ H2 ⟨v3, v4, v5, rfl, s2, a2⟩
        rw [List.take_length] at a2
        refine kn ?_ _ s2
        rcases hrest with ⟨_, e⟩ | ⟨j, y, l, e1, e2, e3, _, rfl⟩
        · exact e
        · exact absurd (a2 y (List.mem_of_getElem? e1)) (SeqF.not e2)
end
end One
end P_QA

section P_QB
set_option linter.all false
set_option maxRecDepth 100000
set_option maxHeartbeats 8000000
namespace One
open PySem PySem.Spec PyProof.Rows L2
abbrev sWy : Stmt := top 40
abbrev nWy : List Str := ["thing", "many", "is_draft", "number", "way"]
theorem scWy : FnScope nWy ["thing", "many", "is_draft"] (defScope sWy) := ⟨rfl, rfl, rfl, by decide +kernel, rfl, by decide +kernel, by decide +kernel⟩
/-- a way, or, of a draft, none -/
def okW (isd : Bool) (v : V) : Bool := belowV v 3 || (isd && decide (v = .non))
theorem ways_of {isd : Bool} {n : Nat} {H : Hp} {v : V} {r : Option (List Nat)} {Q : VK} (h : SeqF (okW isd) n H v r) (k : TellsF H Q r) :
    ((∀ t xs, v = .ref t → H t = some (.tup xs) → xs.length ≠ n) ∧ ∀ (H' : Hp) (p : Addr), Same H H' → H' p = some (.tup []) → Q (.ref p) H') ∨
   ∃ (t : Addr) (xs : List V), v = .ref t ∧ H t = some (.tup xs) ∧ xs.length = n ∧ (∀ x ∈ xs, ∃ T, TV H x T) ∧ (xs.all (okW isd) = true → ∀ H', Same H H' → Q .non H') ∧
     ∀ (i : Nat) (x : V), xs[i]? = some x → okW isd x = false → (xs.take i).all (okW isd) = true → ∀ (H' : Hp) (p : Addr), Same H H' → H' p = some (.tup [.int (i : Nat)]) → Q (.ref p) H' := by
  rcases h with ⟨h, rfl⟩ | ⟨a, ys, rfl, h1, h2, h3, h4⟩
  · exact .inl ⟨h, k.2 [] rfl⟩
  · refine .inr ⟨a, ys, rfl, h1, h2, h3, fun hall => ?_, fun i x hx hb ha => ?_⟩
    · rcases h4 with ⟨_, e⟩ | ⟨i, y, e1, e2, _, _⟩
      · exact k.1 e
      · have := List.all_eq_true.mp hall y (List.mem_of_getElem? e1)
        rw [e2] at this
        cases this
    · rcases h4 with ⟨e, _⟩ | ⟨j, y, e1, e2, e3, e4⟩
      · have := List.all_eq_true.mp e x (List.mem_of_getElem? hx)
        rw [hb] at this
        cases this
      · have := same_first hx hb ha e1 e2 e3
        subst this
        exact k.2 [i] e4
def spWays : Sp := fun vs H Q _ => ∃ (v : V) (T : String) (n : Nat) (isd : Bool) (r : Option (List Nat)), vs = [v, .int (n : Nat), .bl isd] ∧ TV H v T ∧ SeqF (okW isd) n H v r ∧ TellsF H Q r
section
variable {P : Program} {w : World} {K : PySem.W.Frag} {mg : Str → Option Value} {base : Heap}
theorem ok_ways {f fB : Addr} {fd fdB : FuncData} (F : Fun K "ways_fault" "ways_fault" sWy f fd) (T : TB mg) (w3 : ∃ t, mg "MANY_WAYS" = some (.int 3 t)) (B : Cal K mg "is_below" fB fdB ["thing", "many"]) (GB : FnOk P w K mg base CX0 2 fB fdB ["thing", "many"] spIsBelow) :
    FnOk P w K mg base CX0 3 f fd ["thing", "many", "is_draft"] spWays := by
  refine F.ok scWy (fun vs H Q E h => ?_) (fun cdv A outer s H vs Q E hr h => ?_)
  · obtain ⟨v, Tt, n, isd, r, rfl, _⟩ := h
    rfl
  · obtain ⟨v, Tt, n, isd, r, rfl, hv, hF, hQ⟩ := h
    have hc := ways_of hF hQ
    have nd := scWy.nd
    have hr2 : Room 2 _ := hr
    obtain ⟨u3, ht3⟩ := w3
    refine ⟨_, pss_cons (ps_if (PW.pt (pw_or (pt_not (pt_val (pe_callB call_isi (by rfl) T.isinstance boot_isinstance (pa_cons (pv 0) (pa_cons (pe_bltn (v := .ty "tuple") (by rfl) T.tuple boot_tuple rfl) pa_nil))))) (pw_or1 (pt_cmpR op_ne (pe_callB call_len_seq (by rfl) T.len PySem.boot_len (pa_cons (pv 0) pa_nil)) (pv 1) (nomark _))))) (pss_one (ps_ret (pe_tup pa_nil))) pss_nil)
      (pss_cons (ps_for PassesOwn.never rfl (pi_enumT (by rfl) T.enumerate (pa_cons (pv 0) pa_nil)) (pg_tup rfl (pgs_cons (pg_name (i := 3) nd rfl (Or.inl rfl)) (pgs_cons (pg_name (i := 4) nd rfl (Or.inl rfl)) pgs_nil)))
        (pss_one (ps_if (PW.pt (pw_and (pt_not (pt_val (pe_call GB hr2 rfl B.g B.kp B.b .nil pass0 (pa_cons (pv 4) (pa_cons (pe_glob (v := .int 3) rfl ht3 ⟨_, rfl⟩) pa_nil))))) (pw_and1 (pt_not (PW.pt (pw_and (pt_val (pv 2)) (pw_and1 (pt_cmpR op_isN (pv 4) pe_non (nomark _))))))))) (pss_one (ps_ret (pe_tup (pa_cons (pv 3) pa_nil)))) pss_nil)))
      (pss_one (ps_ret pe_non))), ?_⟩
    refine ⟨_, rfl, _, _, _, _, _, rfl, .ty _, hv.tyx, hv.kTup, _, rfl, ?_⟩
    rcases hc with ⟨hno, k⟩ | ⟨t, xs, rfl, ht, hl, hx, kgood, kbad⟩
    · cases hT : isTup Tt with
      | false => exact iteT (iteT ⟨Nat.zero_le _, fun p hp => k _ p (Same.new hp) upd_same⟩)
      | true =>
        obtain ⟨t, xs, rfl, ht⟩ : ∃ t xs, v = .ref t ∧ H t = some (.tup xs) := by
          cases hv with
          | @tup a xs e => exact ⟨a, xs, rfl, e⟩
          | non => exact absurd hT (by decide)
          | bl b => exact absurd hT (by decide)
          | int i => exact absurd hT (by decide)
          | str x => exact absurd hT (by decide)
          | lst e => exact absurd hT (by decide)
          | dct e => exact absurd hT (by decide)
        have hne := hno t xs rfl ht
        refine iteF ⟨_, rfl, t, _, rfl, .inr (SqT.of ht), _, rfl, rfl, _, rfl, ?_⟩
        have e : decide (V.int (xs.length : Nat) = V.int (n : Nat)) = false := decide_eq_false fun z => hne (by
          have := V.int.inj z
          omega)
        rw [e]
        exact iteT ⟨Nat.zero_le _, fun p hp => k _ p (Same.new hp) upd_same⟩
    · have eT : isTup Tt = true := by
        cases hv with
        | tup e => rfl
        | lst e => cases ht.symm.trans e
        | dct e => cases ht.symm.trans e
      rw [eT]
      refine iteF ⟨_, rfl, t, _, rfl, .inr (SqT.of ht), _, rfl, rfl, _, rfl, ?_⟩
      have e : decide (V.int (xs.length : Nat) = V.int (n : Nat)) = true := decide_eq_true (by rw [hl])
      rw [e]
      refine iteF ?_
      refine ⟨_, rfl, t, _, rfl, SqT.of ht, for_it (walk_enumT (K := K) (a := t) (xs := xs)) (fun i σ H2 => ∃ v3 v4 : Option V, σ = [some (.ref t), some (.int (n : Nat)), some (.bl isd), v3, v4] ∧ Same H H2 ∧ (xs.take i).all (okW isd) = true) ⟨none, none, rfl, Same.refl H, rfl⟩ (fun i σ H2 _ ⟨_, _, _, s', _⟩ => SqT.of (s' _ _ ht)) ?_ ?_⟩
      · rintro i x σ H2 H3 hi ⟨v3, v4, rfl, s2, a2⟩ ⟨q, x', y', rfl, hq, rfl, ex, ey⟩
        cases ex
        have ey : xs[i]? = some y' := ey
        have s3 := Same.new (o := .tup [V.int (i : Nat), y']) hq
        have sA := s2.trans s3
        obtain ⟨Ty, hy⟩ := hx y' (List.mem_of_getElem? ey)
        refine ⟨q, _, rfl, SqT.of upd_same, rfl, _, _, rfl, _, _, rfl, rfl, ?_⟩
        generalize upd H2 q (.tup [V.int (i : Nat), y']) = H3 at sA
        have a3 : okW isd y' = true → (xs.take (i + 1)).all (okW isd) = true := fun h => by
          rw [List.take_succ, ey, Option.toList_some, List.all_append, a2]
          show (true && (okW isd y' && true)) = true
          rw [h]
          rfl
        refine ⟨_, rfl, y', 3, Ty, rfl, hy.mono sA, _, rfl, ?_⟩
        cases hb : belowV y' 3 with
        | true =>
          refine iteF (iteF ?_)
          exact ⟨_, _, rfl, sA, a3 (by unfold okW; rw [hb]; rfl)⟩
        | false =>
          refine iteT ⟨_, rfl, isd, rfl, ?_⟩
          cases hd : isd with
          | false =>
            refine iteF (iteT ?_)
            subst hd
            refine ⟨_, rfl, (by show 1 ≤ sizeLine; decide), fun p hp => kbad i y' ey ?_ a2 _ p (sA.trans (Same.new hp)) upd_same⟩
            unfold okW
            rw [hb]
            rfl
          | true =>
            subst hd
            refine iteT ⟨_, rfl, rfl, _, rfl, ?_⟩
            cases hn : decide (y' = V.non) with
            | true =>
              refine iteF ?_
              exact ⟨_, _, rfl, sA, a3 (by unfold okW; rw [hb, hn]; rfl)⟩
            | false =>
              refine iteT ?_
              refine ⟨_, rfl, (by show 1 ≤ sizeLine; decide), fun p hp => kbad i y' ey ?_ a2 _ p (sA.trans (Same.new hp)) upd_same⟩
              unfold okW
              rw [hb, hn]
              rfl
      · rintro σ H2 ⟨v3, v4, rfl, s2, a2⟩
        rw [List.take_length] at a2
        exact kgood a2 _ s2
end
def RWrong (C : Addr) (E : XK) (H : Hp) (ns : List Nat) : Prop := ∀ (H' : Hp) (p d : Addr), Same H H' → H' p = some (.tup (nats ns)) → H' d = some (.xd [("place", .ref p)]) → E (.ref C) (some d) H'
/-- let by, or refused -/
def LookR (C : Addr) (H : Hp) (r : Option (List Nat)) (Q : Hp → Prop) (E : XK) : Prop := (r = none → ∀ H', Same H H' → Q H') ∧ ∀ l, r = some l → RWrong C E H l
theorem LookR.to {C : Addr} {H H1 : Hp} {r : Option (List Nat)} {Q : Hp → Prop} {E : XK} (h : LookR C H r Q E) (s : Same H H1) : LookR C H1 r Q E := ⟨fun e H' s' => h.1 e H' (s.trans s'), fun l e H' p d s' => h.2 l e H' p d (s.trans s')⟩
def spNS (CS : Addr) : Sp := fun vs H Q E => ∃ (y : Addr) (v : V) (T : String) (m : Nat) (ps : List (Nat × Nat)) (r : Option (List Nat)), vs = [.ref y, v] ∧ YAt H y m ps ∧ m ≤ 40 ∧ TV H v T ∧ SeqF (okW false) m H v r ∧ LookR CS H r (fun H' => Q v H') E
def spNW (CW : Addr) : Sp := fun vs H Q E => ∃ (y : Addr) (v : V) (T : String) (m : Nat) (ps : List (Nat × Nat)) (r : Option (List Nat)), vs = [.ref y, v] ∧ YAt H y m ps ∧ m ≤ 40 ∧ TV H v T ∧ WorthsF H v m r ∧ LookR CW H r (fun H' => Q v H') E
theorem SeqF.small {ok : V → Bool} {n : Nat} {H : Hp} {v : V} {l : List Nat} (h : SeqF ok n H v (some l)) (hn : n ≤ 40) : l.length ≤ 1 ∧ ∀ x ∈ l, x < 1000 := by
  rcases h with ⟨_, e⟩ | ⟨a, ys, rfl, h1, h2, h3, ⟨_, e⟩ | ⟨i, y, e1, e2, e3, e⟩⟩
  · cases e
    exact ⟨Nat.zero_le _, fun x h => by simp at h⟩
  · cases e
  · cases e
    have hi := (List.getElem?_eq_some_iff.mp e1).1
    refine ⟨Nat.le_refl 1, fun x h => ?_⟩
    rw [List.mem_singleton.mp h]
    omega
theorem WorthsF.small {n : Nat} {H : Hp} {v : V} {l : List Nat} (h : WorthsF H v n (some l)) (hn : n ≤ 40) : l.length ≤ 2 ∧ ∀ x ∈ l, x < 1000 := by
  rcases h with ⟨_, e⟩ | ⟨a, ys, rfl, h1, h2, h3, ⟨_, e⟩ | ⟨i, y, l', e1, e2, e3, e4, e⟩⟩
  · cases e
    exact ⟨Nat.zero_le _, fun x h => by simp at h⟩
  · cases e
  · cases e
    have hi := (List.getElem?_eq_some_iff.mp e1).1
    obtain ⟨k1, k2⟩ := SeqF.small e2 (by decide)
    refine ⟨by rw [List.length_cons]; omega, fun x h => ?_⟩
    rcases List.mem_cons.mp h with rfl | h
    · omega
    · exact k2 x h
abbrev sNS : Stmt := top 39
abbrev sNW : Stmt := top 43
abbrev nNS : List Str := ["yard", "thing", "place"]
theorem scNS : FnScope nNS ["yard", "thing"] (defScope sNS) := ⟨rfl, rfl, rfl, by decide +kernel, rfl, by decide +kernel, by decide +kernel⟩
theorem scNW : FnScope nNS ["yard", "thing"] (defScope sNW) := ⟨rfl, rfl, rfl, by decide +kernel, rfl, by decide +kernel, by decide +kernel⟩
section
variable {P : Program} {w : World} {K : PySem.W.Frag} {mg : Str → Option Value} {base : Heap} {C0 CS CW f3 f1 : Addr} {x3 x1 : Stmt}
theorem ok_ns {f fW fC : Addr} {fd fdW fdC : FuncData} (F : Fun K "need_setting" "need_setting" sNS f fd) (T3 : OwnTxt P K x3 "place" CS f3) (O3 : OwnCls K mg "BadSetting" CS f3) (noS : mg "super" = none) (Fa : Cal K mg "ways_fault" fW fdW ["thing", "many", "is_draft"]) (GF : FnOk P w K mg base CX0 3 fW fdW ["thing", "many", "is_draft"] spWays)
    (C : Cal K mg "crossings" fC fdC ["yard"]) (GC : FnOk P w K mg base (L2.CX P w) 6 fC fdC ["yard"] (spCross C0)) : FnOk P w K mg base (L2.CX P w) 7 f fd ["yard", "thing"] (spNS CS) := by
  refine F.okX scNS (fun vs H Q E h => ?_) (fun cdv A outer s H vs Q E hr h => ?_)
  · obtain ⟨y, v, T, m, ps, r, rfl, _⟩ := h
    rfl
  · obtain ⟨y, v, Tv, m, ps, r, rfl, hY, h40, hv, hF, hl⟩ := h
    have nd := scNS.nd
    have hr6 : Room 6 _ := hr
    have hr3 : Room 3 _ := hr.mono (by decide)
    refine ⟨_, pss_cons (ps_set (i := 2) nd rfl (Or.inl rfl) (pe_call GF hr3 rfl Fa.g Fa.kp Fa.b .nil pass0 (pa_cons (pv 1) (pa_cons (pe_call GC hr6 rfl C.g C.kp C.b .nil passL (pa_cons (pv 0) pa_nil)) (pa_cons pe_bl pa_nil)))))
      (pss_cons (ps_if (pt_cmpR op_notN (pv 2) pe_non (nomark _)) (pss_one (ps_raiseX rfl (Or.inl rfl) T3 O3 noS hr (takes_of rfl rfl rfl rfl) (pa_cons (pv 2) pa_nil) (by rfl))) pss_nil)
      (pss_one (ps_ret (pv 1)))), ?_⟩
    obtain ⟨Y, as, ht, hP⟩ := id hY
    have hlen : (refs as).length = 2 * m := by rw [List.length_map, hP.len, Y.lines.len]
    refine ⟨_, rfl, _, rfl, _, rfl, ?_⟩
    unfold tNil
    refine fault_good hY h40 fun H1 s1 => .inl ⟨rfl, y, refs as, rfl, s1 _ _ ht, ?_⟩
    rw [show (refs as).length / 2 = m by omega]
    refine ⟨v, Tv, m, false, r, rfl, hv.mono s1, hF.mono hv (Same.toN s1), fun e H2 s2 => ?_, fun l e H2 p s2 hp => ?_⟩
    · exact ⟨_, rfl, rfl, _, rfl, iteF ⟨_, rfl, hl.1 e _ (s1.trans s2)⟩⟩
    · subst e
      obtain ⟨q1, q2⟩ := hF.small h40
      exact ⟨_, rfl, rfl, _, rfl, iteT ⟨_, rfl, _, rfl, .tup l (SqT.of hp) (by omega) q2, fun d hd => hl.2 l rfl _ p d ((s1.trans s2).trans (Same.new hd)) ((Same.new hd) _ _ hp) upd_same⟩⟩
theorem ok_nw {f fW fC : Addr} {fd fdW fdC : FuncData} (F : Fun K "need_worths" "need_worths" sNW f fd) (T1 : OwnTxt P K x1 "place" CW f1) (O1 : OwnCls K mg "BadWorths" CW f1) (noS : mg "super" = none) (Fa : Cal K mg "worths_fault" fW fdW ["thing", "many"]) (GF : FnOk P w K mg base CX0 3 fW fdW ["thing", "many"] spWX)
    (C : Cal K mg "crossings" fC fdC ["yard"]) (GC : FnOk P w K mg base (L2.CX P w) 6 fC fdC ["yard"] (spCross C0)) : FnOk P w K mg base (L2.CX P w) 7 f fd ["yard", "thing"] (spNW CW) := by
  refine F.okX scNW (fun vs H Q E h => ?_) (fun cdv A outer s H vs Q E hr h => ?_)
  · obtain ⟨y, v, T, m, ps, r, rfl, _⟩ := h
    rfl
  · obtain ⟨y, v, Tv, m, ps, r, rfl, hY, h40, hv, hF, hl⟩ := h
    have nd := scNW.nd
    have hr6 : Room 6 _ := hr
    have hr3 : Room 3 _ := hr.mono (by decide)
    refine ⟨_, pss_cons (ps_set (i := 2) nd rfl (Or.inl rfl) (pe_call GF hr3 rfl Fa.g Fa.kp Fa.b .nil pass0 (pa_cons (pv 1) (pa_cons (pe_call GC hr6 rfl C.g C.kp C.b .nil passL (pa_cons (pv 0) pa_nil)) pa_nil))))
      (pss_cons (ps_if (pt_cmpR op_notN (pv 2) pe_non (nomark _)) (pss_one (ps_raiseX rfl (Or.inl rfl) T1 O1 noS hr (takes_of rfl rfl rfl rfl) (pa_cons (pv 2) pa_nil) (by rfl))) pss_nil)
      (pss_one (ps_ret (pv 1)))), ?_⟩
    obtain ⟨Y, as, ht, hP⟩ := id hY
    have hlen : (refs as).length = 2 * m := by rw [List.length_map, hP.len, Y.lines.len]
    refine ⟨_, rfl, _, rfl, _, rfl, ?_⟩
    unfold tNil
    refine fault_good hY h40 fun H1 s1 => .inl ⟨rfl, y, refs as, rfl, s1 _ _ ht, ?_⟩
    rw [show (refs as).length / 2 = m by omega]
    refine ⟨v, Tv, m, r, rfl, hv.mono s1, hF.mono hv (Same.toN s1), fun e H2 s2 => ?_, fun l e H2 p s2 hp => ?_⟩
    · exact ⟨_, rfl, rfl, _, rfl, iteF ⟨_, rfl, hl.1 e _ (s1.trans s2)⟩⟩
    · subst e
      obtain ⟨q1, q2⟩ := hF.small h40
      exact ⟨_, rfl, rfl, _, rfl, iteT ⟨_, rfl, _, rfl, .tup l (SqT.of hp) (by omega) q2, fun d hd => hl.2 l rfl _ p d ((s1.trans s2).trans (Same.new hd)) ((Same.new hd) _ _ hp) upd_same⟩⟩
end
end One
end P_QB

section P_QC
set_option linter.all false
set_option maxRecDepth 100000
set_option maxHeartbeats 8000000
namespace One
open PySem PySem.Spec PyProof.Rows L2
theorem nat_val {v : V} {n : Nat} (h : belowV v (n : Nat) = true) : ∃ i : Nat, v = .int (i : Nat) ∧ i < n := by
  cases v with
  | int i =>
    have h : (decide (0 ≤ i) && decide (i < ((n : Nat) : Int))) = true := h
    simp only [Bool.and_eq_true, decide_eq_true_eq] at h
    obtain ⟨j, rfl⟩ : ∃ j : Nat, i = (j : Nat) := ⟨i.toNat, by omega⟩
    exact ⟨j, rfl, by omega⟩
  | _ => exact nof h
theorem vals_at (x : Three) {i : Nat} (h : i < 3) : atI x.vals ((i : Nat) : Int) = some (.int (x.at i)) := by
  have : i = 0 ∨ i = 1 ∨ i = 2 := by omega
  rcases this with rfl | rfl | rfl <;> rfl
structure SetAt (H : Hp) (t : Addr) (n : Nat) (ws : List Nat) : Prop where
  len : ws.length = n
  lt : ∀ x ∈ ws, x < 3
  here : H t = some (.tup (nats ws))
theorem SetAt.mono {H H' : Hp} {t : Addr} {n : Nat} {ws : List Nat} (h : SetAt H t n ws) (k : ∀ b xs, H b = some (.tup xs) → H' b = some (.tup xs)) : SetAt H' t n ws := ⟨h.len, h.lt, k _ _ h.here⟩
/-- what each way is worth -/
def ways_ (ts : List Three) (ws : List Nat) : List Int := List.zipWith (fun x w => x.at w) ts ws
def wsum (ts : List Three) (ws : List Nat) : Int := (ways_ ts ws).sum
theorem ways_at {ts : List Three} {ws : List Nat} {i : Nat} {x : Three} {w : Nat} (hx : ts[i]? = some x) (hw : ws[i]? = some w) : (ways_ ts ws)[i]? = some (x.at w) := by
  unfold ways_
  rw [List.getElem?_zipWith, hx, hw]
theorem walk_zipT {K : PySem.W.Frag} {a b : Addr} {xs ys : List V} {n : Nat} (hn : n = min xs.length ys.length) : Walk (RZ.ItzT K a b) n (fun H => SqT K H a xs ∧ SqT K H b ys) (YPair (fun i => xs[i]?) (fun i => ys[i]?)) := by
  subst hn
  refine ⟨fun i _ hi q => ?_, fun _ q => ⟨xs, ys, q.1, q.2, by omega⟩, fun i H v H' _ q y => ?_⟩
  · have h1 : i < xs.length := by omega
    have h2 : i < ys.length := by omega
    exact ⟨xs, ys, xs[i], ys[i], q.1, q.2, by simp [h1], by simp [h2]⟩
  · obtain ⟨T, x, z, h1, h2, h3, h4, h5⟩ := y
    exact ⟨T, x, z, h1, h2, h3, h4 xs q.1, h5 ys q.2⟩
abbrev sSW : Stmt := top 47
abbrev sWO : Stmt := top 46
abbrev sLW : Stmt := top 56
abbrev nSW : List Str := ["worths", "setting", "crossing", "way"]
abbrev nWO : List Str := ["yard", "worths", "setting"]
abbrev nLW : List Str := ["worths", "setting", "triple", "way"]
theorem scSW : FnScope nSW ["worths", "setting"] (defScope sSW) := ⟨rfl, rfl, rfl, by decide +kernel, rfl, by decide +kernel, by decide +kernel⟩
theorem scWO : FnScope nWO ["yard", "worths", "setting"] (defScope sWO) := ⟨rfl, rfl, rfl, by decide +kernel, rfl, by decide +kernel, by decide +kernel⟩
theorem scLW : FnScope nLW ["worths", "setting"] (defScope sLW) := ⟨rfl, rfl, rfl, by decide +kernel, rfl, by decide +kernel, by decide +kernel⟩
def spSW : Sp := fun vs H Q _ => ∃ (t u : Addr) (m : Nat) (ts : List Three) (ws : List Nat), vs = [.ref t, .ref u] ∧ WsAt H t m ts ∧ SetAt H u m ws ∧ m ≤ 40 ∧ ∀ H', Same H H' → Q (.int (wsum ts ws)) H'
theorem set_none {H : Hp} {v : V} {m : Nat} (h : SeqF (okW false) m H v none) : ∃ (u : Addr) (ws : List Nat), v = .ref u ∧ SetAt H u m ws := by
  rcases h with ⟨_, e⟩ | ⟨a, ys, rfl, h1, h2, h3, ⟨e, _⟩ | ⟨i, y, e1, e2, e3, e⟩⟩
  · cases e
  · have : ∀ {xs : List V}, xs.all (okW false) = true → ∃ ws : List Nat, xs = nats ws ∧ ∀ x ∈ ws, x < 3 := by
      intro xs
      induction xs with
      | nil => exact fun _ => ⟨[], rfl, fun x h => absurd h (by simp)⟩
      | cons v xs ih =>
        intro h
        have h : (okW false v && xs.all (okW false)) = true := h
        rw [Bool.and_eq_true] at h
        obtain ⟨ws, e, hw⟩ := ih h.2
        have hb : belowV v 3 = true := by
          have := h.1
          unfold okW at this
          rw [Bool.false_and, Bool.or_false] at this
          exact this
        obtain ⟨i, rfl, hi⟩ := nat_val (n := 3) hb
        refine ⟨i :: ws, by rw [e]; rfl, fun x hx => ?_⟩
        rcases List.mem_cons.mp hx with rfl | hx
        · exact hi
        · exact hw x hx
    obtain ⟨ws, rfl, hw⟩ := this e
    exact ⟨a, ws, rfl, ⟨by rw [← h2]; exact (List.length_map _).symm, hw, h1⟩⟩
  · cases e
/-- the worth, or what is refused -/
def spWO (CW CS : Addr) : Sp := fun vs H Q E => ∃ (y : Addr) (wv sv : V) (Tw Ts : String) (m : Nat) (ps : List (Nat × Nat)) (rw' rs : Option (List Nat)), vs = [.ref y, wv, sv] ∧ YAt H y m ps ∧ m ≤ 40 ∧ TV H wv Tw ∧ TV H sv Ts ∧ WorthsF H wv m rw' ∧ SeqF (okW false) m H sv rs ∧
  (∀ l, rw' = some l → RWrong CW E H l) ∧ (rw' = none → ∀ l, rs = some l → RWrong CS E H l) ∧
  (rw' = none → rs = none → ∀ (t u : Addr) (ts : List Three) (ws : List Nat) (H' : Hp), Same H H' → wv = .ref t → sv = .ref u → WsAt H' t m ts → SetAt H' u m ws → Q (.int (wsum ts ws)) H')
section
variable {P : Program} {w : World} {K : PySem.W.Frag} {mg : Str → Option Value} {base : Heap} {CS CW : Addr}
theorem ok_sw {f : Addr} {fd : FuncData} (F : Fun K "summed_worth" "summed_worth" sSW f fd) (T : TB mg) (hsum : mg "sum" = none) : FnOk P w K mg base CX0 1 f fd ["worths", "setting"] spSW := by
  refine F.ok scSW (fun vs H Q E h => ?_) (fun cdv A outer s H vs Q E hr h => ?_)
  · obtain ⟨t, u, m, ts, ws, rfl, _⟩ := h
    rfl
  · obtain ⟨t, u, m, ts, ws, rfl, hW, hS, h40, k⟩ := h
    have nd := scSW.nd
    refine ⟨_, pss_one (ps_ret (pe_callB (cr_sum rfl) (by rfl) hsum boot_sum (pa_cons (pe_lc (own := [("crossing", 2), ("way", 3)]) (g := (gTup K 2 (gCons (gName 2) (gCons (gName 3) gNil)))) (tt := tYes) (te := (tOp (rIxT K) (tOp (rIxT K) (tVar 0) (tVar 2)) (tVar 3))) rfl nd (pi_enumT (by rfl) T.enumerate (pa_cons (pv 1) pa_nil)) (blkOk_by (N := nSW) (sc := defScope sSW) (by decide +kernel)) (fun _ _ _ _ _ => pg_tup rfl (pgs_cons (pg_name (i := 2) nd rfl (Or.inl rfl)) (pgs_cons (pg_name (i := 3) nd rfl (Or.inl rfl)) pgs_nil))) (fun _ _ _ _ _ => pts_nil) (fun _ _ _ _ _ => by exact (pe_ix ix_tup (pe_ix ix_tup (pv 0) (pv 2) (fun _ _ => rfl)) (pv 3) (fun _ _ => rfl)))) pa_nil))), ?_⟩
    obtain ⟨hl, hok, as, ht, hT⟩ := id hW
    have la : as.length = m := by rw [hT.len, hl]
    have lw : (nats ws).length = m := (List.length_map _).trans hS.len
    refine ⟨_, rfl, u, _, rfl, SqT.of hS.here, fun D hD => ?_⟩
    have sD := Same.new (o := .lst []) hD
    refine lc_it (walk_enumT (K := K) (a := u) (xs := nats ws)) (fun i H6 => H6 D = some (.lst (((ways_ ts ws).take i).map V.int)) ∧ Same H H6) ⟨upd_same, sD⟩ (fun i H6 _ ⟨_, s'⟩ => SqT.of (s' _ _ hS.here)) ?_ ?_
    · rintro i v H6 H7 hi ⟨h6, s6⟩ ⟨q, x', y', rfl, hq, rfl, ex, ey⟩
      cases ex
      rw [lw] at hi
      have ey : (nats ws)[i]? = some y' := ey
      obtain ⟨z, hz⟩ : ∃ z, ws[i]? = some z := ⟨_, List.getElem?_eq_getElem (by rw [hS.len]; exact hi)⟩
      obtain ⟨x, hx⟩ : ∃ x, ts[i]? = some x := ⟨_, List.getElem?_eq_getElem (by omega)⟩
      obtain ⟨c, hc⟩ : ∃ c, as[i]? = some c := ⟨_, List.getElem?_eq_getElem (by omega)⟩
      have ey2 : (nats ws)[i]? = some (V.int (z : Nat)) := by
        show (ws.map _)[i]? = _
        rw [List.getElem?_map, hz]
        rfl
      cases ey.symm.trans ey2
      obtain ⟨x2, hx2, hcx⟩ := hT.got hc
      cases hx.symm.trans hx2
      have hz3 := hS.lt z (List.mem_of_getElem? hz)
      have s7 := Same.new (o := .tup [V.int (i : Nat), V.int (z : Nat)]) hq
      have sA := s6.trans s7
      have hi' : (refs as)[i]? = some (V.ref c) := by
        show (as.map _)[i]? = _
        rw [List.getElem?_map, hc]
        rfl
      refine ⟨q, _, rfl, SqT.of upd_same, rfl, _, _, rfl, _, _, rfl, rfl, rfl, yes ⟨_, rfl, _, rfl, t, _, _, _, rfl, rfl, SqT.of (sA _ _ ht), at_of (j := i) rfl hi', _, rfl, c, _, _, _, rfl, rfl, SqT.of (sA _ _ hcx), vals_at x hz3, ?_⟩⟩
      have h7 := s7 _ _ h6
      refine ⟨_, h7, small1000 (by rw [List.length_map, List.length_take]; omega), ?_, fun b o e => ?_⟩
      · rw [upd_same, List.take_succ, ways_at hx hz, Option.toList_some, List.map_append]
        rfl
      · rw [upd_ne (ne_of_none e hD)]
        exact sA _ _ e
    · rintro H6 ⟨h6, s6⟩
      have lz : (ways_ ts ws).length = m := by
        unfold ways_
        rw [List.length_zipWith, hl, hS.len, Nat.min_self]
      rw [lw, List.take_of_length_le (by omega)] at h6
      unfold tNil
      exact ⟨D, _, rfl, SqL.of h6, k _ s6⟩
theorem ok_lw {f : Addr} {fd : FuncData} (F : Fun K "_law_worth_of" "_law_worth_of" sLW f fd) (T : TB mg) (hsum : mg "sum" = none) (hzip : mg "zip" = none) : FnOk P w K mg base CX0 1 f fd ["worths", "setting"] spSW := by
  refine F.ok scLW (fun vs H Q E h => ?_) (fun cdv A outer s H vs Q E hr h => ?_)
  · obtain ⟨t, u, m, ts, ws, rfl, _⟩ := h
    rfl
  · obtain ⟨t, u, m, ts, ws, rfl, hW, hS, h40, k⟩ := h
    have nd := scLW.nd
    refine ⟨_, pss_one (ps_ret (pe_callB (cr_sum rfl) (by rfl) hsum boot_sum (pa_cons (pe_lc (own := [("triple", 2), ("way", 3)]) (g := (gTup K 2 (gCons (gName 2) (gCons (gName 3) gNil)))) (tt := tYes) (te := (tOp (rIxT K) (tVar 2) (tVar 3))) rfl nd (RZ.pi_zipA (by rfl) hzip (pa_cons (pv 0) (pa_cons (pv 1) pa_nil))) (blkOk_by (N := nLW) (sc := defScope sLW) (by decide +kernel)) (fun _ _ _ _ _ => pg_tup rfl (pgs_cons (pg_name (i := 2) nd rfl (Or.inl rfl)) (pgs_cons (pg_name (i := 3) nd rfl (Or.inl rfl)) pgs_nil))) (fun _ _ _ _ _ => pts_nil) (fun _ _ _ _ _ => by exact (pe_ix ix_tup (pv 2) (pv 3) (fun _ _ => rfl)))) pa_nil))), ?_⟩
    obtain ⟨hl, hok, as, ht, hT⟩ := id hW
    have la : as.length = m := by rw [hT.len, hl]
    have lr : (refs as).length = m := (List.length_map _).trans la
    have lw : (nats ws).length = m := (List.length_map _).trans hS.len
    refine ⟨_, rfl, _, rfl, t, u, refs as, nats ws, rfl, .inr ⟨SqT.of ht, SqT.of hS.here, fun D hD => ?_⟩⟩
    have sD := Same.new (o := .lst []) hD
    refine lc_it (walk_zipT (K := K) (a := t) (b := u) (xs := refs as) (ys := nats ws) rfl) (fun i H6 => H6 D = some (.lst (((ways_ ts ws).take i).map V.int)) ∧ Same H H6) ⟨upd_same, sD⟩ (fun i H6 _ ⟨_, s'⟩ => ⟨SqT.of (s' _ _ ht), SqT.of (s' _ _ hS.here)⟩) ?_ ?_
    · rintro i v H6 H7 hi ⟨h6, s6⟩ ⟨q, x', y', rfl, hq, rfl, ex, ey⟩
      rw [lw, lr, Nat.min_self] at hi
      have ex : (refs as)[i]? = some x' := ex
      have ey : (nats ws)[i]? = some y' := ey
      obtain ⟨z, hz⟩ : ∃ z, ws[i]? = some z := ⟨_, List.getElem?_eq_getElem (by rw [hS.len]; exact hi)⟩
      obtain ⟨x, hx⟩ : ∃ x, ts[i]? = some x := ⟨_, List.getElem?_eq_getElem (by omega)⟩
      obtain ⟨c, hc⟩ : ∃ c, as[i]? = some c := ⟨_, List.getElem?_eq_getElem (by omega)⟩
      have ey2 : (nats ws)[i]? = some (V.int (z : Nat)) := by
        show (ws.map _)[i]? = _
        rw [List.getElem?_map, hz]
        rfl
      cases ey.symm.trans ey2
      have hi' : (refs as)[i]? = some (V.ref c) := by
        show (as.map _)[i]? = _
        rw [List.getElem?_map, hc]
        rfl
      cases ex.symm.trans hi'
      obtain ⟨x2, hx2, hcx⟩ := hT.got hc
      cases hx.symm.trans hx2
      have hz3 := hS.lt z (List.mem_of_getElem? hz)
      have s7 := Same.new (o := .tup [V.ref c, V.int (z : Nat)]) hq
      have sA := s6.trans s7
      refine ⟨q, _, rfl, SqT.of upd_same, rfl, _, _, rfl, _, _, rfl, rfl, rfl, yes ⟨_, rfl, _, rfl, c, _, _, _, rfl, rfl, SqT.of (sA _ _ hcx), vals_at x hz3, ?_⟩⟩
      have h7 := s7 _ _ h6
      refine ⟨_, h7, small1000 (by rw [List.length_map, List.length_take]; omega), ?_, fun b o e => ?_⟩
      · rw [upd_same, List.take_succ, ways_at hx hz, Option.toList_some, List.map_append]
        rfl
      · rw [upd_ne (ne_of_none e hD)]
        exact sA _ _ e
    · rintro H6 ⟨h6, s6⟩
      have lz : (ways_ ts ws).length = m := by
        unfold ways_
        rw [List.length_zipWith, hl, hS.len, Nat.min_self]
      rw [lw, lr, Nat.min_self, List.take_of_length_le (by omega)] at h6
      unfold tNil
      exact ⟨D, _, rfl, SqL.of h6, k _ s6⟩
theorem ok_wo {f fN fS fU : Addr} {fd fdN fdS fdU : FuncData} (F : Fun K "worth_of" "worth_of" sWO f fd) (N : Cal K mg "need_worths" fN fdN ["yard", "thing"]) (GN : FnOk P w K mg base (L2.CX P w) 7 fN fdN ["yard", "thing"] (spNW CW))
    (S : Cal K mg "need_setting" fS fdS ["yard", "thing"]) (GS : FnOk P w K mg base (L2.CX P w) 7 fS fdS ["yard", "thing"] (spNS CS)) (U : Cal K mg "summed_worth" fU fdU ["worths", "setting"]) (GU : FnOk P w K mg base CX0 1 fU fdU ["worths", "setting"] spSW) : FnOk P w K mg base (L2.CX P w) 8 f fd ["yard", "worths", "setting"] (spWO CW CS) := by
  refine F.okX scWO (fun vs H Q E h => ?_) (fun cdv A outer s H vs Q E hr h => ?_)
  · obtain ⟨y, wv, sv, Tw, Ts, m, ps, rw', rs, rfl, _⟩ := h
    rfl
  · obtain ⟨y, wv, sv, Tw, Ts, m, ps, rw', rs, rfl, hY, h40, hw, hs, hWF, hSF, kW, kS, k⟩ := h
    have nd := scWO.nd
    have hr7 : Room 7 _ := hr
    have hr1 : Room 1 _ := hr.mono (by decide)
    refine ⟨_, pss_cons (ps_expr (pe_call GN hr7 rfl N.g N.kp N.b .nil (passes_call (takes_of rfl rfl rfl rfl) (fun _ _ _ _ h => h)) (pa_cons (pv 0) (pa_cons (pv 1) pa_nil))))
      (pss_cons (ps_expr (pe_call GS hr7 rfl S.g S.kp S.b .nil (passes_call (takes_of rfl rfl rfl rfl) (fun _ _ _ _ h => h)) (pa_cons (pv 0) (pa_cons (pv 2) pa_nil))))
      (pss_one (ps_ret (pe_call GU hr1 rfl U.g U.kp U.b .nil pass0 (pa_cons (pv 1) (pa_cons (pv 2) pa_nil)))))), ?_⟩
    refine ⟨_, rfl, _, rfl, y, wv, Tw, m, ps, rw', rfl, hY, h40, hw, hWF, ⟨fun e H1 s1 => ?_, kW⟩⟩
    subst e
    refine ⟨_, rfl, _, rfl, y, sv, Ts, m, ps, rs, rfl, hY.mono (sameT s1), h40, hs.mono s1, hSF.mono hs (Same.toN s1), ⟨fun e H2 s2 => ?_, fun l e H' p d s' => kS rfl l e H' p d (s1.trans s')⟩⟩
    subst e
    have s12 := s1.trans s2
    obtain ⟨t, ts, rfl, hW⟩ := worths_none.mp (hWF.mono hw (Same.toN s12))
    obtain ⟨u, ws, rfl, hS⟩ := set_none (hSF.mono hs (Same.toN s12))
    exact ⟨_, rfl, _, rfl, t, u, m, ts, ws, rfl, hW, hS, h40, fun H3 s3 => k rfl rfl t u ts ws H3 (s12.trans s3) rfl rfl (hW.mono (sameT s3)) (hS.mono (sameT s3))⟩
end
end One
end P_QC

section P_QD
set_option linter.all false
set_option maxRecDepth 100000
set_option maxHeartbeats 8000000
namespace One
open PySem PySem.Spec PyProof.Rows L2
abbrev sWr : Stmt := top 58
abbrev nWr : List Str := ["thing", "many", "number", "triple", "way", "worth"]
theorem scWr : FnScope nWr ["thing", "many"] (defScope sWr) := ⟨rfl, rfl, rfl, by decide +kernel, rfl, by decide +kernel, by decide +kernel⟩
def spWr : Sp := fun vs H Q _ => ∃ (v : V) (T : String) (n : Nat) (r : Option (List Nat)), vs = [v, .int (n : Nat)] ∧ TV H v T ∧ WorthsF H v n r ∧
  (r = none → ∀ (H' : Hp) (L : Addr), Same H H' → H' L = some (.lst []) → Q (.ref L) H') ∧
  ∀ l, r = some l → ∀ (H' : Hp) (L p : Addr), Same H H' → H' L = some (.lst [.ref p]) → H' p = some (.tup (nats l)) → Q (.ref L) H'
section
variable {P : Program} {w : World} {K : PySem.W.Frag} {mg : Str → Option Value} {base : Heap}
theorem ok_wr {f : Addr} {fd : FuncData} (F : Fun K "_law_wrong" "_law_wrong" sWr f fd) (T : TB mg) : FnOk P w K mg base CX0 1 f fd ["thing", "many"] spWr := by
  refine F.ok scWr (fun vs H Q E h => ?_) (fun cdv A outer s H vs Q E hr h => ?_)
  · obtain ⟨v, Tt, n, r, rfl, _⟩ := h
    rfl
  · obtain ⟨v, Tt, n, r, rfl, hv, hF, kn, ks⟩ := h
    have nd := scWr.nd
    refine ⟨_, pss_cons (ps_if (PW.pt (pw_or (pt_not (pt_val (pe_callB call_isi (by rfl) T.isinstance boot_isinstance (pa_cons (pv 0) (pa_cons (pe_bltn (v := .ty "tuple") (by rfl) T.tuple boot_tuple rfl) pa_nil))))) (pw_or1 (pt_cmpR op_ne (pe_callB call_len_seq (by rfl) T.len PySem.boot_len (pa_cons (pv 0) pa_nil)) (pv 1) (nomark _))))) (pss_one (ps_ret (pe_lst (pa_cons (pe_tup pa_nil) pa_nil)))) pss_nil)
      (pss_cons (ps_for PassesOwn.never rfl (pi_enumT (by rfl) T.enumerate (pa_cons (pv 0) pa_nil)) (pg_tup rfl (pgs_cons (pg_name (i := 2) nd rfl (Or.inl rfl)) (pgs_cons (pg_name (i := 3) nd rfl (Or.inl rfl)) pgs_nil)))
        (pss_cons (ps_if (PW.pt (pw_or (pt_not (pt_val (pe_callB call_isi (by rfl) T.isinstance boot_isinstance (pa_cons (pv 3) (pa_cons (pe_bltn (v := .ty "tuple") (by rfl) T.tuple boot_tuple rfl) pa_nil))))) (pw_or1 (pt_cmpR op_ne (pe_callB call_len_seq (by rfl) T.len PySem.boot_len (pa_cons (pv 3) pa_nil)) pe_int (nomark _))))) (pss_one (ps_ret (pe_lst (pa_cons (pe_tup (pa_cons (pv 2) pa_nil)) pa_nil)))) pss_nil)
        (pss_one (ps_for PassesOwn.never rfl (pi_enumT (by rfl) T.enumerate (pa_cons (pv 3) pa_nil)) (pg_tup rfl (pgs_cons (pg_name (i := 4) nd rfl (Or.inl rfl)) (pgs_cons (pg_name (i := 5) nd rfl (Or.inl rfl)) pgs_nil)))
          (pss_one (ps_if (PW.pt (pw_or (pt_not (pt_val (pe_callB call_isi (by rfl) T.isinstance boot_isinstance (pa_cons (pv 5) (pa_cons (pe_bltn (v := .ty "int") (by rfl) T.int PyProof.Rows.boot_int rfl) pa_nil))))) (pw_or (pt_val (pe_callB call_isi (by rfl) T.isinstance boot_isinstance (pa_cons (pv 5) (pa_cons (pe_bltn (v := .ty "bool") (by rfl) T.bool (by decide +kernel) rfl) pa_nil))))
              (pw_or1 (pt_not (pt_chain op_le op_le (pe_op op_sub pe_int (pe_op op_pow pe_int pe_int)) (pv 5) (pe_op op_pow pe_int pe_int))))))) (pss_one (ps_ret (pe_lst (pa_cons (pe_tup (pa_cons (pv 2) (pa_cons (pv 4) pa_nil))) pa_nil)))) pss_nil))))))
      (pss_one (ps_ret (pe_lst pa_nil)))), ?_⟩
    have tell : ∀ {H2 : Hp} {l : List Nat} {p L : Addr}, r = some l → Same H H2 → H2 p = none → (upd H2 p (.tup (nats l))) L = none → Q (.ref L) (upd (upd H2 p (.tup (nats l))) L (.lst [.ref p])) := fun {H2 l p L} e s2 hp hL =>
      ks l e _ L p (s2.trans ((Same.new hp).trans (Same.new hL))) upd_same (Same.new hL _ _ upd_same)
    refine ⟨_, rfl, _, _, _, _, _, rfl, .ty _, hv.tyx, hv.kTup, _, rfl, ?_⟩
    rcases hF with ⟨hno, rfl⟩ | ⟨t, xs, rfl, ht, hl, hx, hrest⟩
    · cases hT : isTup Tt with
      | false => exact iteT (iteT ⟨Nat.zero_le _, fun p hp => ⟨(by show 1 ≤ sizeLine; decide), fun L hL => tell (l := []) rfl (Same.refl H) hp hL⟩⟩)
      | true =>
        obtain ⟨t, xs, rfl, ht⟩ := hv.notTup hT
        have hne := hno t xs rfl ht
        refine iteF ⟨_, rfl, t, _, rfl, .inr (SqT.of ht), _, rfl, rfl, _, rfl, ?_⟩
        have e : decide (V.int (xs.length : Nat) = V.int (n : Nat)) = false := decide_eq_false fun z => hne (by
          have := V.int.inj z
          omega)
        rw [e]
        exact iteT ⟨Nat.zero_le _, fun p hp => ⟨(by show 1 ≤ sizeLine; decide), fun L hL => tell (l := []) rfl (Same.refl H) hp hL⟩⟩
    · rw [hv.isTupOf ht]
      refine iteF ⟨_, rfl, t, _, rfl, .inr (SqT.of ht), _, rfl, rfl, _, rfl, ?_⟩
      have e : decide (V.int (xs.length : Nat) = V.int (n : Nat)) = true := decide_eq_true (by rw [hl])
      rw [e]
      refine iteF ?_
      refine ⟨_, rfl, t, _, rfl, SqT.of ht, for_it (walk_enumT (K := K) (a := t) (xs := xs)) (fun i σ H2 => ∃ v2 v3 v4 v5 : Option V, σ = [some (.ref t), some (.int (n : Nat)), v2, v3, v4, v5] ∧ Same H H2 ∧ ∀ z ∈ xs.take i, ThreeF H z none) ⟨none, none, none, none, rfl, Same.refl H, fun z m => by simp at m⟩ (fun i σ H2 _ ⟨_, _, _, _, _, s', _⟩ => SqT.of (s' _ _ ht)) ?_ ?_⟩
      · rintro i x σ H2 H3 hi ⟨v2, v3, v4, v5, rfl, s2, a2⟩ ⟨q, x', y', rfl, hq, rfl, ex, ey⟩
        cases ex
        have ey : xs[i]? = some y' := ey
        have s3 := Same.new (o := .tup [V.int (i : Nat), y']) hq
        have sA := s2.trans s3
        obtain ⟨Ty, hy⟩ := hx y' (List.mem_of_getElem? ey)
        refine ⟨q, _, rfl, SqT.of upd_same, rfl, _, _, rfl, _, _, rfl, rfl, ?_⟩
        generalize upd H2 q (.tup [V.int (i : Nat), y']) = H3 at sA
        have hcase : ThreeF H y' none ∨ ∃ l, ThreeF H y' (some l) ∧ l.length ≤ 1 ∧ r = some (i :: l) := by
          rcases hrest with ⟨ha, _⟩ | ⟨j, y, l, e1, e2, e3, e4, e5⟩
          · exact .inl (ha y' (List.mem_of_getElem? ey))
          · rcases Nat.lt_trichotomy i j with h | h | h
            · exact .inl (e3 y' (List.mem_of_getElem? (take_get h ey)))
            · subst h
              cases ey.symm.trans e1
              exact .inr ⟨l, e2, e4, e5⟩
            · exact absurd (a2 y (List.mem_of_getElem? (take_get h e1))) (SeqF.not e2)
        have next : ∀ {σ' : L2.St} {H4 : Hp}, ThreeF H y' none → (∃ v2 v3 v4 v5 : Option V, σ' = [some (.ref t), some (.int (n : Nat)), v2, v3, v4, v5]) → Same H H4 → ∃ v2 v3 v4 v5 : Option V, σ' = [some (.ref t), some (.int (n : Nat)), v2, v3, v4, v5] ∧ Same H H4 ∧ ∀ z ∈ xs.take (i + 1), ThreeF H z none := fun {σ' H4} h0 ⟨a, b, c, d, e⟩ s4 => by
          refine ⟨a, b, c, d, e, s4, fun z m => ?_⟩
          rw [List.take_succ, ey, Option.toList_some, List.mem_append, List.mem_singleton] at m
          rcases m with m | rfl
          · exact a2 z m
          · exact h0
        refine ⟨_, rfl, _, _, _, _, _, rfl, .ty _, (hy.mono sA).tyx, (hy.mono sA).kTup, _, rfl, ?_⟩
        -- no tuple of three
        have none3 : (∀ a ys, y' = .ref a → H a = some (.tup ys) → ys.length ≠ 3) → r = some [i] := fun hno => by
          rcases hcase with h0 | ⟨l, h1, hl1, e⟩
          · obtain ⟨a, x3, rfl, h1, _⟩ := three_none.mp h0
            exact absurd rfl (hno a _ rfl h1)
          · rcases h1 with ⟨_, e1⟩ | ⟨a, ys, rfl, h1, h2, _⟩
            · cases e1
              exact e
            · exact absurd h2 (hno a ys rfl h1)
        cases hT : isTup Ty with
        | false =>
          refine iteT (iteT ⟨_, rfl, (by show 1 ≤ sizeLine; decide), fun p hp => ⟨(by show 1 ≤ sizeLine; decide), fun L hL => tell (l := [i]) (none3 fun a ys ea ha => ?_) sA hp hL⟩⟩)
          subst ea
          rw [hy.isTupOf ha] at hT
          cases hT
        | true =>
          obtain ⟨c, ys, rfl, hc⟩ := hy.notTup hT
          have hcA := sA _ _ hc
          refine iteF ⟨_, rfl, c, _, rfl, .inr (SqT.of hcA), rfl, _, rfl, ?_⟩
          cases h3 : decide (V.int (ys.length : Nat) = V.int 3) with
          | false =>
            refine iteT ⟨_, rfl, (by show 1 ≤ sizeLine; decide), fun p hp => ⟨(by show 1 ≤ sizeLine; decide), fun L hL => tell (l := [i]) (none3 fun a ys' ea ha => ?_) sA hp hL⟩⟩
            cases ea
            cases hc.symm.trans ha
            intro z
            rw [z] at h3
            exact absurd h3 (by decide)
          | true =>
            have l3 : ys.length = 3 := by
              have := V.int.inj (of_decide_eq_true h3)
              omega
            refine iteF ?_
            -- what is told of it
            have tv : ∀ y ∈ ys, ∃ T, TV H y T := by
              rcases hcase with h0 | ⟨l, h1, _, _⟩
              · rcases h0 with ⟨_, e⟩ | ⟨a, ys', ea, ha, _, htv, _⟩
                · cases e
                · cases ea
                  cases hc.symm.trans ha
                  exact htv
              · rcases h1 with ⟨hno, _⟩ | ⟨a, ys', ea, ha, _, htv, _⟩
                · exact absurd l3 (hno c ys rfl hc)
                · cases ea
                  cases hc.symm.trans ha
                  exact htv
            have fst : ∀ {j : Nat} {y : V}, ys[j]? = some y → okWo y = false → (ys.take j).all okWo = true → r = some [i, j] := fun {j y} e1 e2 e3 => by
              rcases hcase with h0 | ⟨l, h1, _, e⟩
              · rcases h0 with ⟨_, e⟩ | ⟨a, ys', ea, ha, _, _, ⟨hall, _⟩ | ⟨_, _, _, _, _, e⟩⟩
                · cases e
                · cases ea
                  cases hc.symm.trans ha
                  have := List.all_eq_true.mp hall y (List.mem_of_getElem? e1)
                  rw [e2] at this
                  cases this
                · cases e
              · rcases h1 with ⟨hno, _⟩ | ⟨a, ys', ea, ha, _, _, ⟨_, e'⟩ | ⟨j', y2, q1, q2, q3, e'⟩⟩
                · exact absurd l3 (hno c ys rfl hc)
                · cases e'
                · cases ea
                  cases hc.symm.trans ha
                  have := same_first e1 e2 e3 q1 q2 q3
                  subst this
                  cases e'
                  exact e
            refine ⟨_, rfl, c, _, rfl, SqT.of hcA, for_it (walk_enumT (K := K) (a := c) (xs := ys)) (fun j σ H4 => ∃ v4 v5 : Option V, σ = [some (.ref t), some (.int (n : Nat)), some (.int (i : Nat)), some (.ref c), v4, v5] ∧ Same H H4 ∧ (ys.take j).all okWo = true) ⟨_, _, rfl, sA, rfl⟩ (fun j σ H4 _ ⟨_, _, _, s', _⟩ => SqT.of (s' _ _ hc)) ?_ ?_⟩
            · rintro j y σ H4 H5 hj ⟨v4', v5', rfl, s4, a4⟩ ⟨q2, x2, y2, rfl, hq2, rfl, ex2, ey2⟩
              cases ex2
              have ey2 : ys[j]? = some y2 := ey2
              obtain ⟨Tz, hz⟩ := tv y2 (List.mem_of_getElem? ey2)
              have s5 := Same.new (o := .tup [V.int (j : Nat), y2]) hq2
              have sB := s4.trans s5
              refine ⟨q2, _, rfl, SqT.of upd_same, rfl, _, _, rfl, _, _, rfl, rfl, ?_⟩
              generalize upd H4 q2 (.tup [V.int (j : Nat), y2]) = H5 at sB
              have a5 : okWo y2 = true → (ys.take (j + 1)).all okWo = true := fun h => by
                rw [List.take_succ, ey2, Option.toList_some, List.all_append, a4]
                show (true && (okWo y2 && true)) = true
                rw [h]
                rfl
              have hzB := hz.mono sB
              obtain ⟨b, kb, h1, h2⟩ := hzB.kInt (K := K)
              have bad : okWo y2 = false → tRet (tLst (tCons (tTup (tCons (tVar 2) (tCons (tVar 4) tNil))) tNil)) { nx := fun σ H2 => ∃ v4 v5 : Option V, σ = [some (.ref t), some (.int (n : Nat)), some (.int (i : Nat)), some (.ref c), v4, v5] ∧ Same H H2 ∧ (ys.take (j + 1)).all okWo = true, rt := Q } [some (.ref t), some (.int (n : Nat)), some (.int (i : Nat)), some (.ref c), some (.int (j : Nat)), some y2] H5 := fun hb =>
                ⟨_, rfl, _, rfl, two_le, fun p hp => ⟨(by show 1 ≤ sizeLine; decide), fun L hL => tell (l := [i, j]) (fst ey2 hb a4) sB hp hL⟩⟩
              refine ⟨_, rfl, y2, _, _, _, b, rfl, .ty _, hzB.tyx, kb, b, rfl, ?_⟩
              cases b with
              | false =>
                refine iteT (iteT (bad ?_))
                cases y2 with
                | int z => cases h2 rfl
                | _ => rfl
              | true =>
                obtain ⟨b2, kb2, e2⟩ := h1 rfl
                refine iteF ⟨_, rfl, y2, _, _, _, b2, rfl, .ty _, hzB.tyx, kb2, b2, rfl, ?_⟩
                cases b2 with
                | true =>
                  refine iteT (iteT (bad ?_))
                  cases y2 with
                  | int z => cases e2
                  | _ => rfl
                | false =>
                  obtain ⟨z, rfl⟩ : ∃ z, y2 = .int z := by
                    cases y2 with
                    | int j => exact ⟨j, rfl⟩
                    | _ => cases e2
                  refine iteF ⟨_, _, rfl, rfl, ⟨by decide, by decide, by decide⟩, _, _, rfl, rfl, _, rfl, _, _, rfl, rfl, _, rfl, ?_⟩
                  show (if decide (-1000000000000000000000000000000 ≤ z) = true then _ else _)
                  cases g1 : decide (-1000000000000000000000000000000 ≤ z) with
                  | false =>
                    rw [if_neg (by decide)]
                    refine ⟨_, rfl, iteT (bad ?_)⟩
                    show (decide (-1000000000000000000000000000000 ≤ z) && decide (z ≤ 1000000000000000000000000000000)) = false
                    rw [g1]
                    rfl
                  | true =>
                    rw [if_pos rfl]
                    refine ⟨_, _, rfl, rfl, ⟨by decide, by decide, by decide⟩, _, _, rfl, rfl, _, rfl, ?_⟩
                    have e30 : decide (z ≤ 10 ^ (30 : Int).toNat) = decide (z ≤ 1000000000000000000000000000000) := rfl
                    rw [e30]
                    cases g2 : decide (z ≤ 1000000000000000000000000000000) with
                    | false =>
                      refine iteT (bad ?_)
                      show (decide (-1000000000000000000000000000000 ≤ z) && decide (z ≤ 1000000000000000000000000000000)) = false
                      rw [g2, Bool.and_false]
                    | true =>
                      refine iteF ⟨_, _, rfl, sB, a5 ?_⟩
                      show (decide (-1000000000000000000000000000000 ≤ z) && decide (z ≤ 1000000000000000000000000000000)) = true
                      rw [g1, g2]
                      rfl
            · rintro σ H4 ⟨v4', v5', rfl, s4, a4⟩
              rw [List.take_length] at a4
              exact next (.inr ⟨c, ys, rfl, hc, l3, tv, .inl ⟨a4, rfl⟩⟩) ⟨_, _, _, _, rfl⟩ s4
      · rintro σ H2 ⟨v2, v3, v4, v5, rfl, s2, a2⟩
        rw [List.take_length] at a2
        refine ⟨Nat.zero_le _, fun L hL => kn ?_ _ L (s2.trans (Same.new hL)) upd_same⟩
        rcases hrest with ⟨_, e⟩ | ⟨j, y, l, e1, e2, e3, _, rfl⟩
        · exact e
        · exact absurd (a2 y (List.mem_of_getElem? e1)) (SeqF.not e2)
end
end One
end P_QD

section P_Q3
set_option linter.all false
set_option maxRecDepth 100000
set_option maxHeartbeats 8000000
namespace One
open PySem PySem.Spec PyProof.Rows L2
abbrev sWth : Stmt := top 54
abbrev sWts : Stmt := top 55
abbrev nWth : List Str := ["m", "way"]
abbrev nWts : List Str := ["m", "yard", "found", "crossing", "triple", "way"]
theorem scWth : FnScope nWth ["m"] (defScope sWth) := ⟨rfl, rfl, rfl, by decide +kernel, rfl, by decide +kernel, by decide +kernel⟩
theorem scWts : FnScope nWts ["m", "yard"] (defScope sWts) := ⟨rfl, rfl, rfl, by decide +kernel, rfl, by decide +kernel, by decide +kernel⟩
def spWth (K : PySem.W.Frag) : Sp := fun vs H Q _ => ∃ (p a : Addr) (n : Nat), vs = [.ref p] ∧ MT K H p a n ∧ n ≤ 990000 ∧
  ∀ (H' : Hp) (v : Int), MT K H' p a (n + 4) → Ext p H H' → -(10 ^ 30) ≤ v → v ≤ 10 ^ 30 → Q (.int v) H'
def spWts (K : PySem.W.Frag) : Sp := fun vs H Q _ => ∃ (p a y : Addr) (n m : Nat) (ps : List (Nat × Nat)), vs = [.ref p, .ref y] ∧ MT K H p a n ∧ n ≤ 900000 ∧ YAt H y m ps ∧ m ≤ 40 ∧
  ∀ (H' : Hp) (t : Addr) (ts : List Three), MT K H' p a (n + 14 * m) → Ext p H H' → WsAt H' t m ts → Q (.ref t) H'
def trD (t : Three) : PyData := .tuple [.int t.a, .int t.b, .int t.c]
theorem dp_threes {K : PySem.W.Frag} {H : Hp} {as : List Addr} {ts : List Three} (h : TLs H as ts) : DpAll K H (refs as) (ts.map trD) := by
  induction h with
  | nil => exact .nil
  | cons h1 _ ih => exact .cons (.tup (SqT.of h1) (.cons (.int _) (.cons (.int _) (.cons (.int _) .nil)))) ih
theorem tr_depth : ∀ ts : List Three, PyData.depthAll (ts.map trD) ≤ 1
  | [] => Nat.zero_le _
  | t :: r => by
    show max (PyData.depth (trD t)) (PyData.depthAll _) ≤ 1
    exact Nat.max_le.mpr ⟨Nat.le_refl 1, tr_depth r⟩
theorem tr_lay : ∀ ts : List Three, PyData.canLayAll0 (ts.map trD) = true
  | [] => rfl
  | t :: r => by
    show (PyData.canLay0 (trD t) && PyData.canLayAll0 _) = true
    rw [tr_lay r]
    rfl
theorem tr_ne (ts : List Three) : PyData.eqv (.list (ts.map trD)) (.list []) = ts.isEmpty := by
  cases ts <;> rfl
section
variable {P : Program} {w : World} {K : PySem.W.Frag} {mg : Str → Option Value} {base : Heap}
theorem ok_worth {f fN : Addr} {fd fdN : FuncData} (F : Fun K "_law_worth" "_law_worth" sWth f fd) (N : Cal K mg "_law_next" fN fdN ["m", "total"]) (GN : FnOk P w K mg base CX0 1 fN fdN ["m", "total"] (spNext K)) : FnOk P w K mg base CX0 2 f fd ["m"] (spWth K) := by
  refine F.ok scWth (fun vs H Q E h => ?_) (fun cdv A outer s H vs Q E hr h => ?_)
  · obtain ⟨p, a, n, rfl, _⟩ := h
    rfl
  · obtain ⟨p, a, n, rfl, M, hn, k⟩ := h
    have nd := scWth.nd
    have hr1 : Room 1 _ := hr
    refine ⟨_, pss_cons (ps_set (i := 1) nd rfl (Or.inl rfl) (pe_call GN hr1 rfl N.g N.kp N.b .nil pass0 (pa_cons (pv 0) (pa_cons pe_int pa_nil))))
      (pss_cons (ps_if (pt_cmpR op_lt (pv 1) pe_int (nomark _)) (pss_one (ps_ret (pe_op op_sub (pe_call GN hr1 rfl N.g N.kp N.b .nil pass0 (pa_cons (pv 0) (pa_cons pe_int pa_nil))) pe_int))) pss_nil)
      (pss_one (ps_ret (pe_ix ix_list (pe_lst (pa_cons (pe_op op_sub (pe_call GN hr1 rfl N.g N.kp N.b .nil pass0 (pa_cons (pv 0) (pa_cons pe_int pa_nil))) pe_int) (pa_cons (pe_op op_sub (pe_op op_pow pe_int pe_int) (pe_call GN hr1 rfl N.g N.kp N.b .nil pass0 (pa_cons (pv 0) (pa_cons pe_int pa_nil)))) (pa_cons (pe_op op_sub (pe_call GN hr1 rfl N.g N.kp N.b .nil pass0 (pa_cons (pv 0) (pa_cons pe_int pa_nil))) (pe_op op_pow pe_int pe_int)) pa_nil)))) (pe_op op_sub (pv 1) pe_int) (fun _ _ => rfl))))), ?_⟩
    refine ⟨_, rfl, p, a, n, _, rfl, M, by omega, by decide, by decide, fun H1 q M1 e1 q0 q8 => ?_⟩
    refine ⟨_, rfl, _, _, rfl, rfl, _, rfl, ite2 (fun hb => ?_) (fun hb => ?_)⟩
    · refine ⟨_, rfl, p, a, _, _, rfl, M1, by omega, by decide, by decide, fun H2 v M2 e2 v0 v4 => ⟨_, _, rfl, rfl, ?_⟩⟩
      exact k _ _ (M2.lt (by omega) (by omega)) (e1.trans e2) (by omega) (by omega)
    · have hb : ¬ (q < 5) := fun z => hb (decide_eq_true z)
      refine ⟨_, rfl, p, a, _, _, rfl, M1, by omega, by decide, by decide, fun H2 v M2 e2 v0 v1 => ⟨_, _, rfl, rfl, ?_⟩⟩
      refine ⟨_, _, rfl, rfl, ⟨by decide, by decide, by decide⟩, ?_⟩
      refine ⟨_, rfl, p, a, _, _, rfl, M2, by omega, by decide, by decide, fun H3 v' M3 e3 v0' v1' => ⟨_, _, rfl, rfl, ?_⟩⟩
      refine ⟨_, rfl, p, a, _, _, rfl, M3, by omega, by decide, by decide, fun H4 v'' M4 e4 v0'' v1'' => ?_⟩
      refine ⟨_, _, rfl, rfl, ⟨by decide, by decide, by decide⟩, _, _, rfl, rfl, (by show 3 ≤ sizeLine; decide), fun L hL => ?_⟩
      have s5 := Same.new (o := .lst [V.int (v - 100), V.int (10 ^ (30 : Int).toNat - v'), V.int (v'' - 10 ^ (30 : Int).toNat)]) hL
      have eA := e1.trans (e2.trans (e3.trans (e4.trans (Ext.same s5))))
      have MA := (M4.keep s5).lt (show n + 1 + 1 + 1 + 1 ≤ n + 4 by omega) (by omega)
      have e30 : (10 : Int) ^ (30 : Int).toNat = 10 ^ 30 := rfl
      rw [e30] at eA MA ⊢
      refine ⟨_, rfl, _, _, rfl, rfl, ?_⟩
      have qc : q = 5 ∨ q = 6 ∨ q = 7 := by omega
      have hLs : (upd H4 L (.lst [V.int (v - 100), V.int (10 ^ 30 - v'), V.int (v'' - 10 ^ 30)])) L = some (.lst [V.int (v - 100), V.int (10 ^ 30 - v'), V.int (v'' - 10 ^ 30)]) := upd_same
      rcases qc with rfl | rfl | rfl
      · exact ⟨L, _, _, V.int (v - 100), rfl, rfl, SqL.of hLs, rfl, k _ _ MA eA (by omega) (by omega)⟩
      · exact ⟨L, _, _, V.int (10 ^ 30 - v'), rfl, rfl, SqL.of hLs, rfl, k _ _ MA eA (by omega) (by omega)⟩
      · exact ⟨L, _, _, V.int (v'' - 10 ^ 30), rfl, rfl, SqL.of hLs, rfl, k _ _ MA eA (by omega) (by omega)⟩
end
end One
end P_Q3

section P_Q4
set_option linter.all false
set_option maxRecDepth 100000
set_option maxHeartbeats 8000000
namespace One
open PySem PySem.Spec PyProof.Rows L2
theorem tr_shaped (ts : List Three) : SeqAt.shaped (.list (ts.map trD)) = true := by
  unfold SeqAt.shaped
  have h1 : PyData.canLay0 (.list (ts.map trD)) = true := tr_lay ts
  have h2 : PyData.depth (.list (ts.map trD)) ≤ 64 := by
    show PyData.depthAll (ts.map trD) + 1 ≤ 64
    have := tr_depth ts
    omega
  rw [h1, decide_eq_true h2]
  rfl
section
variable {P : Program} {w : World} {K : PySem.W.Frag} {mg : Str → Option Value} {base : Heap}
theorem ok_worths {f fN fO fW : Addr} {fd fdN fdO fdW : FuncData} (F : Fun K "_law_worths" "_law_worths" sWts f fd) (T : TB mg) (N : Cal K mg "_law_next" fN fdN ["m", "total"]) (GN : FnOk P w K mg base CX0 1 fN fdN ["m", "total"] (spNext K))
    (O : Cal K mg "_law_of" fO fdO ["m", "some"]) (GO : FnOk P w K mg base CX0 2 fO fdO ["m", "some"] (spOf K)) (W : Cal K mg "_law_worth" fW fdW ["m"]) (GW : FnOk P w K mg base CX0 2 fW fdW ["m"] (spWth K)) : FnOk P w K mg base CX0 3 f fd ["m", "yard"] (spWts K) := by
  refine F.ok scWts (fun vs H Q E h => ?_) (fun cdv A outer s H vs Q E hr h => ?_)
  · obtain ⟨p, a, y, n, m, ps, rfl, _⟩ := h
    rfl
  · obtain ⟨p, a, y, n, m, ps, rfl, M, hn, hY, h40, k⟩ := h
    have nd := scWts.nd
    have hr1 : Room 1 _ := hr.mono (by decide)
    have hr2 : Room 2 _ := hr
    have hu : (A.deeper (envOfC "_law_worths" (defScope sWts) s.heap.objs.size f cdv)).units + 64 < cLine := hr.units
    refine ⟨_, pss_cons (ps_set (i := 2) nd rfl (Or.inl rfl) (pe_lst pa_nil))
      (pss_cons (ps_for PassesOwn.never rfl (pi_range1 (by rfl) T.range (pa_cons (pe_op op_fdiv (pe_callB call_len_seq (by rfl) T.len PySem.boot_len (pa_cons (pv 1) pa_nil)) pe_int) pa_nil)) (pg_name (i := 3) nd rfl (Or.inl rfl))
        (pss_cons (ps_set (i := 4) nd rfl (Or.inl rfl) (pe_tupleOf (by rfl) T.tuple (pe_lc (own := [("way", 5)]) (g := (gName 5)) (tt := tYes) (te := (tCall (spWth K) [] E0 (tCons (tVar 0) tNil))) rfl nd (pi_range1 (by rfl) T.range (pa_cons pe_int pa_nil)) (blkOk_by (N := nWts) (sc := defScope sWts) (by decide +kernel)) (fun _ _ _ _ _ => pg_name (i := 5) nd rfl (Or.inl rfl)) (fun _ _ _ _ _ => pts_nil) (fun _ _ _ _ _ => by exact (pe_call GW hr2 rfl W.g W.kp W.b .nil pass0 (pa_cons (pv 0) pa_nil))))))
      (pss_one (ps_expr (pe_bm PySem.F.plainAttrs_list PySem.F.slot_list_append PySem.F.type_list_append mt_append (pv 2) (pa_cons (pe_mid (pe_ifExp (PW.pt (pw_and (pt_cmpR (op_neD (by exact hu)) (pv 2) (pe_lst pa_nil) (nomark _)) (pw_and1 (pt_cmpR op_eq (pe_call GN hr1 rfl N.g N.kp N.b .nil pass0 (pa_cons (pv 0) (pa_cons pe_int pa_nil))) pe_int (nomark _))))) (pe_call GO hr2 rfl O.g O.kp O.b .nil pass0 (pa_cons (pv 0) (pa_cons (pv 2) pa_nil))) (pv 4))) pa_nil))))))
      (pss_one (ps_ret (pe_tupleOf (by rfl) T.tuple (pv 2))))), ?_⟩
    obtain ⟨Y, ys, ht, hP⟩ := id hY
    have hlen : (refs ys).length = 2 * m := by rw [List.length_map, hP.len, Y.lines.len]
    have e2 : (((refs ys).length : Nat) : Int) / 2 = ((m : Nat) : Int) := by rw [hlen]; omega
    refine ⟨Nat.zero_le _, fun L hL => ?_⟩
    have sL := Same.new (o := .lst []) hL
    refine ⟨_, rfl, y, _, rfl, .inr (SqT.of (sL _ _ ht)), _, _, rfl, rfl, ⟨by decide, by decide⟩, _, rfl, ?_, ?_, ?_⟩
    · rw [e2]; omega
    · rw [e2]; omega
    rw [e2, show ((m : Nat) : Int).toNat = m by omega]
    refine for_range (lo := 0) (n := m) (fun i σ H' => ∃ (v3 v4 v5 : Option V) (as : List Addr) (ts : List Three), σ = [some (.ref p), some (.ref y), some (.ref L), v3, v4, v5] ∧ H' L = some (.lst (refs as)) ∧ TLs H' as ts ∧ ts.length = i ∧ (∀ x ∈ ts, x.ok) ∧ MT K H' p a (n + 14 * i) ∧ Ext p H H')
      ⟨none, none, none, [], [], rfl, upd_same, .nil, rfl, fun x h => absurd h (by simp), M.keep sL, Ext.same sL⟩ ?_ ?_
    · rintro i σ H1 hi ⟨v3, v4, v5, as, ts, rfl, h1, hT, hlt, hok, M1, e1⟩
      refine ⟨3, rfl, by decide, by decide, fun D hD => ?_⟩
      have sD := Same.new (o := .lst []) hD
      refine lc_it (walk_range (lo := 0) (n := (3 : Int).toNat)) (fun j H6 => ∃ vs : List Int, vs.length = j ∧ H6 D = some (.lst (vs.map V.int)) ∧ (∀ v ∈ vs, -(10 ^ 30) ≤ v ∧ v ≤ 10 ^ 30) ∧ MT K H6 p a (n + 14 * i + 4 * j) ∧ Ext p H1 H6) ⟨[], rfl, upd_same, fun v h => absurd h (by simp), M1.keep sD, Ext.same sD⟩ (fun _ _ _ _ => trivial) ?_ ?_
      · rintro j v H6 H7 hj ⟨vs, lv, h6, b6, M6, e6⟩ ⟨rfl, rfl⟩
        have hj : j < 3 := hj
        refine ⟨rfl, yes ⟨_, rfl, p, a, _, rfl, M6, by omega, fun H8 v M8 e8 v0 v1 => ?_⟩⟩
        have h8 := e8 _ _ (M6.dict.neL h6) h6
        refine ⟨_, h8, small1000 (by rw [List.length_map]; omega), vs ++ [v], ?_, ?_, ?_, ?_, ?_⟩
        · rw [List.length_append, lv]
          rfl
        · rw [upd_same, List.map_append]
          rfl
        · intro z hz
          rcases List.mem_append.mp hz with hz | hz
          · exact b6 z hz
          · rw [List.mem_singleton.mp hz]
            exact ⟨v0, v1⟩
        · exact (MT.wrN M1 hD (e6.trans e8) M8 h8).lt (by omega) (by omega)
        · exact (e6.trans e8).wr hD
      · rintro H6 ⟨vs, lv, h6, b6, M6, e6⟩
        have lv : vs.length = 3 := lv
        obtain ⟨x, ex, xok⟩ : ∃ x : Three, vs.map V.int = x.vals ∧ x.ok := by
          match vs, lv, b6 with
          | [q1, q2, q3], _, b =>
            refine ⟨⟨q1, q2, q3⟩, rfl, fun i hi => ?_⟩
            have hc : i = 0 ∨ i = 1 ∨ i = 2 := by omega
            rcases hc with rfl | rfl | rfl
            · exact b q1 (by simp)
            · exact b q2 (by simp)
            · exact b q3 (by simp)
        rw [ex] at h6
        have M6 : MT K H6 p a (n + 14 * i + 12) := M6
        refine .inl ⟨D, _, rfl, SqL.of h6, fun u hu' => ?_⟩
        have s7 := Same.new (o := .tup x.vals) hu'
        have e7 : Ext p H1 (upd H6 u (.tup x.vals)) := e6.trans (Ext.same s7)
        have M7 := M6.keep s7
        have hu7 : (upd H6 u (.tup x.vals)) u = some (.tup x.vals) := upd_same
        generalize upd H6 u (.tup x.vals) = H7 at s7 e7 M7 hu7
        have h7 := e7 _ _ (M1.dict.neL h1) h1
        have hT7 := hT.mono (tupD M1.dict e7)
        have e07 := e1.trans e7
        refine ⟨_, rfl, .inl ⟨rfl, _, SqL.of h7⟩, fun v H9 => ∃ (c : Addr) (x : Three), v = .ref c ∧ H9 c = some (.tup x.vals) ∧ x.ok ∧ H9 L = some (.lst (refs as)) ∧ TLs H9 as ts ∧ MT K H9 p a (n + 14 * i + 14) ∧ Ext p H H9, ?_, ?_⟩
        · refine ⟨_, rfl, Nat.zero_le _, fun z hz => ?_⟩
          have sz := Same.new (o := .lst []) hz
          refine ⟨.list (ts.map trD), .list [], .lst (SqL.of (sz _ _ h7)) (dp_threes (hT7.mono (sameT sz))), .lst (SqL.of upd_same) .nil, tr_shaped _, rfl, _, rfl, ?_⟩
          rw [tr_ne]
          have h8 := sz _ _ h7
          have hT8 := hT7.mono (sameT sz)
          have M8 := M7.keep sz
          have e8 := e07.trans (Ext.same sz)
          have hu8 := sz _ _ hu7
          generalize upd H7 z (.lst []) = H8 at h8 hT8 M8 e8 hu8
          cases hc : ts.isEmpty with
          | true =>
            refine iteF (iteF ⟨_, rfl, u, x, rfl, hu8, xok, h8, hT8, M8.lt (by omega) (by omega), e8⟩)
          | false =>
            refine iteT ⟨_, rfl, p, a, _, _, rfl, M8, by omega, by decide, by decide, fun H9 q M9 e9 q0 q4 => ⟨rfl, _, rfl, ?_⟩⟩
            have h9 := e9 _ _ (M8.dict.neL h8) h8
            have hT9 := hT8.mono (tupD M8.dict e9)
            have e09 := e8.trans e9
            refine ite2 (fun hb => ?_) (fun hb => ?_)
            · have l0 : 0 < ts.length := by
                cases ts with
                | nil => cases hc
                | cons _ _ => exact Nat.succ_pos _
              have la : (refs as).length = ts.length := by rw [List.length_map, hT.len]
              refine ⟨_, rfl, _, rfl, p, a, L, _, _, rfl, M9, by omega, SqL.of h9, by omega, by omega, fun HA j v MA eA hv => ?_⟩
              obtain ⟨c, hc'⟩ : ∃ c, as[j]? = some c := by
                rw [List.getElem?_map] at hv
                cases e : as[j]? with
                | none =>
                  rw [e] at hv
                  cases hv
                | some c => exact ⟨c, rfl⟩
              rw [List.getElem?_map, hc'] at hv
              cases hv
              obtain ⟨x2, hx2, hcx⟩ := hT9.got hc'
              have kA := tupD M9.dict eA
              exact ⟨c, x2, rfl, kA _ _ hcx, hok x2 (List.mem_of_getElem? hx2), eA _ _ (M9.dict.neL h9) h9, hT9.mono kA, MA.lt (by omega) (by omega), e09.trans eA⟩
            · exact ⟨_, rfl, u, x, rfl, tupD M8.dict e9 _ _ hu8, xok, h9, hT9, M9.lt (by omega) (by omega), e09⟩
        · rintro v H9 ⟨c, x9, rfl, hc, xo, h9, hT9, M9, e9⟩
          refine ⟨L, _, _, rfl, rfl, h9, small1000 (by rw [List.length_map, hT.len]; omega), ?_⟩
          have nLp := M9.dict.neL h9
          have k9 : ∀ b xs, H9 b = some (.tup xs) → (upd H9 L (.lst (refs as ++ [V.ref c]))) b = some (.tup xs) := fun b xs h => (upd_ne (ne_of h h9 (by intro z; cases z))).trans h
          refine ⟨_, _, _, as ++ [c], ts ++ [x9], rfl, ?_, (hT9.mono k9).app (.cons (k9 _ _ hc) .nil), by rw [List.length_append, hlt]; rfl, ?_, ?_, e9.wr hL⟩
          · rw [upd_same, refs_app]
            rfl
          · intro z hz
            rcases List.mem_append.mp hz with hz | hz
            · exact hok z hz
            · rw [List.mem_singleton.mp hz]
              exact xo
          · exact (MT.wrN M hL e9 M9 h9).lt (by omega) (by omega)
    · rintro σ H1 ⟨v3, v4, v5, as, ts, rfl, h1, hT, hlt, hok, M1, e1⟩
      refine ⟨_, rfl, .inl ⟨L, _, rfl, SqL.of h1, fun u hu' => ?_⟩⟩
      have s2 := Same.new (o := .tup (refs as)) hu'
      exact k _ u ts (M1.keep s2) (e1.trans (Ext.same s2)) ⟨hlt, hok, as, upd_same, hT.mono (sameT s2)⟩
end
end One
end P_Q4

section P_Q9x
set_option linter.all false
set_option maxRecDepth 100000
set_option maxHeartbeats 16000000
namespace One
open PySem PySem.Spec PyProof.Rows L2
theorem dp_nats {K : PySem.W.Frag} {H : Hp} : ∀ rs : List Nat, DpAll K H (nats rs) (rs.map fun x => PyData.int (x : Nat))
  | [] => .nil
  | _ :: r => .cons (.int _) (dp_nats r)
theorem MT.keepN {K : PySem.W.Frag} {H H' : Hp} {p a : Addr} {n : Nat} (M : MT K H p a n) (k : LamX.ExtN H H') : MT K H' p a n := by
  obtain ⟨ns, q, l, h1, h2, r⟩ := M.ex
  refine ⟨⟨ns, q, l, k _ _ h1 (fun ps z => by cases z), ?_, r⟩, M.nn⟩
  rcases h2 with (h | ⟨ob, h⟩) | h
  · exact .inl (.inl (k _ _ h (fun ps z => by cases z)))
  · exact .inl (.inr ⟨ob, k _ _ h (fun ps z => by cases z)⟩)
  · exact .inr h
theorem tupN {H H' : Hp} (k : LamX.ExtN H H') : ∀ b xs, H b = some (.tup xs) → H' b = some (.tup xs) := fun b xs e => k _ _ e (fun ps z => by cases z)
theorem tabs_dict {T : List (Addr × Str)} {H H' : Hp} {p : Addr} (t : LamX.Tabs T H) (hd : DictAt H p) (e : Ext p H H') : LamX.Tabs T H' := fun q hq => by
  obtain ⟨kvs, hp⟩ := hd
  obtain ⟨ps, h1, h2, h3⟩ := t q hq
  refine ⟨ps, e _ _ (fun z => by rw [z, hp] at h1; cases h1) h1, h2, fun pos cv hcv => ?_⟩
  obtain ⟨c', rfl, hc⟩ := h3 pos cv hcv
  refine ⟨c', rfl, e _ _ (fun z => by rw [z, hp] at hc; cases hc) hc⟩
/-- a def whose code object stands at c -/
structure FunC (K : PySem.W.Frag) (x qual : Str) (st : Stmt) (f : Addr) (fd : FuncData) (c : Addr) : Prop where
  ex : ∃ (oc : Value) (od : Option Addr) (kV doc pm : Value) (an : Option Addr) (ct : Value) (osl : Array (Option Value)),
    fd = PySem.W.fnOf x qual (defArgs st) (defBody st) (defScope st) .none kV doc pm an (.ref c) ct ∧ K.lookup f = some ⟨oc, od, .func fd, osl⟩ ∧ PySem.W.codeIn K (.ref c) qual = true
section
variable {P : Program} {w : World} {K : PySem.W.Frag} {mg : Str → Option Value} {base : Heap}
theorem okGC {x qual : Str} {st : Stmt} {f c : Addr} {fd : FuncData} {N ps : List Str} {k : Nat} {sp : Sp} (F : FunC K x qual st f fd c) (S : FnScope N ps (defScope st)) (len : ∀ vs H Q E, sp vs H Q E → vs.length = ps.length)
    (body : ∀ (A : Around) (outer : List Env) (s : Shared) (H : Hp) (vs : List V) (Q : VK) (E : XK), A.guards = some [] → Room k (A.deeper (envOfC qual (defScope st) s.heap.objs.size f (.ref c))) → sp vs H Q E →
      ∃ t, PSs (cxOf CX0 P w K mg base N qual (defScope st) f (.ref c) A outer s H E).nox (defBody st) t ∧ t { nx := fun _ H' => Q .non H', rt := Q } (start N vs) H) : FnG P w K mg base CX0 (k + 1) f fd ps sp := by
  obtain ⟨oc, od, kV, doc, pm, an, ct, osl, rfl, lk, hcd⟩ := F.ex
  exact ⟨len, fun A outer s H args us vs Q E hg hr e0 hb r hs => LamX.run_ofS lk hcd S hr e0 hb r (len _ _ _ _ hs) fun hr1 => let ⟨t, h, q⟩ := body A outer s H vs Q E hg hr1 hs; ⟨t, h.nox, q⟩⟩
end
end One
end P_Q9x

section P_QE
set_option linter.all false
set_option maxRecDepth 100000
set_option maxHeartbeats 8000000
namespace One
open PySem PySem.Spec PyProof.Rows L2
theorem cut_whole {xs : List V} {lo hi : Option Int} (h : HT.sIx xs.length 0 lo = 0 ∧ HT.sIx xs.length xs.length hi = xs.length) : cutV xs lo hi = xs := by
  unfold cutV
  rw [h.1, h.2, List.drop_zero, Nat.sub_zero, List.take_length]
theorem rd_slA {K : PySem.W.Frag} {H : Hp} {a : Addr} {xs : List V} {lo hi : Option Int} {Q : VK} (ha : H a = some (.tup xs)) (k : ∀ (H' : Hp) (p : Addr), Same H H' → H' p = some (.tup (cutV xs lo hi)) → Q (.ref p) H') : rSlA K (.ref a) lo hi H Q :=
  ⟨a, xs, rfl, SqT.of ha, fun h => k H a (Same.refl H) (by rw [cut_whole h]; exact ha), fun _ p hp => k _ p (Same.new hp) upd_same⟩
theorem rd_catA {K : PySem.W.Frag} {H : Hp} {a b : Addr} {xs ys : List V} {Q : VK} (ha : H a = some (.tup xs)) (hb : H b = some (.tup ys)) (hl : xs.length + ys.length ≤ sizeLine) (k : ∀ (H' : Hp) (p : Addr), Same H H' → H' p = some (.tup (xs ++ ys)) → Q (.ref p) H') : rCatA K (.ref a) (.ref b) H Q :=
  ⟨a, b, xs, ys, rfl, rfl, SqT.of ha, SqT.of hb, hl, fun e => k H b (Same.refl H) (by rw [e]; exact hb), fun _ e => k H a (Same.refl H) (by rw [e, List.append_nil]; exact ha), fun _ _ p hp => k _ p (Same.new hp) upd_same⟩
theorem cut_take {xs : List V} {i : Nat} (h : i ≤ xs.length) : cutV xs none (some (i : Nat)) = xs.take i := by
  unfold cutV
  rw [HT.sIx_none, HT.sIx_nat, List.drop_zero, Nat.sub_zero, Nat.min_eq_left h]
theorem cut_drop {xs : List V} {i : Nat} (h : i ≤ xs.length) : cutV xs (some (i : Nat)) none = xs.drop i := by
  unfold cutV
  rw [HT.sIx_none, HT.sIx_nat, Nat.min_eq_left h]
  exact List.take_of_length_le (by rw [List.length_drop]; omega)
theorem cut_init {xs : List V} : cutV xs none (some (-1)) = xs.take (xs.length - 1) := by
  unfold cutV
  have e : HT.sIx xs.length xs.length (some (-1)) = xs.length - 1 := by
    show (if (-1 : Int) < 0 then ((-1 : Int) + (xs.length : Int)).toNat else min (-1 : Int).toNat xs.length) = xs.length - 1
    rw [if_pos (by decide)]
    omega
  rw [HT.sIx_none, e, List.drop_zero, Nat.sub_zero]
/-- one put in the place of another -/
def put_ (xs : List V) (i : Nat) (v : V) : List V := (xs.take i ++ [v]) ++ xs.drop (i + 1)
theorem pt_len {xs : List V} {i : Nat} {v : V} (h : i < xs.length) : (put_ xs i v).length = xs.length := by
  unfold put_
  simp only [List.length_append, List.length_take, List.length_drop, List.length_cons, List.length_nil]
  omega
theorem pt_at {xs : List V} {i : Nat} {v : V} (h : i < xs.length) : (put_ xs i v)[i]? = some v := by
  have e : (xs.take i).length = i := by rw [List.length_take]; omega
  unfold put_
  rw [List.append_assoc, List.getElem?_append_right (by omega), e, Nat.sub_self]
  rfl
theorem pt_take {xs : List V} {i : Nat} {v : V} (h : i < xs.length) : (put_ xs i v).take i = xs.take i := by
  have e : (xs.take i).length = i := by rw [List.length_take]; omega
  unfold put_
  rw [List.append_assoc, List.take_append_of_le_length (by omega), List.take_of_length_le (by omega)]
theorem pt_mem {xs : List V} {i : Nat} {v x : V} (h : x ∈ put_ xs i v) : x = v ∨ x ∈ xs := by
  unfold put_ at h
  rcases List.mem_append.mp h with h | h
  · rcases List.mem_append.mp h with h | h
    · exact .inr (List.mem_of_mem_take h)
    · exact .inl (List.mem_singleton.mp h)
  · exact .inr (List.mem_of_mem_drop h)
/-- what stands stays of its kind -/
structure Kp (p : Addr) (H H' : Hp) : Prop where
  tup : ∀ b xs, H b = some (.tup xs) → H' b = some (.tup xs)
  lst : ∀ b xs, H b = some (.lst xs) → ∃ ys, H' b = some (.lst ys)
  dct : ∀ b k, b ≠ p → H b = some (.dK k) → ∃ k', H' b = some (.dK k')
theorem Kp.same {p : Addr} {H H' : Hp} (s : Same H H') : Kp p H H' := ⟨fun b xs e => s _ _ e, fun b xs e => ⟨_, s _ _ e⟩, fun b k _ e => ⟨_, s _ _ e⟩⟩
theorem Kp.ext {p : Addr} {H H' : Hp} (d : DictAt H p) (s : Ext p H H') : Kp p H H' := ⟨fun b xs e => tupD d s _ _ e, fun b xs e => ⟨_, s _ _ (d.neL e) e⟩, fun b k n e => ⟨_, s _ _ n e⟩⟩
theorem Kp.put {p L : Addr} {H : Hp} {xs ys : List V} (h : H L = some (.lst xs)) : Kp p H (upd H L (.lst ys)) :=
  ⟨fun b zs e => (upd_ne (ne_of e h (by intro z; cases z))).trans e, fun b zs e => by
    by_cases hb : b = L
    · subst hb
      exact ⟨_, upd_same⟩
    · exact ⟨_, (upd_ne hb).trans e⟩, fun b k _ e => ⟨_, (upd_ne (ne_of e h (by intro z; cases z))).trans e⟩⟩
theorem Kp.tv {p : Addr} {H H' : Hp} (k : Kp p H H') {v : V} {T : String} (h : TV H v T) (n : v ≠ .ref p) : TV H' v T := by
  cases h with
  | non => exact .non
  | bl b => exact .bl b
  | int i => exact .int i
  | str x => exact .str x
  | tup e => exact .tup (k.tup _ _ e)
  | lst e =>
    obtain ⟨ys, e'⟩ := k.lst _ _ e
    exact .lst e'
  | dct e =>
    obtain ⟨ys, e'⟩ := k.dct _ _ (fun z => n (by rw [z])) e
    exact .dct e'
/-- of a kind, and what is in it too -/
def DTV (p : Addr) (H : Hp) (x : V) : Prop := x ≠ .ref p ∧ ∃ T, TV H x T ∧ ∀ a ys, x = .ref a → H a = some (.tup ys) → ∀ y ∈ ys, y ≠ .ref p ∧ ∃ T, TV H y T
theorem DTV.mono {p : Addr} {H H' : Hp} (k : Kp p H H') {x : V} (h : DTV p H x) : DTV p H' x := by
  obtain ⟨n, T, h1, h2⟩ := h
  refine ⟨n, T, k.tv h1 n, fun a ys e ha y hy => ?_⟩
  subst e
  cases h1 with
  | tup e =>
    have := (k.tup _ _ e).symm.trans ha
    cases this
    obtain ⟨n', T', h'⟩ := h2 a _ rfl e y hy
    exact ⟨n', T', k.tv h' n'⟩
  | lst e =>
    obtain ⟨zs, e'⟩ := k.lst _ _ e
    cases e'.symm.trans ha
  | dct e =>
    obtain ⟨zs, e'⟩ := k.dct _ _ (fun z => n (by rw [z])) e
    cases e'.symm.trans ha
theorem DictAt.neV {H : Hp} {p b : Addr} {o : HO} (d : DictAt H p) (h : H b = some o) (n : ∀ k, o ≠ .dK k) : V.ref b ≠ V.ref p := fun z => by
  cases z
  obtain ⟨k, e⟩ := d
  rw [e] at h
  exact n _ (Option.some.inj h).symm
theorem dtv_tup {H : Hp} {p b : Addr} {zs : List V} (d : DictAt H p) (h : H b = some (.tup zs)) (k : ∀ y ∈ zs, y ≠ V.ref p ∧ ∃ T, TV H y T) : DTV p H (.ref b) := ⟨d.neV h (fun k z => by cases z), _, .tup h, fun a ys e ha y hy => by
  cases e
  cases h.symm.trans ha
  exact k y hy⟩
theorem dtv_lst {H : Hp} {p b : Addr} {zs : List V} (d : DictAt H p) (h : H b = some (.lst zs)) : DTV p H (.ref b) := ⟨d.neV h (fun k z => by cases z), _, .lst h, fun a ys e ha => by
  cases e
  cases h.symm.trans ha⟩
theorem dtv_flat {H : Hp} {p : Addr} {v : V} {T : String} (h : TV H v T) (k : ∀ a, v ≠ .ref a) : DTV p H v := ⟨k p, T, h, fun a ys e => absurd e (k a)⟩
theorem SeqF.kp {ok : V → Bool} {n : Nat} {p : Addr} {H H' : Hp} {v : V} {r : Option (List Nat)} (d : DTV p H v) (h : SeqF ok n H v r) (k : Kp p H H') : SeqF ok n H' v r := by
  obtain ⟨nv, T, hv, hin⟩ := d
  rcases h with ⟨h, e⟩ | ⟨a, ys, rfl, h1, h2, h3, h4⟩
  · refine .inl ⟨fun a ys ea ha => ?_, e⟩
    subst ea
    cases hv with
    | tup q => exact h a _ rfl (by
        have := (k.tup _ _ q).symm.trans ha
        cases this
        exact q)
    | lst q =>
      obtain ⟨zs, q'⟩ := k.lst _ _ q
      cases q'.symm.trans ha
    | dct q =>
      obtain ⟨zs, q'⟩ := k.dct _ _ (fun z => nv (by rw [z])) q
      cases q'.symm.trans ha
  · refine .inr ⟨a, ys, rfl, k.tup _ _ h1, h2, fun y m => ?_, h4⟩
    obtain ⟨n', T', q⟩ := hin a ys rfl h1 y m
    exact ⟨T', k.tv q n'⟩
abbrev sOW : Stmt := top 60
abbrev nOW : List Str := ["m", "ways", "odd", "at", "way"]
theorem scOW : FnScope nOW ["m", "ways"] (defScope sOW) := ⟨rfl, rfl, rfl, by decide +kernel, rfl, by decide +kernel, by decide +kernel⟩
def spOW (K : PySem.W.Frag) : Sp := fun vs H Q _ => ∃ (p a u : Addr) (n m : Nat) (ws : List Nat), vs = [.ref p, .ref u] ∧ MT K H p a n ∧ n ≤ 900000 ∧ SetAt H u m ws ∧ 0 < m ∧ m ≤ 40 ∧
  ∀ (H' : Hp) (q z : Addr) (v : V) (l : List Nat), MT K H' p a (n + 2) → Ext p H H' → H' q = some (.tup [v, .ref z]) → H' z = some (.tup (nats l)) → DTV p H' v → SeqF (okW false) m H' v (some l) → Q (.ref q) H'
section
variable {P : Program} {w : World} {K : PySem.W.Frag} {mg : Str → Option Value} {base : Heap}
theorem ok_ow {f fN : Addr} {fd fdN : FuncData} (F : Fun K "_law_other_ways" "_law_other_ways" sOW f fd) (T : TB mg) (N : Cal K mg "_law_next" fN fdN ["m", "total"]) (GN : FnOk P w K mg base CX0 1 fN fdN ["m", "total"] (spNext K)) : FnOk P w K mg base CX0 2 f fd ["m", "ways"] (spOW K) := by
  refine F.ok scOW (fun vs H Q E h => ?_) (fun cdv A outer s H vs Q E hr h => ?_)
  · obtain ⟨p, a, u, n, m, ws, rfl, _⟩ := h
    rfl
  · obtain ⟨p, a, u, n, m, ws, rfl, M, hn, hS, h0, h40, k⟩ := h
    have nd := scOW.nd
    have hr1 : Room 1 _ := hr
    refine ⟨_, pss_cons (ps_par (i := 2) (j := 3) (by rfl) nd rfl rfl (by decide) rfl rfl (pa_cons (pe_call GN hr1 rfl N.g N.kp N.b .nil pass0 (pa_cons (pv 0) (pa_cons pe_int pa_nil))) (pa_cons (pe_call GN hr1 rfl N.g N.kp N.b .nil pass0 (pa_cons (pv 0) (pa_cons (pe_callB call_len_seq (by rfl) T.len PySem.boot_len (pa_cons (pv 1) pa_nil)) pa_nil))) pa_nil)) (by rfl))
      (pss_cons (ps_if (pt_cmpR op_lt (pv 2) pe_int (nomark _)) (pss_cons (ps_set (i := 4) nd rfl (Or.inl rfl) (pe_mid (pe_ix ix_list (pe_lst (pa_cons pe_int (pa_cons (pe_op op_sub pe_int pe_int) (pa_cons pe_bl (pa_cons pe_non (pa_cons pe_str (pa_cons (pe_tup (pa_cons pe_int pa_nil)) pa_nil))))))) (pv 2) (fun _ _ => rfl))))
      (pss_one (ps_ret (pe_tup (pa_cons (pe_op op_catA (pe_op op_catA (pe_slice sl_tupA (pv 1) po_none (po_some (pv 3))) (pe_tup (pa_cons (pv 4) pa_nil))) (pe_slice sl_tupA (pv 1) (po_some (pe_op op_add (pv 3) pe_int)) po_none)) (pa_cons (pe_tup (pa_cons (pv 3) pa_nil)) pa_nil)))))) pss_nil)
      (pss_one (ps_ret (pe_tup (pa_cons (pe_mid (pe_ix ix_list (pe_lst (pa_cons (pe_callTy call_list_of (by rfl) T.list (by decide +kernel) (pa_cons (pv 1) pa_nil) (by decide)) (pa_cons (pe_slice sl_tupA (pv 1) po_none (po_some (pe_un un_neg pe_int))) (pa_cons (pe_op op_catA (pv 1) (pe_slice sl_tupA (pv 1) po_none (po_some pe_int))) (pa_cons pe_non (pa_cons pe_int pa_nil)))))) (pe_op op_sub (pv 2) pe_int) (fun _ _ => rfl))) (pa_cons (pe_tup pa_nil) pa_nil)))))), ?_⟩
    refine ⟨_, rfl, p, a, n, _, rfl, M, by omega, by decide, by decide, fun H1 odd M1 e1 o0 o1 => ?_⟩
    have hu1 := tupD M.dict e1 _ _ hS.here
    have lw : (nats ws).length = m := (List.length_map _).trans hS.len
    refine ⟨_, rfl, _, rfl, u, _, rfl, .inr (SqT.of hu1), p, a, n + 1, _, rfl, M1, by omega, by rw [lw]; omega, by rw [lw]; omega, fun H2 at' M2 e2 a0 a1 => ?_⟩
    have hu2 := tupD M1.dict e2 _ _ hu1
    rw [lw] at a1
    obtain ⟨i, rfl⟩ : ∃ i : Nat, at' = (i : Nat) := ⟨at'.toNat, by omega⟩
    have hi : i < m := by omega
    have e12 := e1.trans e2
    have okall : (nats ws).all (okW false) = true := List.all_eq_true.mpr fun x hx => by
      obtain ⟨z, hz, rfl⟩ := List.mem_map.mp hx
      have := hS.lt z hz
      show (((decide (0 ≤ ((z : Nat) : Int)) && decide (((z : Nat) : Int) < 3))) || _) = true
      rw [decide_eq_true (by omega : 0 ≤ ((z : Nat) : Int)), decide_eq_true (by omega : ((z : Nat) : Int) < 3)]
      rfl
    have tvall : ∀ x ∈ nats ws, ∀ (H : Hp), TV H x "int" := fun x hx H => by
      obtain ⟨z, hz, rfl⟩ := List.mem_map.mp hx
      exact .int _
    have nref : ∀ x ∈ nats ws, x ≠ V.ref p := fun x hx => by
      obtain ⟨z, hz, rfl⟩ := List.mem_map.mp hx
      exact fun z => by cases z
    refine ⟨_, _, rfl, _, rfl, _, _, rfl, rfl, _, rfl, ite2 (fun hb => ?_) (fun hb => ?_)⟩
    · have hb : odd < 6 := of_decide_eq_true hb
      refine ⟨fun v H' => ∃ Tt : String, TV H' v Tt ∧ v ≠ .ref p ∧ okW false v = false ∧ MT K H' p a (n + 2) ∧ Ext p H2 H', ?_, ?_⟩
      · refine ⟨_, _, rfl, rfl, (by show 1 ≤ sizeLine; decide), fun tq htq => ⟨(by show 6 ≤ sizeLine; decide), fun L hL => ?_⟩⟩
        have z1 := Same.new (o := .tup [V.int 0]) htq
        have z2 := Same.new (o := .lst [V.int 3, V.int (0 - 1), V.bl true, V.non, V.str "b", V.ref tq]) hL
        have zA := z1.trans z2
        have kt := z2 _ _ (upd_same (H := H2) (a := tq) (o := .tup [V.int 0]))
        have kL := upd_same (H := upd H2 tq (.tup [V.int 0])) (a := L) (o := .lst [V.int 3, V.int (0 - 1), V.bl true, V.non, V.str "b", V.ref tq])
        have MA := M2.keep zA
        generalize upd (upd H2 tq (.tup [V.int 0])) L (.lst [V.int 3, V.int (0 - 1), V.bl true, V.non, V.str "b", V.ref tq]) = HA at zA kt kL MA ⊢
        have c6 : odd = 0 ∨ odd = 1 ∨ odd = 2 ∨ odd = 3 ∨ odd = 4 ∨ odd = 5 := by omega
        rcases c6 with rfl | rfl | rfl | rfl | rfl | rfl
        · exact ⟨_, rfl, L, _, _, _, rfl, rfl, SqL.of kL, rfl, _, .int _, (fun z => by cases z), rfl, MA, Ext.same zA⟩
        · exact ⟨_, rfl, L, _, _, _, rfl, rfl, SqL.of kL, rfl, _, .int _, (fun z => by cases z), rfl, MA, Ext.same zA⟩
        · exact ⟨_, rfl, L, _, _, _, rfl, rfl, SqL.of kL, rfl, _, .bl _, (fun z => by cases z), rfl, MA, Ext.same zA⟩
        · exact ⟨_, rfl, L, _, _, _, rfl, rfl, SqL.of kL, rfl, _, .non, (fun z => by cases z), rfl, MA, Ext.same zA⟩
        · exact ⟨_, rfl, L, _, _, _, rfl, rfl, SqL.of kL, rfl, _, .str _, (fun z => by cases z), rfl, MA, Ext.same zA⟩
        · exact ⟨_, rfl, L, _, _, _, rfl, rfl, SqL.of kL, rfl, _, .tup kt, MA.dict.neV kt (fun k z => by cases z), rfl, MA, Ext.same zA⟩
      · rintro v H3 ⟨Tt, hv, nv, hbad, M3, e3⟩
        have hu3 := tupD M2.dict e3 _ _ hu2
        have e03 := e12.trans e3
        refine ⟨_, rfl, _, rfl, _, rfl, rd_slA hu3 fun H4 b1 s4 h4 => ?_⟩
        rw [cut_take (by omega)] at h4
        refine ⟨_, rfl, (by show 1 ≤ sizeLine; decide), fun b2 hb2 => ?_⟩
        have s5 := Same.new (o := .tup [v]) hb2
        have h5 := upd_same (H := H4) (a := b2) (o := .tup [v])
        have h45 := s5 _ _ h4
        generalize upd H4 b2 (.tup [v]) = H5 at s5 h5 h45
        have big : ∀ {x y : Nat}, x + y ≤ 100 → x + y ≤ sizeLine := fun h => Nat.le_trans h (by decide)
        refine rd_catA h45 h5 (big (by rw [List.length_take]; show _ + 1 ≤ 100; omega)) fun H6 b3 s6 h6 => ?_
        have s36 := s4.trans (s5.trans s6)
        refine ⟨_, rfl, _, rfl, _, _, rfl, rfl, _, rfl, ?_⟩
        unfold tNoPart
        dsimp only
        refine rd_slA (s36 _ _ hu3) fun H7 b4 s7 h7 => ?_
        rw [show ((i : Nat) : Int) + 1 = ((i + 1 : Nat) : Int) by omega, cut_drop (by omega)] at h7
        refine rd_catA (s7 _ _ h6) h7 (big ?_) fun H8 b5 s8 h8 => ?_
        · rw [List.length_append, List.length_take, List.length_drop]
          show _ + 1 + _ ≤ 100
          omega
        have h8 : H8 b5 = some (.tup (put_ (nats ws) i v)) := h8
        refine ⟨_, rfl, (by show 1 ≤ sizeLine; decide), fun z hz => ⟨two_le, fun q hq => ?_⟩⟩
        have s9 := Same.new (o := .tup [V.int (i : Nat)]) hz
        have h9 := upd_same (H := H8) (a := z) (o := .tup [V.int (i : Nat)])
        have sA := Same.new (o := .tup [V.ref b5, V.ref z]) hq
        have s3A := s36.trans (s7.trans (s8.trans (s9.trans sA)))
        have h8A := sA _ _ (s9 _ _ h8)
        have lm : i < (nats ws).length := by omega
        refine k _ q z (.ref b5) [i] (M3.keep s3A) (e03.trans (Ext.same s3A)) upd_same (sA _ _ h9) (dtv_tup (M3.keep s3A).dict h8A fun x hx => ?_) (.inr ⟨b5, _, rfl, h8A, by rw [pt_len lm, lw], fun x hx => ?_, .inr ⟨i, v, pt_at lm, hbad, ?_, rfl⟩⟩)
        · rcases pt_mem hx with rfl | hx
          · exact ⟨nv, _, hv.mono s3A⟩
          · exact ⟨nref x hx, _, tvall x hx _⟩
        · rcases pt_mem hx with rfl | hx
          · exact ⟨_, hv.mono s3A⟩
          · exact ⟨_, tvall x hx _⟩
        · rw [pt_take lm]
          exact List.all_eq_true.mpr fun x hx => List.all_eq_true.mp okall x (List.mem_of_mem_take hx)
    · have hb : ¬ odd < 6 := fun z => hb (decide_eq_true z)
      refine ⟨fun v H' => DTV p H' v ∧ SeqF (okW false) m H' v (some []) ∧ MT K H' p a (n + 2) ∧ Ext p H2 H', ?_, ?_⟩
      · refine ⟨_, rfl, u, _, rfl, .inr (SqT.of hu2), fun l1 hl1 => ?_⟩
        have z1 := Same.new (o := .lst (nats ws)) hl1
        have k1 := upd_same (H := H2) (a := l1) (o := .lst (nats ws))
        generalize upd H2 l1 (.lst (nats ws)) = H3 at z1 k1
        refine ⟨_, rfl, _, rfl, _, rfl, rd_slA (z1 _ _ hu2) fun H4 b1 z2 k2 => ?_⟩
        have k2 : H4 b1 = some (.tup (cutV (nats ws) none (some (-1)))) := k2
        rw [cut_init] at k2
        refine ⟨_, rfl, _, rfl, _, rfl, rd_slA (z2 _ _ (z1 _ _ hu2)) fun H5 b2 z3 k3 => ?_⟩
        have k3 : H5 b2 = some (.tup (cutV (nats ws) none (some ((1 : Nat) : Int)))) := k3
        rw [cut_take (by omega)] at k3
        refine rd_catA (z3 _ _ (z2 _ _ (z1 _ _ hu2))) k3 (Nat.le_trans (m := 100) (by rw [List.length_take]; omega) (by decide)) fun H6 b3 z4 k4 => ⟨(by show 5 ≤ sizeLine; decide), fun L hL => ?_⟩
        have z5 := Same.new (o := .lst [V.ref l1, V.ref b1, V.ref b3, V.non, V.int 7]) hL
        have kL := upd_same (H := H6) (a := L) (o := .lst [V.ref l1, V.ref b1, V.ref b3, V.non, V.int 7])
        generalize upd H6 L (.lst [V.ref l1, V.ref b1, V.ref b3, V.non, V.int 7]) = H7 at z5 kL
        have zA := z1.trans (z2.trans (z3.trans (z4.trans z5)))
        have k1' := (z2.trans (z3.trans (z4.trans z5))) _ _ k1
        have k2' := (z3.trans (z4.trans z5)) _ _ k2
        have k4' := z5 _ _ k4
        have MA := M2.keep zA
        have noT : ∀ {v : V}, (∀ t, v ≠ .ref t) → SeqF (okW false) m H7 v (some []) := fun h => .inl ⟨fun a ys e _ => absurd e (h a), rfl⟩
        refine ⟨_, rfl, _, _, rfl, rfl, ?_⟩
        have c5 : odd - 6 = 0 ∨ odd - 6 = 1 ∨ odd - 6 = 2 ∨ odd - 6 = 3 ∨ odd - 6 = 4 := by omega
        show rIxL _ _ (V.int (odd - 6)) _ _
        rcases c5 with e | e | e | e | e <;> rw [e]
        · exact ⟨L, _, _, _, rfl, rfl, SqL.of kL, rfl, dtv_lst MA.dict k1', .inl ⟨fun a ys e ha => (by
            cases e
            cases k1'.symm.trans ha), rfl⟩, MA, Ext.same zA⟩
        · exact ⟨L, _, _, _, rfl, rfl, SqL.of kL, rfl, dtv_tup MA.dict k2' (fun x hx => ⟨nref x (List.mem_of_mem_take hx), _, tvall x (List.mem_of_mem_take hx) _⟩), .inl ⟨fun a ys e ha => (by
            cases e
            cases k2'.symm.trans ha
            rw [List.length_take]
            omega), rfl⟩, MA, Ext.same zA⟩
        · exact ⟨L, _, _, _, rfl, rfl, SqL.of kL, rfl, dtv_tup MA.dict k4' (fun x hx => (List.mem_append.mp hx).elim (fun hx => ⟨nref x hx, _, tvall x hx _⟩) (fun hx => ⟨nref x (List.mem_of_mem_take hx), _, tvall x (List.mem_of_mem_take hx) _⟩)), .inl ⟨fun a ys e ha => (by
            cases e
            cases k4'.symm.trans ha
            rw [List.length_append, List.length_take]
            omega), rfl⟩, MA, Ext.same zA⟩
        · exact ⟨L, _, _, _, rfl, rfl, SqL.of kL, rfl, dtv_flat .non (fun t z => by cases z), noT (fun t z => by cases z), MA, Ext.same zA⟩
        · exact ⟨L, _, _, _, rfl, rfl, SqL.of kL, rfl, dtv_flat (.int _) (fun t z => by cases z), noT (fun t z => by cases z), MA, Ext.same zA⟩
      · rintro v H3 ⟨hv, hbad, M3, e3⟩
        refine ⟨Nat.zero_le _, fun z hz => ⟨two_le, fun q hq => ?_⟩⟩
        have s9 := Same.new (o := .tup []) hz
        have h9 := upd_same (H := H3) (a := z) (o := .tup [])
        have sA := Same.new (o := .tup [v, V.ref z]) hq
        have s3A := s9.trans sA
        exact k _ q z v [] (M3.keep s3A) ((e12.trans e3).trans (Ext.same s3A)) upd_same (sA _ _ h9) (hv.mono (Kp.same s3A)) (SeqF.kp hv hbad (Kp.same s3A))
end
end One
end P_QE

section P_QF
set_option linter.all false
set_option maxRecDepth 100000
set_option maxHeartbeats 8000000
namespace One
open PySem PySem.Spec PyProof.Rows L2
theorem ixN_at {n j : Nat} (hj : j < n) : ixN n (j : Int) = some j := by
  unfold ixN
  rw [if_pos (by omega), if_pos (by omega), Int.toNat_natCast]
def CPowB (i j : Int) : Prop := 0 ≤ j ∧ (Builtin.Int.intBits i : Int) * j ≤ 2 ^ 27
theorem op_powB {X : Cx} : OpR X (binaryOp .Pow) (rI CPowB fun i j => .int (i ^ j.toNat)) := opI fun _ _ _ _ _ _ _ hc q => pow_int hc.1 hc.2 q
theorem powB_ok : CPowB (10 ^ (60 : Int).toNat) 60 := ⟨by decide, by decide +kernel⟩
theorem seq_ex (ok : V → Bool) (n : Nat) {H : Hp} {x : V} {T : String} (h : TV H x T) (d : ∀ a ys, x = .ref a → H a = some (.tup ys) → ∀ y ∈ ys, ∃ T, TV H y T) : ∃ r, SeqF ok n H x r ∧ ∀ l, r = some l → l.length ≤ 1 := by
  by_cases hx : ∃ a ys, x = .ref a ∧ H a = some (.tup ys) ∧ ys.length = n
  · obtain ⟨a, ys, rfl, h1, h2⟩ := hx
    rcases first_bad ok ys with hall | ⟨i, y, e1, e2, e3⟩
    · exact ⟨none, .inr ⟨a, ys, rfl, h1, h2, d a ys rfl h1, .inl ⟨hall, rfl⟩⟩, fun l z => by cases z⟩
    · exact ⟨some [i], .inr ⟨a, ys, rfl, h1, h2, d a ys rfl h1, .inr ⟨i, y, e1, e2, e3, rfl⟩⟩, fun l z => by
        cases z
        exact Nat.le_refl 1⟩
  · exact ⟨some [], .inl ⟨fun a ys e ha hl => hx ⟨a, ys, e, ha, hl⟩, rfl⟩, fun l z => by
      cases z
      exact Nat.zero_le _⟩
theorem all_or {H : Hp} : ∀ {xs : List V}, (∀ x ∈ xs, ∃ r, ThreeF H x r ∧ ∀ l, r = some l → l.length ≤ 1) → (∀ x ∈ xs, ThreeF H x none) ∨ ∃ (i : Nat) (x : V) (l : List Nat), xs[i]? = some x ∧ ThreeF H x (some l) ∧ (∀ z ∈ xs.take i, ThreeF H z none) ∧ l.length ≤ 1
  | [], _ => .inl fun x h => by simp at h
  | v :: xs, h => by
    obtain ⟨r, h1, h2⟩ := h v (List.mem_cons_self ..)
    cases r with
    | some l => exact .inr ⟨0, v, l, rfl, h1, fun z m => by simp at m, h2 l rfl⟩
    | none =>
      rcases all_or fun x hx => h x (List.mem_cons_of_mem _ hx) with k | ⟨i, x, l, k1, k2, k3, k4⟩
      · refine .inl fun x hx => ?_
        rcases List.mem_cons.mp hx with rfl | hx
        · exact h1
        · exact k x hx
      · refine .inr ⟨i + 1, x, l, k1, k2, fun z m => ?_, k4⟩
        rw [List.take_succ_cons] at m
        rcases List.mem_cons.mp m with rfl | m
        · exact h1
        · exact k3 z m
theorem worths_ex {H : Hp} {x : V} {T : String} (n : Nat) (h : TV H x T) (d : ∀ a ys, x = .ref a → H a = some (.tup ys) → ∀ y ∈ ys, ∃ T, TV H y T ∧ ∀ b zs, y = .ref b → H b = some (.tup zs) → ∀ z ∈ zs, ∃ T, TV H z T) : ∃ r, WorthsF H x n r := by
  by_cases hx : ∃ a ys, x = .ref a ∧ H a = some (.tup ys) ∧ ys.length = n
  · obtain ⟨a, ys, rfl, h1, h2⟩ := hx
    have dd := d a ys rfl h1
    have tv : ∀ y ∈ ys, ∃ T, TV H y T := fun y hy => (dd y hy).imp fun T q => q.1
    rcases all_or (H := H) (xs := ys) fun y hy => by
      obtain ⟨Ty, q1, q2⟩ := dd y hy
      exact seq_ex okWo 3 q1 q2 with k | ⟨i, y, l, k1, k2, k3, k4⟩
    · exact ⟨none, .inr ⟨a, ys, rfl, h1, h2, tv, .inl ⟨k, rfl⟩⟩⟩
    · exact ⟨some (i :: l), .inr ⟨a, ys, rfl, h1, h2, tv, .inr ⟨i, y, l, k1, k2, k3, k4, rfl⟩⟩⟩
  · exact ⟨some [], .inl ⟨fun a ys e ha hl => hx ⟨a, ys, e, ha, hl⟩, rfl⟩⟩
theorem three_dtv {p : Addr} {H : Hp} {c : Addr} {x : Three} (d : DictAt H p) (h : H c = some (.tup x.vals)) : DTV p H (.ref c) := by
  refine ⟨fun z => ?_, _, .tup h, fun a ys e ha y hy => ?_⟩
  · cases z
    obtain ⟨k, hd⟩ := d
    cases hd.symm.trans h
  · cases e
    cases h.symm.trans ha
    have hy : y ∈ [V.int x.a, V.int x.b, V.int x.c] := hy
    simp only [List.mem_cons, List.not_mem_nil, or_false] at hy
    rcases hy with rfl | rfl | rfl <;> exact ⟨(fun z => by cases z), _, .int _⟩
abbrev sBE : Stmt := top 59
abbrev nBE : List Str := ["m", "worths", "found", "turn", "odd", "at", "way", "triple", "numbers"]
theorem scBE : FnScope nBE ["m", "worths"] (defScope sBE) := ⟨rfl, rfl, rfl, by decide +kernel, rfl, by decide +kernel, by decide +kernel⟩
def spBE (K : PySem.W.Frag) : Sp := fun vs H Q _ => ∃ (p a t : Addr) (n m : Nat) (ts : List Three), vs = [.ref p, .ref t] ∧ MT K H p a n ∧ n ≤ 900000 ∧ WsAt H t m ts ∧ 0 < m ∧ m ≤ 40 ∧
  ∀ (H' : Hp) (q : Addr) (xs : List V), MT K H' p a (n + 7) → Ext p H H' → H' q = some (.tup xs) → xs.length = m → (∀ x ∈ xs, DTV p H' x) → Q (.ref q) H'
section
variable {P : Program} {w : World} {K : PySem.W.Frag} {mg : Str → Option Value} {base : Heap}
theorem ok_be {f fN : Addr} {fd fdN : FuncData} (F : Fun K "_law_bent" "_law_bent" sBE f fd) (T : TB mg) (N : Cal K mg "_law_next" fN fdN ["m", "total"]) (GN : FnOk P w K mg base CX0 1 fN fdN ["m", "total"] (spNext K)) : FnOk P w K mg base CX0 2 f fd ["m", "worths"] (spBE K) := by
  refine F.ok scBE (fun vs H Q E h => ?_) (fun cdv A outer s H vs Q E hr h => ?_)
  · obtain ⟨p, a, t, n, m, ts, rfl, _⟩ := h
    rfl
  · obtain ⟨p, a, t, n, m, ts, rfl, M, hn, hW, h0, h40, k⟩ := h
    have nd := scBE.nd
    have hr1 : Room 1 _ := hr
    refine ⟨_, pss_cons (ps_set (i := 2) nd rfl (Or.inl rfl) (pe_callTy call_list_of (by rfl) T.list (by decide +kernel) (pa_cons (pv 1) pa_nil) (by decide)))
      (pss_cons (ps_for PassesOwn.never rfl (pi_range1 (by rfl) T.range (pa_cons (pe_op op_add pe_int (pe_call GN hr1 rfl N.g N.kp N.b .nil pass0 (pa_cons (pv 0) (pa_cons pe_int pa_nil)))) pa_nil)) (pg_name (i := 3) nd rfl (Or.inl rfl))
        (pss_cons (ps_par3 (i := 4) (j := 5) (l := 6) (by rfl) nd rfl rfl rfl (by decide) (by decide) (by decide) rfl rfl rfl (pa_cons (pe_call GN hr1 rfl N.g N.kp N.b .nil pass0 (pa_cons (pv 0) (pa_cons pe_int pa_nil))) (pa_cons (pe_call GN hr1 rfl N.g N.kp N.b .nil pass0 (pa_cons (pv 0) (pa_cons (pe_callB call_len_seq (by rfl) T.len PySem.boot_len (pa_cons (pv 1) pa_nil)) pa_nil))) (pa_cons (pe_call GN hr1 rfl N.g N.kp N.b .nil pass0 (pa_cons (pv 0) (pa_cons pe_int pa_nil))) pa_nil))) (by rfl))
      (pss_cons (ps_set (i := 7) nd rfl (Or.inl rfl) (pe_ix ix_tup (pv 1) (pv 5) (fun _ _ => rfl)))
      (pss_one (ps_if (pt_cmpR op_lt (pv 4) pe_int (nomark _)) (pss_cons (ps_set (i := 8) nd rfl (Or.inl rfl) (pe_lst (pa_cons pe_non (pa_cons pe_bl (pa_cons pe_bl (pa_cons pe_str (pa_cons (pe_op op_add (pe_op op_pow pe_int pe_int) pe_int) (pa_cons (pe_op op_sub (pe_op op_sub pe_int (pe_op op_pow pe_int pe_int)) pe_int) (pa_cons (pe_op op_powB (pe_op op_pow pe_int pe_int) pe_int) (pa_cons (pe_op op_sub pe_int (pe_op op_powB (pe_op op_pow pe_int pe_int) pe_int)) pa_nil))))))))))
      (pss_cons (ps_set (i := 8) nd rfl (Or.inl rfl) (pe_op op_catS (pv 8) (pe_lst (pa_cons (pe_tup (pa_cons pe_int pa_nil)) (pa_cons (pe_lst (pa_cons pe_int pa_nil)) (pa_cons (pe_op op_pow pe_int pe_int) pa_nil))))))
      (pss_one (ps_asg (pe_op op_catA (pe_op op_catA (pe_slice sl_tupA (pv 7) po_none (po_some (pv 6))) (pe_tup (pa_cons (pe_ix ix_list (pv 8) (pv 4) (fun _ _ => rfl)) pa_nil))) (pe_slice sl_tupA (pv 7) (po_some (pe_op op_add (pv 6) pe_int)) po_none)) (pg_sub (pv 2) (pv 5) set_list))))) (pss_one (ps_asg (pe_ix ix_list (pe_lst (pa_cons (pe_callTy call_list_of (by rfl) T.list (by decide +kernel) (pa_cons (pv 7) pa_nil) (by decide)) (pa_cons (pe_slice sl_tupA (pv 7) po_none (po_some pe_int)) (pa_cons (pe_op op_catA (pv 7) (pe_slice sl_tupA (pv 7) po_none (po_some pe_int))) (pa_cons pe_non (pa_cons pe_int (pa_cons pe_str (pa_cons (pe_tup pa_nil) (pa_cons pe_dnewK pa_nil))))))))) (pe_op op_sub (pv 4) pe_int) (fun _ _ => rfl)) (pg_sub (pv 2) (pv 5) set_list))))))))
      (pss_one (ps_ret (pe_tupleOf (by rfl) T.tuple (pv 2))))), ?_⟩
    obtain ⟨hl, hok, as, ht, hT⟩ := id hW
    have la : as.length = m := by rw [hT.len, hl]
    have lr : (refs as).length = m := (List.length_map _).trans la
    refine ⟨_, rfl, t, _, rfl, .inr (SqT.of ht), fun L hL => ?_⟩
    have sL := Same.new (o := .lst (refs as)) hL
    have M0 := M.keep sL
    have hL0 := upd_same (H := H) (a := L) (o := .lst (refs as))
    have d0 : ∀ x ∈ refs as, DTV p (upd H L (.lst (refs as))) x := fun x hx => by
      obtain ⟨c, hc, rfl⟩ := List.mem_map.mp hx
      obtain ⟨i, hi⟩ := List.getElem?_of_mem hc
      obtain ⟨x3, _, h3⟩ := hT.got hi
      exact three_dtv M0.dict (sL _ _ h3)
    have kp0 := Kp.same (p := p) sL
    have e0 : Ext p H (upd H L (.lst (refs as))) := Ext.same sL
    generalize upd H L (.lst (refs as)) = H0 at sL M0 hL0 d0 kp0 e0
    refine ⟨_, rfl, p, a, n, _, rfl, M0, by omega, by decide, by decide, fun H1 c M1 e1 c0 c2 => ⟨_, _, rfl, rfl, ?_⟩⟩
    have e01 := e0.trans e1
    refine ⟨1 + c, rfl, by omega, by omega, ?_⟩
    refine for_range (lo := 0) (n := (1 + c).toNat) (fun j σ H' => ∃ (v3 v4 v5 v6 v7 v8 : Option V) (xs : List V), σ = [some (.ref p), some (.ref t), some (.ref L), v3, v4, v5, v6, v7, v8] ∧ MT K H' p a (n + 1 + 3 * j) ∧ Ext p H H' ∧ H' L = some (.lst xs) ∧ xs.length = m ∧ ∀ x ∈ xs, DTV p H' x) ⟨none, none, none, none, none, none, _, rfl, M1, e01, e1 _ _ (M0.dict.neL hL0) hL0, lr, fun x hx => (d0 x hx).mono (Kp.ext M0.dict e1)⟩ ?_ ?_
    · rintro j σ H2 hj ⟨v3, v4, v5, v6, v7, v8, xs, rfl, M2, e2, hL2, lx, dx⟩
      have hj : j < 2 := by omega
      have ht2 := tupD M.dict e2 _ _ ht
      refine ⟨_, rfl, p, a, _, _, rfl, M2, by omega, by decide, by decide, fun H3 odd M3 e3 o0 o1 => ?_⟩
      have ht3 := tupD M2.dict e3 _ _ ht2
      refine ⟨_, rfl, _, rfl, t, _, rfl, .inr (SqT.of ht3), p, a, _, _, rfl, M3, by omega, by rw [lr]; omega, by rw [lr]; omega, fun H4 at' M4 e4 a0 a1 => ?_⟩
      rw [lr] at a1
      obtain ⟨i, rfl⟩ : ∃ i : Nat, at' = (i : Nat) := ⟨at'.toNat, by omega⟩
      have hi : i < m := by omega
      refine ⟨_, rfl, p, a, _, _, rfl, M4, by omega, by decide, by decide, fun H5 way M5 e5 w0 w1 => ?_⟩
      obtain ⟨w', rfl⟩ : ∃ w' : Nat, way = (w' : Nat) := ⟨way.toNat, by omega⟩
      have hw : w' < 3 := by omega
      have e25 := e3.trans (e4.trans e5)
      have e05 := e2.trans e25
      have hL5 := e25 _ _ (M2.dict.neL hL2) hL2
      have dx5 : ∀ x ∈ xs, DTV p H5 x := fun x hx => (dx x hx).mono (Kp.ext M2.dict e25)
      have ht5 := tupD M2.dict e25 _ _ ht2
      have hT5 := hT.mono (tupD M.dict e05)
      have M5 : MT K H5 p a (n + 1 + 3 * (j + 1)) := M5.lt (by omega) (by omega)
      obtain ⟨c3, hc3⟩ : ∃ c3, as[i]? = some c3 := ⟨_, List.getElem?_eq_getElem (by omega)⟩
      obtain ⟨x3, hx3, hcx⟩ := hT5.got hc3
      refine ⟨_, _, _, rfl, ?_⟩
      refine ⟨_, rfl, _, rfl, t, _, _, _, rfl, rfl, SqT.of ht5, ref_at hc3, ?_⟩
      clear e25 dx hL2 M2 M3 M4
      have fin : ∀ {HX : Hp} {y : V}, Same H5 HX → DTV p HX y → MT K (upd HX L (.lst (xs.set i y))) p a (n + 1 + 3 * (j + 1)) ∧ Ext p H (upd HX L (.lst (xs.set i y))) ∧ (upd HX L (.lst (xs.set i y))) L = some (.lst (xs.set i y)) ∧ (xs.set i y).length = m ∧ ∀ x ∈ xs.set i y, DTV p (upd HX L (.lst (xs.set i y))) x := fun {HX y} sX dy => by
        have eX := e05.trans (Ext.same sX)
        have hLX := sX _ _ hL5
        refine ⟨M.wrN hL eX (M5.keep sX) hLX, fun b o nb eo => (upd_ne (ne_of_none eo hL)).trans (eX b o nb eo), upd_same, by rw [List.length_set]; exact lx, fun x hx => ?_⟩
        rcases List.mem_or_eq_of_mem_set hx with hx | rfl
        · exact ((dx5 x hx).mono (Kp.same sX)).mono (Kp.put hLX)
        · exact dy.mono (Kp.put hLX)
      have np : ∀ {HX : Hp} {b : Addr}, Same H5 HX → HX b = none → V.ref b ≠ V.ref p := fun {HX b} sX hb z => by
        cases z
        obtain ⟨kk, hd⟩ := M5.dict
        rw [sX _ _ hd] at hb
        cases hb
      have tvx : ∀ y ∈ x3.vals, y ≠ V.ref p ∧ ∀ HX, TV HX y "int" := fun y hy => by
        have hy : y ∈ [V.int x3.a, V.int x3.b, V.int x3.c] := hy
        simp only [List.mem_cons, List.not_mem_nil, or_false] at hy
        rcases hy with rfl | rfl | rfl <;> exact ⟨(fun z => by cases z), fun _ => .int _⟩
      have dtup : ∀ {HX : Hp} {b : Addr} {zs : List V}, HX b = some (.tup zs) → V.ref b ≠ V.ref p → (∀ y ∈ zs, y ≠ V.ref p ∧ ∃ T, TV HX y T) → DTV p HX (.ref b) := fun {HX b zs} hb nb hz => ⟨nb, _, .tup hb, fun a ys e ha y hy => by
        cases e
        cases hb.symm.trans ha
        exact hz y hy⟩
      refine ⟨_, rfl, _, _, rfl, rfl, _, rfl, ite2 (fun hb => ?_) (fun hb => ?_)⟩
      · have hb : odd < 11 := of_decide_eq_true hb
        refine ⟨_, _, rfl, rfl, ⟨by decide, by decide, by decide⟩, _, _, rfl, rfl, _, _, rfl, rfl, ⟨by decide, by decide, by decide⟩, _, _, rfl, rfl, _, _, rfl, rfl, _, _, rfl, rfl, ⟨by decide, by decide, by decide⟩, _, _, rfl, rfl, powB_ok, _, _, rfl, rfl, ⟨by decide, by decide, by decide⟩, _, _, rfl, rfl, powB_ok, _, _, rfl, rfl, (by show 8 ≤ sizeLine; decide), fun l1 hl1 => ?_⟩
        have z1 := Same.new (o := .lst [V.non, V.bl true, V.bl false, V.str "1", V.int (10 ^ (30 : Int).toNat + 1), V.int (0 - 10 ^ (30 : Int).toNat - 1), V.int ((10 ^ (60 : Int).toNat) ^ (60 : Int).toNat), V.int (0 - (10 ^ (60 : Int).toNat) ^ (60 : Int).toNat)]) hl1
        have k1 := upd_same (H := H5) (a := l1) (o := .lst [V.non, V.bl true, V.bl false, V.str "1", V.int (10 ^ (30 : Int).toNat + 1), V.int (0 - 10 ^ (30 : Int).toNat - 1), V.int ((10 ^ (60 : Int).toNat) ^ (60 : Int).toNat), V.int (0 - (10 ^ (60 : Int).toNat) ^ (60 : Int).toNat)])
        generalize upd H5 l1 (.lst [V.non, V.bl true, V.bl false, V.str "1", V.int (10 ^ (30 : Int).toNat + 1), V.int (0 - 10 ^ (30 : Int).toNat - 1), V.int ((10 ^ (60 : Int).toNat) ^ (60 : Int).toNat), V.int (0 - (10 ^ (60 : Int).toNat) ^ (60 : Int).toNat)]) = H6 at z1 k1 ⊢
        refine ⟨_, rfl, (by show 1 ≤ sizeLine; decide), fun tq htq => ⟨(by show 1 ≤ sizeLine; decide), fun lq hlq => ⟨_, _, rfl, rfl, ⟨by decide, by decide, by decide⟩, (by show 3 ≤ sizeLine; decide), fun l2 hl2 => ?_⟩⟩⟩
        have z2 := Same.new (o := .tup [V.int 1]) htq
        have k2 := upd_same (H := H6) (a := tq) (o := .tup [V.int 1])
        have ntq := np z1 htq
        have nlq := np (z1.trans z2) hlq
        generalize upd H6 tq (.tup [V.int 1]) = H7 at z2 k2 nlq hlq hl2 ⊢
        have z3 := Same.new (o := .lst [V.int 1]) hlq
        have k3 := upd_same (H := H7) (a := lq) (o := .lst [V.int 1])
        generalize upd H7 lq (.lst [V.int 1]) = H8 at z3 k3 hl2 ⊢
        have z4 := Same.new (o := .lst [V.ref tq, V.ref lq, V.int (10 ^ (30 : Int).toNat)]) hl2
        have k4 := upd_same (H := H8) (a := l2) (o := .lst [V.ref tq, V.ref lq, V.int (10 ^ (30 : Int).toNat)])
        generalize upd H8 l2 (.lst [V.ref tq, V.ref lq, V.int (10 ^ (30 : Int).toNat)]) = H9 at z4 k4 ⊢
        have z69 := z2.trans (z3.trans z4)
        refine ⟨l1, l2, _, _, rfl, rfl, SqL.of (z69 _ _ k1), k4, (by show 11 ≤ sizeLine; decide), fun l3 hl3 => ?_⟩
        have z5 := Same.new (o := .lst ([V.non, V.bl true, V.bl false, V.str "1", V.int (10 ^ (30 : Int).toNat + 1), V.int (0 - 10 ^ (30 : Int).toNat - 1), V.int ((10 ^ (60 : Int).toNat) ^ (60 : Int).toNat), V.int (0 - (10 ^ (60 : Int).toNat) ^ (60 : Int).toNat)] ++ [V.ref tq, V.ref lq, V.int (10 ^ (30 : Int).toNat)])) hl3
        have k5 := upd_same (H := H9) (a := l3) (o := .lst ([V.non, V.bl true, V.bl false, V.str "1", V.int (10 ^ (30 : Int).toNat + 1), V.int (0 - 10 ^ (30 : Int).toNat - 1), V.int ((10 ^ (60 : Int).toNat) ^ (60 : Int).toNat), V.int (0 - (10 ^ (60 : Int).toNat) ^ (60 : Int).toNat)] ++ [V.ref tq, V.ref lq, V.int (10 ^ (30 : Int).toNat)]))
        have k2' := z5 _ _ (z4 _ _ (z3 _ _ k2))
        have k3' := z5 _ _ (z4 _ _ k3)
        have simp11 : ∃ NL : List V, ([V.non, V.bl true, V.bl false, V.str "1", V.int (10 ^ (30 : Int).toNat + 1), V.int (0 - 10 ^ (30 : Int).toNat - 1), V.int ((10 ^ (60 : Int).toNat) ^ (60 : Int).toNat), V.int (0 - (10 ^ (60 : Int).toNat) ^ (60 : Int).toNat)] ++ [V.ref tq, V.ref lq, V.int (10 ^ (30 : Int).toNat)]) = NL ∧ NL.length = 11 ∧ ∀ y ∈ NL, y ≠ V.ref p ∧ ∃ T, TV (upd H9 l3 (.lst ([V.non, V.bl true, V.bl false, V.str "1", V.int (10 ^ (30 : Int).toNat + 1), V.int (0 - 10 ^ (30 : Int).toNat - 1), V.int ((10 ^ (60 : Int).toNat) ^ (60 : Int).toNat), V.int (0 - (10 ^ (60 : Int).toNat) ^ (60 : Int).toNat)] ++ [V.ref tq, V.ref lq, V.int (10 ^ (30 : Int).toNat)]))) y T := by
          refine ⟨_, rfl, rfl, fun y hy => ?_⟩
          simp only [List.cons_append, List.nil_append, List.mem_cons, List.not_mem_nil, or_false] at hy
          rcases hy with rfl | rfl | rfl | rfl | rfl | rfl | rfl | rfl | rfl | rfl | rfl
          · exact ⟨(fun z => by cases z), _, .non⟩
          · exact ⟨(fun z => by cases z), _, .bl _⟩
          · exact ⟨(fun z => by cases z), _, .bl _⟩
          · exact ⟨(fun z => by cases z), _, .str _⟩
          · exact ⟨(fun z => by cases z), _, .int _⟩
          · exact ⟨(fun z => by cases z), _, .int _⟩
          · exact ⟨(fun z => by cases z), _, .int _⟩
          · exact ⟨(fun z => by cases z), _, .int _⟩
          · exact ⟨ntq, _, .tup k2'⟩
          · exact ⟨nlq, _, .lst k3'⟩
          · exact ⟨(fun z => by cases z), _, .int _⟩
        obtain ⟨NL, eNL, lNL, dNL⟩ := simp11
        rw [eNL] at z5 k5 dNL ⊢
        generalize upd H9 l3 (.lst NL) = HA at z5 k5 dNL ⊢
        have zA := z1.trans (z69.trans z5)
        clear eNL k1 k2 k3 k4 k2' k3'
        obtain ⟨o, rfl⟩ : ∃ o : Nat, odd = (o : Nat) := ⟨odd.toNat, by omega⟩
        obtain ⟨y, hy⟩ : ∃ y, NL[o]? = some y := ⟨_, List.getElem?_eq_getElem (by omega)⟩
        obtain ⟨ny, Ty, ty⟩ := dNL y (List.mem_of_getElem? hy)
        have hxA := zA _ _ hcx
        refine ⟨_, rfl, _, rfl, _, rfl, rd_slA hxA fun HB b1 s1 h1 => ?_⟩
        rw [cut_take (by show w' ≤ 3; omega)] at h1
        refine ⟨_, rfl, _, rfl, l3, _, _, _, rfl, rfl, SqL.of (s1 _ _ k5), at_of (j := o) rfl hy, (by show 1 ≤ sizeLine; decide), fun b2 hb2 => ?_⟩
        have s2 := Same.new (o := .tup [y]) hb2
        have h2 := upd_same (H := HB) (a := b2) (o := .tup [y])
        have h12 := s2 _ _ h1
        generalize upd HB b2 (.tup [y]) = HC at s2 h2 h12 ⊢
        have l3' : x3.vals.length = 3 := rfl
        refine rd_catA h12 h2 (Nat.le_trans (m := 100) (by rw [List.length_take, l3']; show _ + 1 ≤ 100; omega) (by decide)) fun HD b3 s3 h3 => ?_
        have sAD := s1.trans (s2.trans s3)
        refine ⟨_, rfl, _, rfl, _, _, rfl, rfl, _, rfl, ?_⟩
        unfold tNoPart
        dsimp only
        refine rd_slA (sAD _ _ hxA) fun HE b4 s4 h4 => ?_
        rw [show ((w' : Nat) : Int) + 1 = ((w' + 1 : Nat) : Int) by omega, cut_drop (by rw [l3']; omega)] at h4
        refine rd_catA (s4 _ _ h3) h4 (Nat.le_trans (m := 100) (by rw [List.length_append, List.length_take, List.length_drop, l3']; show _ + 1 + _ ≤ 100; omega) (by decide)) fun HF b5 s5 h5 => ?_
        have h5 : HF b5 = some (.tup (put_ x3.vals w' y)) := h5
        have sAF := sAD.trans (s4.trans s5)
        have s5F := zA.trans sAF
        have nb5 : V.ref b5 ≠ V.ref p := fun z => by
          cases z
          obtain ⟨kk, hd⟩ := M5.dict
          cases (s5F _ _ hd).symm.trans h5
        refine ⟨_, rfl, _, rfl, L, xs, _, i, rfl, rfl, s5F _ _ hL5, ixN_at (by omega), ?_⟩
        exact ⟨_, _, _, _, _, _, _, rfl, fin s5F (dtup h5 nb5 fun q hq => by
          rcases pt_mem hq with rfl | hq
          · exact ⟨ny, Ty, ty.mono sAF⟩
          · obtain ⟨n1, t1⟩ := tvx q hq
            exact ⟨n1, _, t1 _⟩)⟩
      · have hb : ¬ odd < 11 := fun z => hb (decide_eq_true z)
        refine ⟨_, rfl, c3, _, rfl, .inr (SqT.of hcx), fun l1 hl1 => ?_⟩
        have z1 := Same.new (o := .lst x3.vals) hl1
        have k1 := upd_same (H := H5) (a := l1) (o := .lst x3.vals)
        have n1 := np (Same.refl H5) hl1
        generalize upd H5 l1 (.lst x3.vals) = H6 at z1 k1 ⊢
        refine ⟨_, rfl, _, rfl, rd_slA (z1 _ _ hcx) fun H7 b1 z2 k2 => ?_⟩
        refine ⟨_, rfl, _, rfl, _, rfl, rd_slA (z2 _ _ (z1 _ _ hcx)) fun H8 b2 z3 k3 => ?_⟩
        have c1 : ∀ q ∈ cutV x3.vals none (some 1), q ∈ x3.vals := fun q hq => List.mem_of_mem_drop (List.mem_of_mem_take hq)
        have c2' : ∀ q ∈ cutV x3.vals none (some 2), q ∈ x3.vals := fun q hq => List.mem_of_mem_drop (List.mem_of_mem_take hq)
        refine rd_catA (z3 _ _ (z2 _ _ (z1 _ _ hcx))) k3 (by show 3 + 1 ≤ sizeLine; decide) fun H9 b3 z4 k4 => ?_
        refine ⟨Nat.zero_le _, fun tq htq => ?_⟩
        have z5 := Same.new (o := .tup []) htq
        have k5 := upd_same (H := H9) (a := tq) (o := .tup [])
        have z15 := z1.trans (z2.trans (z3.trans z4))
        have n5 := np z15 htq
        generalize upd H9 tq (.tup []) = HA at z5 k5 ⊢
        refine fun dq hdq => ⟨(by show 8 ≤ sizeLine; decide), fun L2 hL2 => ?_⟩
        have z6 := Same.new (o := .dK []) hdq
        have k6 := upd_same (H := HA) (a := dq) (o := .dK [])
        have n6 := np (z15.trans z5) hdq
        generalize upd HA dq (.dK []) = HB at z6 k6 hL2 ⊢
        have z7 := Same.new (o := .lst [V.ref l1, V.ref b1, V.ref b3, V.non, V.int 0, V.str "abc", V.ref tq, V.ref dq]) hL2
        have k7 := upd_same (H := HB) (a := L2) (o := .lst [V.ref l1, V.ref b1, V.ref b3, V.non, V.int 0, V.str "abc", V.ref tq, V.ref dq])
        generalize upd HB L2 (.lst [V.ref l1, V.ref b1, V.ref b3, V.non, V.int 0, V.str "abc", V.ref tq, V.ref dq]) = HC at z7 k7 ⊢
        have sX := z15.trans (z5.trans (z6.trans z7))
        have dd : ∀ y ∈ [V.ref l1, V.ref b1, V.ref b3, V.non, V.int 0, V.str "abc", V.ref tq, V.ref dq], DTV p HC y := fun y hy => by
          have pd : ∀ {b : Addr} {zs : List V}, HC b = some (.tup zs) → V.ref b ≠ V.ref p := fun {b zs} hb z => by
            cases z
            obtain ⟨kk, hd⟩ := M5.dict
            cases (sX _ _ hd).symm.trans hb
          simp only [List.mem_cons, List.not_mem_nil, or_false] at hy
          rcases hy with rfl | rfl | rfl | rfl | rfl | rfl | rfl | rfl
          · have e1 := (z2.trans (z3.trans (z4.trans (z5.trans (z6.trans z7))))) _ _ k1
            exact ⟨n1, _, .lst e1, fun a ys e ha => by
              cases e
              cases e1.symm.trans ha⟩
          · have e1 := (z3.trans (z4.trans (z5.trans (z6.trans z7)))) _ _ k2
            exact dtup e1 (pd e1) fun q hq => ⟨(tvx q (c2' q hq)).1, _, (tvx q (c2' q hq)).2 _⟩
          · have e1 := (z5.trans (z6.trans z7)) _ _ k4
            exact dtup e1 (pd e1) fun q hq => by
              rcases List.mem_append.mp hq with hq | hq
              · exact ⟨(tvx q hq).1, _, (tvx q hq).2 _⟩
              · exact ⟨(tvx q (c1 q hq)).1, _, (tvx q (c1 q hq)).2 _⟩
          · exact ⟨(fun z => by cases z), _, .non, fun a ys e => by cases e⟩
          · exact ⟨(fun z => by cases z), _, .int _, fun a ys e => by cases e⟩
          · exact ⟨(fun z => by cases z), _, .str _, fun a ys e => by cases e⟩
          · have e1 := (z6.trans z7) _ _ k5
            exact dtup e1 n5 fun q hq => by simp at hq
          · have e1 := z7 _ _ k6
            exact ⟨n6, _, .dct e1, fun a ys e ha => by
              cases e
              cases e1.symm.trans ha⟩
        obtain ⟨o, rfl⟩ : ∃ o : Nat, odd = ((11 + o : Nat) : Int) := ⟨(odd - 11).toNat, by omega⟩
        obtain ⟨y, hy⟩ : ∃ y, [V.ref l1, V.ref b1, V.ref b3, V.non, V.int 0, V.str "abc", V.ref tq, V.ref dq][o]? = some y := ⟨_, List.getElem?_eq_getElem (by show o < 8; omega)⟩
        refine ⟨_, rfl, _, _, rfl, rfl, ?_⟩
        refine ⟨L2, _, _, _, rfl, rfl, SqL.of k7, at_of (j := o) (by omega) hy, ?_⟩
        refine ⟨_, rfl, _, rfl, L, xs, _, i, rfl, rfl, sX _ _ hL5, ixN_at (by omega), ?_⟩
        exact ⟨_, _, _, _, _, _, _, rfl, fin sX (dd y (List.mem_of_getElem? hy))⟩
    · rintro σ H2 ⟨v3, v4, v5, v6, v7, v8, xs, rfl, M2, e2, hL2, lx, dx⟩
      refine ⟨_, rfl, .inl ⟨L, _, rfl, SqL.of hL2, fun q hq => ?_⟩⟩
      have sq := Same.new (o := .tup xs) hq
      exact k _ q xs ((M2.keep sq).lt (by omega) (by omega)) (e2.trans (Ext.same sq)) upd_same lx fun x hx => (dx x hx).mono (Kp.same sq)
end
end One
end P_QF

section P_QG
set_option linter.all false
set_option maxRecDepth 100000
set_option maxHeartbeats 8000000
namespace One
open PySem PySem.Spec PyProof.Rows L2
/-! ### worths as data -/
def wsD (ts : List Three) : PyData := .tuple (ts.map trD)
theorem dp_ws {K : PySem.W.Frag} {H : Hp} {u : Addr} {m : Nat} {ts : List Three} (h : WsAt H u m ts) : Dp K H (.ref u) (wsD ts) := by
  obtain ⟨_, _, as, h1, h2⟩ := h
  exact .tup (SqT.of h1) (dp_threes h2)
theorem log_of {v : Int} {k : Nat} (h : v.natAbs < 2 ^ k) (hk : 0 < k) : v.natAbs.log2 < k := by
  by_cases h0 : v.natAbs = 0
  · rw [h0]
    exact hk
  · exact (Nat.log2_lt h0).mpr h
theorem w_log {v : Int} (h0 : -(10 ^ 30) ≤ v) (h1 : v ≤ 10 ^ 30) : v.natAbs.log2 < 110 := log_of (by
  have a : v.natAbs ≤ 10 ^ 30 := by omega
  exact Nat.lt_of_le_of_lt a (by decide)) (by decide)
theorem leaf_of {v : Int} (h : v.natAbs.log2 < 110) : PyData.showable (.int v) = true ∧ PyData.leavesShort 111 (.int v) = true := by
  refine ⟨?_, ?_⟩
  · show decide (v.natAbs.log2 < 1920) = true
    exact decide_eq_true (by omega)
  · show decide ((PyData.shown (.int v)).length ≤ 111) = true
    refine decide_eq_true ?_
    rw [PyData.shown_int]
    have := PySem.int_text_length_le (k := 110) (by decide) h
    show (Str.ofString (toString v)).length ≤ 111
    rw [PySem.ofString_length]
    omega
theorem tr_fine {x : Three} (h : x.ok) : PyData.showable (trD x) = true ∧ PyData.leavesShort 111 (trD x) = true := by
  obtain ⟨a1, a2⟩ := h 0 (by decide)
  obtain ⟨b1, b2⟩ := h 1 (by decide)
  obtain ⟨c1, c2⟩ := h 2 (by decide)
  obtain ⟨p1, p2⟩ := leaf_of (w_log (v := x.a) a1 a2)
  obtain ⟨q1, q2⟩ := leaf_of (w_log (v := x.b) b1 b2)
  obtain ⟨r1, r2⟩ := leaf_of (w_log (v := x.c) c1 c2)
  constructor
  · show (PyData.showable (.int x.a) && (PyData.showable (.int x.b) && (PyData.showable (.int x.c) && true))) = true
    rw [p1, q1, r1]
    rfl
  · show (PyData.leavesShort 111 (.int x.a) && (PyData.leavesShort 111 (.int x.b) && (PyData.leavesShort 111 (.int x.c) && true))) = true
    rw [p2, q2, r2]
    rfl
theorem ws_all : ∀ ts : List Three, (∀ x ∈ ts, x.ok) → PyData.showableAll (ts.map trD) = true ∧ PyData.hasDictAll (ts.map trD) = false ∧ PyData.depthAll (ts.map trD) ≤ 1 ∧ PyData.leavesShortAll 111 (ts.map trD) = true ∧ PyData.bulkAll (ts.map trD) = 4 * ts.length
  | [], _ => ⟨rfl, rfl, Nat.zero_le _, rfl, rfl⟩
  | x :: r, h => by
    obtain ⟨h1, h2, h3, h4, h5⟩ := ws_all r fun q m => h q (List.mem_cons_of_mem _ m)
    obtain ⟨q1, q2⟩ := tr_fine (h x (List.mem_cons_self ..))
    refine ⟨?_, ?_, ?_, ?_, ?_⟩
    · show (PyData.showable (trD x) && PyData.showableAll _) = true
      rw [q1, h1]; rfl
    · show (false || PyData.hasDictAll _) = false
      rw [h2]; rfl
    · show max 1 (PyData.depthAll _) ≤ 1
      exact Nat.max_le.mpr ⟨Nat.le_refl 1, h3⟩
    · show (PyData.leavesShort 111 (trD x) && PyData.leavesShortAll 111 _) = true
      rw [q2, h4]; rfl
    · show 3 + 1 + PyData.bulkAll _ = _
      rw [h5]
      show 3 + 1 + 4 * r.length = 4 * (r.length + 1)
      omega
theorem repr_ws {K : PySem.W.Frag} {H : Hp} {u : Addr} {m : Nat} {ts : List Three} {Q : VK} (h : WsAt H u m ts) (hm : m ≤ 40) (q : Q (.str (wsD ts).shown) H) : rRepr K [.ref u] H Q := by
  obtain ⟨h1, h2, h3, h4, h5⟩ := ws_all ts h.2.1
  refine ⟨u, wsD ts, rfl, dp_ws h, h1, h2, ?_, ?_, q⟩
  · show PyData.depthAll _ + 1 ≤ 16
    omega
  · have q := PyData.shown_le_bulk 111 (by decide) (wsD ts) h4
    have e : (wsD ts).bulk = 4 * ts.length := h5
    rw [e] at q
    have hl := h.1
    have : (40000 : Nat) ≤ sizeLine := by decide
    omega
/-- ('told', g) -/
def tgD (g : Int) : PyData := .tuple [.str "told", .int g]
theorem repr_tg {K : PySem.W.Frag} {H : Hp} {u : Addr} {g : Int} {Q : VK} (hu : H u = some (.tup [.str "told", .int g])) (h : g.natAbs.log2 < 110) (q : Q (.str (tgD g).shown) H) : rRepr K [.ref u] H Q := by
  obtain ⟨p1, p2⟩ := leaf_of h
  have hs : PyData.leavesShort 111 (.str "told") = true := by decide +kernel
  refine ⟨u, tgD g, rfl, .tup (SqT.of hu) (.cons (.str _) (.cons (.int _) .nil)), ?_, rfl, by show 0 + 1 ≤ 16; decide, ?_, q⟩
  · show (PyData.showable (.str "told") && (PyData.showable (.int g) && true)) = true
    rw [p1]
    decide +kernel
  · have q := PyData.shown_le_bulk 111 (by decide) (tgD g) (by
      show (PyData.leavesShort 111 (.str "told") && (PyData.leavesShort 111 (.int g) && true)) = true
      rw [p2, hs]
      rfl)
    have e : (tgD g).bulk = 4 + 1 + (0 + 1 + 0) := rfl
    rw [e] at q
    have : (40000 : Nat) ≤ sizeLine := by decide
    omega
theorem wsum_log {ts : List Three} {ws : List Nat} (hok : ∀ x ∈ ts, x.ok) (hw : ∀ x ∈ ws, x < 3) (hl : ts.length ≤ 40) : (wsum ts ws).natAbs.log2 < 110 := by
  have hb : ∀ (ts : List Three) (ws : List Nat), (∀ x ∈ ts, x.ok) → (∀ x ∈ ws, x < 3) → -(ts.length * 10 ^ 30 : Int) ≤ wsum ts ws ∧ wsum ts ws ≤ ts.length * 10 ^ 30 := by
    intro ts
    induction ts with
    | nil =>
      intro ws _ _
      have e : wsum [] ws = 0 := by
        unfold wsum ways_
        rw [List.zipWith_nil_left]
        rfl
      rw [e]
      exact ⟨by decide, by decide⟩
    | cons x ts ih =>
      intro ws h1 h2
      cases ws with
      | nil =>
        have e : wsum (x :: ts) [] = 0 := rfl
        rw [e]
        constructor
        · have : (0 : Int) ≤ ((x :: ts).length : Int) * 10 ^ 30 := Int.mul_nonneg (by omega) (by decide)
          omega
        · exact Int.mul_nonneg (by omega) (by decide)
      | cons w ws =>
        obtain ⟨i1, i2⟩ := ih ws (fun y m => h1 y (List.mem_cons_of_mem _ m)) (fun y m => h2 y (List.mem_cons_of_mem _ m))
        obtain ⟨j1, j2⟩ := h1 x (List.mem_cons_self ..) w (h2 w (List.mem_cons_self ..))
        have e : wsum (x :: ts) (w :: ws) = x.at w + wsum ts ws := by
          unfold wsum ways_
          rw [List.zipWith_cons_cons, List.sum_cons]
        rw [e]
        have el : (((x :: ts).length : Nat) : Int) * 10 ^ 30 = (ts.length : Int) * 10 ^ 30 + 10 ^ 30 := by
          rw [List.length_cons]
          push_cast
          rw [Int.add_mul, Int.one_mul]
        rw [el]
        omega
  obtain ⟨h1, h2⟩ := hb ts ws hok hw
  have : ((ts.length : Nat) : Int) * 10 ^ 30 ≤ 40 * 10 ^ 30 := Int.mul_le_mul_of_nonneg_right (by omega) (by decide)
  refine log_of (Nat.lt_of_le_of_lt (show (wsum ts ws).natAbs ≤ 40 * 10 ^ 30 by omega) (by decide)) (by decide)
/-! ### a word and a place, as data -/
theorem nints_lay : ∀ l : List Nat, PyData.canLayAll0 (l.map fun x => PyData.int (x : Nat)) = true
  | [] => rfl
  | x :: l => by
    show (true && PyData.canLayAll0 _) = true
    rw [nints_lay l]
    rfl
theorem nints_depth : ∀ l : List Nat, PyData.depthAll (l.map fun x => PyData.int (x : Nat)) ≤ 0
  | [] => Nat.le_refl 0
  | x :: l => by
    show max 0 (PyData.depthAll _) ≤ 0
    exact Nat.max_le.mpr ⟨Nat.le_refl 0, nints_depth l⟩
def wpD (z : Str) (l : List Nat) : PyData := .tuple [.str z, .tuple (l.map fun x => PyData.int (x : Nat))]
theorem dp_wp {K : PySem.W.Frag} {H : Hp} {u p : Addr} {z : Str} {l : List Nat} (hu : H u = some (.tup [.str z, .ref p])) (hp : H p = some (.tup (nats l))) : Dp K H (.ref u) (wpD z l) :=
  .tup (SqT.of hu) (.cons (.str _) (.cons (.tup (SqT.of hp) (dp_nats l)) .nil))
theorem wp_lay {z : Str} (hz : PyData.canLay0 (.str z) = true) (l : List Nat) : PyData.canLay0 (wpD z l) = true := by
  show (PyData.canLay0 (.str z) && (PyData.canLayAll0 _ && true)) = true
  rw [hz, nints_lay l]
  rfl
theorem wp_shaped {z : Str} (hz : PyData.canLay0 (.str z) = true) (l : List Nat) : SeqAt.shaped (wpD z l) = true := by
  unfold SeqAt.shaped
  rw [wp_lay hz l, decide_eq_true (show PyData.depth (wpD z l) ≤ 64 from ?_)]
  · rfl
  · show max 0 (max (PyData.depthAll _ + 1) 0) + 1 ≤ 64
    have := nints_depth l
    omega
end One
end P_QG

section P_QH
set_option linter.all false
set_option maxRecDepth 100000
set_option maxHeartbeats 32000000
namespace One
open PySem PySem.Spec PyProof.Rows L2
theorem said_wrong {K : PySem.W.Frag} {CL : Nat → Addr} {RE : Addr} {i : Nat} {H : Hp} {Q : VK} {l : List Nat} (R : SaidC K CL RE i) (hf : fldS i = "place") (hQ : ∀ (H' : Hp) (u p : Addr), Same H H' → H' u = some (.tup [.str (wordS i), .ref p]) → H' p = some (.tup (nats l)) → Q (.ref u) H') : RWrong (CL i) (XSaid K CL RE Q) H l := fun H' p d s hp hd =>
  ⟨i, d, .ref p, R, rfl, rfl, by rw [hf]; exact hd, fun H'' u s' hu => hQ H'' u p (s.trans s') hu (s' _ _ hp)⟩
/-- a thing of a kind, two deep -/
def D2 (p : Addr) (H : Hp) (v : V) : Prop := v ≠ .ref p ∧ ∃ T, TV H v T ∧ ∀ a ys, v = .ref a → H a = some (.tup ys) → ∀ y ∈ ys, DTV p H y
theorem D2.mono {p : Addr} {H H' : Hp} (k : Kp p H H') {x : V} (h : D2 p H x) : D2 p H' x := by
  obtain ⟨n, T, h1, h2⟩ := h
  refine ⟨n, T, k.tv h1 n, fun a ys e ha y hy => ?_⟩
  subst e
  cases h1 with
  | tup e =>
    have := (k.tup _ _ e).symm.trans ha
    cases this
    exact (h2 a _ rfl e y hy).mono k
  | lst e =>
    obtain ⟨zs, e'⟩ := k.lst _ _ e
    cases e'.symm.trans ha
  | dct e =>
    obtain ⟨zs, e'⟩ := k.dct _ _ (fun z => n (by rw [z])) e
    cases e'.symm.trans ha
theorem D2.worths {p : Addr} {H : Hp} {v : V} (h : D2 p H v) (n : Nat) : (∃ T, TV H v T) ∧ ∃ r, WorthsF H v n r := by
  obtain ⟨_, T, h1, h2⟩ := h
  refine ⟨⟨T, h1⟩, worths_ex n h1 fun a ys e ha y hy => ?_⟩
  obtain ⟨_, T', q1, q2⟩ := h2 a ys e ha y hy
  exact ⟨T', q1, fun b zs e' hb z hz => (q2 b zs e' hb z hz).2⟩
theorem Kp.extN {p : Addr} {H H' : Hp} (k : LamX.ExtN H H') : Kp p H H' := ⟨fun b xs e => tupN k b xs e, fun b xs e => ⟨_, k _ _ e (fun ps z => by cases z)⟩, fun b q _ e => ⟨_, k _ _ e (fun ps z => by cases z)⟩⟩
theorem d2_tup {H : Hp} {p b : Addr} {zs : List V} (d : DictAt H p) (h : H b = some (.tup zs)) (k : ∀ y ∈ zs, DTV p H y) : D2 p H (.ref b) := ⟨d.neV h (fun k z => by cases z), _, .tup h, fun a ys e ha y hy => by
  cases e
  cases h.symm.trans ha
  exact k y hy⟩
theorem d2_lst {H : Hp} {p b : Addr} {zs : List V} (d : DictAt H p) (h : H b = some (.lst zs)) : D2 p H (.ref b) := ⟨d.neV h (fun k z => by cases z), _, .lst h, fun a ys e ha => by
  cases e
  cases h.symm.trans ha⟩
theorem d2_flat {H : Hp} {p : Addr} {v : V} {T : String} (h : TV H v T) (k : ∀ a, v ≠ .ref a) : D2 p H v := ⟨k p, T, h, fun a ys e => absurd e (k a)⟩
abbrev sLR : Stmt := top 61
abbrev nLR : List Str := ["m", "yard", "worths", "ways", "due", "other", "place", "wholes", "thing", "wrong", "some"]
theorem scLR : FnScope nLR ["m", "yard", "worths", "ways"] (defScope sLR) := ⟨rfl, rfl, rfl, by decide +kernel, rfl, by decide +kernel, by decide +kernel⟩
/-- the table of the lambdas made in it -/
def TbW (Pt : Addr) (H : Hp) : Prop := LamX.Tabs [(Pt, (envOfC "_law_right" (defScope sLR) 0 0 .none).qual ++ "<lambda>")] H
def spLR (K : PySem.W.Frag) (Pt : Addr) : Sp := fun vs H Q _ => ∃ (p a y t u : Addr) (n m : Nat) (ps : List (Nat × Nat)) (ts : List Three) (ws : List Nat), vs = [.ref p, .ref y, .ref t, .ref u] ∧ MT K H p a n ∧ n ≤ 800000 ∧ YAt H y m ps ∧ 0 < m ∧ m ≤ 40 ∧ WsAt H t m ts ∧ SetAt H u m ws ∧ TbW Pt H ∧
  ∀ H', MT K H' p a (n + 20) → (∀ b xs, H b = some (.tup xs) → H' b = some (.tup xs)) → TbW Pt H' → Q (.bl true) H'
theorem set_seq {H : Hp} {u : Addr} {m : Nat} {ws : List Nat} (h : SetAt H u m ws) : SeqF (okW false) m H (.ref u) none := by
  refine .inr ⟨u, _, rfl, h.here, (List.length_map _).trans h.len, fun y hy => ?_, .inl ⟨List.all_eq_true.mpr fun x hx => ?_, rfl⟩⟩
  · obtain ⟨z, hz, rfl⟩ := List.mem_map.mp hy
    exact ⟨_, .int _⟩
  · obtain ⟨z, hz, rfl⟩ := List.mem_map.mp hx
    have := h.lt z hz
    show (((decide (0 ≤ ((z : Nat) : Int)) && decide (((z : Nat) : Int) < 3))) || _) = true
    rw [decide_eq_true (by omega : 0 ≤ ((z : Nat) : Int)), decide_eq_true (by omega : ((z : Nat) : Int) < 3)]
    rfl
def lpD (l : List Nat) : PyData := .list [.tuple (l.map fun x => PyData.int (x : Nat))]
theorem lp_lay (l : List Nat) : PyData.canLay0 (lpD l) = true := by
  show (PyData.canLayAll0 _ && true) = true
  rw [nints_lay l]
  rfl
theorem lp_shaped (l : List Nat) : SeqAt.shaped (lpD l) = true := by
  unfold SeqAt.shaped
  rw [lp_lay l, decide_eq_true (show PyData.depth (lpD l) ≤ 64 from ?_)]
  · rfl
  · show max (PyData.depthAll _ + 1) 0 + 1 ≤ 64
    have := nints_depth l
    omega
theorem lp_ne (l : List Nat) : PyData.eqv (lpD l) (.list []) = false := by
  unfold lpD
  rw [PyData.eqv, PyData.eqvAll]
theorem TLs.eq {H : Hp} {as : List Addr} {ts qs : List Three} (h : TLs H as ts) : TLs H as qs → ts = qs := by
  induction h generalizing qs with
  | nil =>
    intro k
    cases k
    rfl
  | @cons a t as ts h1 _ ih =>
    intro k
    cases k with
    | @cons _ t' _ ts' k1 k2 =>
      rw [ih k2]
      have e := h1.symm.trans k1
      obtain ⟨x, y, z⟩ := t
      obtain ⟨x', y', z'⟩ := t'
      cases e
      rfl
theorem refs_inj {as bs : List Addr} (h : refs as = refs bs) : as = bs := by
  have := congrArg (List.map backA) h
  rwa [back_refs, back_refs] at this
theorem WsAt.eq {H : Hp} {t : Addr} {m : Nat} {ts qs : List Three} (h : WsAt H t m ts) (k : WsAt H t m qs) : ts = qs := by
  obtain ⟨_, _, as, h1, h2⟩ := h
  obtain ⟨_, _, bs, k1, k2⟩ := k
  have e : refs as = refs bs := HO.tup.inj (Option.some.inj (h1.symm.trans k1))
  rw [refs_inj e] at h2
  exact h2.eq k2
theorem nats_inj : ∀ {xs ys : List Nat}, nats xs = nats ys → xs = ys
  | [], [], _ => rfl
  | [], y :: ys, h => by cases h
  | x :: xs, [], h => by cases h
  | x :: xs, y :: ys, h => by
    have h : V.int (x : Nat) :: nats xs = V.int (y : Nat) :: nats ys := h
    rw [nats_inj (List.cons.inj h).2, Int.ofNat.inj (V.int.inj (List.cons.inj h).1)]
theorem SetAt.eq {H : Hp} {t : Addr} {m : Nat} {ws vs : List Nat} (h : SetAt H t m ws) (k : SetAt H t m vs) : ws = vs := by
  have := h.here.symm.trans k.here
  exact nats_inj (by
    have e := Option.some.inj this
    exact HO.tup.inj e)
/-- what stands throughout -/
structure RB (K : PySem.W.Frag) (H0 : Hp) (Pt p a y t u d : Addr) (n m : Nat) (ps : List (Nat × Nat)) (ts : List Three) (ws : List Nat) (H : Hp) : Prop where
  M : MT K H p a n
  tb : TbW Pt H
  Y : YAt H y m ps
  W : WsAt H t m ts
  S : SetAt H u m ws
  D : H d = some (.tup [.str "told", .int (wsum ts ws)])
  tk : ∀ b xs, H0 b = some (.tup xs) → H b = some (.tup xs)
section
variable {K : PySem.W.Frag} {H0 H H' : Hp} {Pt p a y t u d : Addr} {n n' m : Nat} {ps : List (Nat × Nat)} {ts : List Three} {ws : List Nat}
theorem RB.extN (h : RB K H0 Pt p a y t u d n m ps ts ws H) (e : LamX.ExtN H H') (tb : TbW Pt H') : RB K H0 Pt p a y t u d n m ps ts ws H' :=
  ⟨h.M.keepN e, tb, h.Y.mono (tupN e), h.W.mono (tupN e), h.S.mono (tupN e), tupN e _ _ h.D, fun b xs q => tupN e _ _ (h.tk b xs q)⟩
theorem RB.same (h : RB K H0 Pt p a y t u d n m ps ts ws H) (e : Same H H') : RB K H0 Pt p a y t u d n m ps ts ws H' := h.extN (LamX.ExtN.of e) (h.tb.ext e)
theorem RB.draw (h : RB K H0 Pt p a y t u d n m ps ts ws H) (e : Ext p H H') (M : MT K H' p a n') : RB K H0 Pt p a y t u d n' m ps ts ws H' :=
  ⟨M, tabs_dict h.tb h.M.dict e, h.Y.mono (tupD h.M.dict e), h.W.mono (tupD h.M.dict e), h.S.mono (tupD h.M.dict e), tupD h.M.dict e _ _ h.D, fun b xs q => tupD h.M.dict e _ _ (h.tk b xs q)⟩
end
section
variable {P : Program} {w : World} {K : PySem.W.Frag} {mg : Str → Option Value} {base : Heap}
theorem ok_lr {CL : Nat → Addr} {RE f c Pt g fLW fNW fWO fOW fBE fOf fWr : Addr} {fd dg dLW dNW dWO dOW dBE dOf dWr : FuncData} (F : FunC K "_law_right" "_law_right" sLR f fd c) (T : TB mg) (TBl : LamX.TabB base mg c Pt) (Nm : SaidN mg CL RE) (R1 : SaidC K CL RE 1) (R6 : SaidC K CL RE 6)
    (G : Fun K "_law_said" "_law_said" sSaid g dg) (cG : Cal K mg "_law_said" g dg ["call"]) (cLW : Cal K mg "_law_worth_of" fLW dLW ["worths", "setting"]) (gLW : FnOk P w K mg base CX0 1 fLW dLW ["worths", "setting"] spSW)
    (cNW : Cal K mg "need_worths" fNW dNW ["yard", "thing"]) (gNW : FnOk P w K mg base (L2.CX P w) 7 fNW dNW ["yard", "thing"] (spNW (CL 1))) (cWO : Cal K mg "worth_of" fWO dWO ["yard", "worths", "setting"]) (gWO : FnOk P w K mg base (L2.CX P w) 8 fWO dWO ["yard", "worths", "setting"] (spWO (CL 1) (CL 6)))
    (cOW : Cal K mg "_law_other_ways" fOW dOW ["m", "ways"]) (gOW : FnOk P w K mg base CX0 2 fOW dOW ["m", "ways"] (spOW K)) (cBE : Cal K mg "_law_bent" fBE dBE ["m", "worths"]) (gBE : FnOk P w K mg base CX0 2 fBE dBE ["m", "worths"] (spBE K))
    (cOf : Cal K mg "_law_of" fOf dOf ["m", "some"]) (gOf : FnOk P w K mg base CX0 2 fOf dOf ["m", "some"] (spOf K)) (cWr : Cal K mg "_law_wrong" fWr dWr ["thing", "many"]) (gWr : FnOk P w K mg base CX0 1 fWr dWr ["thing", "many"] spWr) : FnG P w K mg base CX0 11 f fd ["m", "yard", "worths", "ways"] (spLR K Pt) := by
  refine okGC F scLR (fun vs H Q E h => ?_) (fun A outer s H vs Q E hgd hr h => ?_)
  · obtain ⟨p, a, y, t, u, n, m, ps, ts, ws, rfl, _⟩ := h
    rfl
  · obtain ⟨p, a, y, t, u, n, m, ps, ts, ws, rfl, M, hn, hY, h0, h40, hW, hS, t0, k⟩ := h
    have nd := scLR.nd
    have hu : (A.deeper (envOfC "_law_right" (defScope sLR) s.heap.objs.size f (.ref c))).units + 64 < cLine := hr.units
    have rm : ∀ {j : Nat}, j ≤ 10 → Room j (A.deeper (envOfC "_law_right" (defScope sLR) s.heap.objs.size f (.ref c))) := fun h => hr.mono h
    have rp : ∀ {X' : Cx}, X'.A = A.deeper (envOfC "_law_right" (defScope sLR) s.heap.objs.size f (.ref c)) → CallR X' (.builtin "repr") (rRepr X'.K) := fun e => cr_repr (by rw [e]; exact hgd) (by rw [e]; exact hu)
    obtain ⟨oc, od, kV, doc, pm, an, cdg, ctg, osl, rfl, lkg, hcg⟩ := G.ex
    let X : Cx := (cxOf CX0 P w K mg base nLR "_law_right" (defScope sLR) f (.ref c) A outer s H E).nox
    have lam : ∀ {body : Expr} {scope : Scope} {t : XK → TE} {p lpos pos : Pos} (LS : LamX.LamS (defScope sLR) scope) (hbody : ∀ (A' : Around) (outer : List Env) (s : Shared) (H : Hp) (E : XK) (f' c' : Addr), Room 8 (A'.deeper (LamX.lamEnv X scope s.heap.objs.size f' c')) → PE (LamX.lamCx X A' outer s H E scope f' c') body (t E)),
        PE X (.Call (.Name "_law_said" p) [.Lambda { posonlyargs := [], args := [], vararg := none, kwonlyargs := [], kw_defaults := [], kwarg := none, defaults := [] } body scope lpos] [] pos) (LamX.tLam [(Pt, X.env.qual ++ "<lambda>")] (TTsaid K CL RE) t) := fun LS hbody =>
      LamX.pe_lamcall (X := X) (k := 8) rfl cG.g cG.kp lkg hcg cG.b scSaid rfl (.inl rfl) (said_gives (X := X) T Nm hr) TBl rfl (List.mem_cons_self ..) (fun q hq e => by rw [List.mem_singleton.mp hq]) hr LS rfl (fun _ _ _ _ _ => rfl) hbody
    have wo3 : ∀ {A' : Around} {outer : List Env} {s : Shared} {H : Hp} {E : XK} {scope : Scope} {f' c' : Addr} {a b d : Expr} {ta : TE} {tr : TA} {p pos : Pos} (hr8 : Room 8 (A'.deeper (LamX.lamEnv X scope s.heap.objs.size f' c'))) (hg : scope.names.lookup ("worth_of" : Str) = some .globalImplicit)
        (ha : PA (LamX.lamCx X A' outer s H E scope f' c') [a, b, d] (tCons ta tr)) (he : starEach [a, b, d] (LamX.lamEnv X scope s.heap.objs.size f' c') = (false, eval a (LamX.lamEnv X scope s.heap.objs.size f' c')) :: starEach [b, d] (LamX.lamEnv X scope s.heap.objs.size f' c'))
        (hpl : (backTo pos (starEach [b, d] (LamX.lamEnv X scope s.heap.objs.size f' c'))).any (·.1) = false), PE (LamX.lamCx X A' outer s H E scope f' c') (.Call (.Name "worth_of" p) [a, b, d] [] pos) (tCall (spWO (CL 1) (CL 6)) [] E (tCons ta tr)) := fun hr8 hg ha he hpl =>
      pe_call gWO hr8 hg cWO.g cWO.kp cWO.b .nil (passes_call (takes_of rfl rfl rfl rfl) (fun _ _ _ _ h => h)) ha (by decide) he hpl
    have nw2 : ∀ {A' : Around} {outer : List Env} {s : Shared} {H : Hp} {E : XK} {scope : Scope} {f' c' : Addr} {a b : Expr} {ta : TE} {tr : TA} {p pos : Pos} (hr8 : Room 8 (A'.deeper (LamX.lamEnv X scope s.heap.objs.size f' c'))) (hg : scope.names.lookup ("need_worths" : Str) = some .globalImplicit)
        (ha : PA (LamX.lamCx X A' outer s H E scope f' c') [a, b] (tCons ta tr)) (he : starEach [a, b] (LamX.lamEnv X scope s.heap.objs.size f' c') = (false, eval a (LamX.lamEnv X scope s.heap.objs.size f' c')) :: starEach [b] (LamX.lamEnv X scope s.heap.objs.size f' c'))
        (hpl : (backTo pos (starEach [b] (LamX.lamEnv X scope s.heap.objs.size f' c'))).any (·.1) = false), PE (LamX.lamCx X A' outer s H E scope f' c') (.Call (.Name "need_worths" p) [a, b] [] pos) (tCall (spNW (CL 1)) [] E (tCons ta tr)) := fun hr8 hg ha he hpl =>
      pe_call gNW (hr8.mono (by decide)) hg cNW.g cNW.kp cNW.b .nil (passes_call (takes_of rfl rfl rfl rfl) (fun _ _ _ _ h => h)) ha (by decide) he hpl
    refine ⟨_, pss_cons (ps_set (i := 4) nd rfl (Or.inl rfl) (pe_tup (pa_cons pe_str (pa_cons (pe_call gLW (rm (by decide)) rfl cLW.g cLW.kp cLW.b .nil pass0 (pa_cons (pv 2) (pa_cons (pv 3) pa_nil))) pa_nil))))
      (pss_cons (ps_if (pt_cmpR op_ne (pe_callB (rp rfl) (by rfl) T.repr boot_repr (pa_cons (pe_call gNW (rm (by decide)) rfl cNW.g cNW.kp cNW.b .nil passL (pa_cons (pv 1) (pa_cons (pv 2) pa_nil))) pa_nil)) (pe_callB (rp rfl) (by rfl) T.repr boot_repr (pa_cons (pv 2) pa_nil)) (nomark _)) (pss_one (ps_ret pe_bl)) pss_nil)
      (pss_cons (ps_if (pt_cmpR op_ne (pe_callB (rp rfl) (by rfl) T.repr boot_repr (pa_cons (lam (LamX.lamS_by (by decide +kernel)) fun A' outer s H E f' c' hr8 => wo3 hr8 (by decide +kernel) (pa_cons (pv 1) (pa_cons (pv 2) (pa_cons (pv 3) pa_nil))) (by rfl) (by rfl)) pa_nil)) (pe_callB (rp rfl) (by rfl) T.repr boot_repr (pa_cons (pv 4) pa_nil)) (nomark _)) (pss_one (ps_ret pe_bl)) pss_nil)
      (pss_cons (ps_asg (pe_call gOW (rm (by decide)) rfl cOW.g cOW.kp cOW.b .nil pass0 (pa_cons (pv 0) (pa_cons (pv 3) pa_nil))) (pg_tup rfl (pgs_cons (pg_name (i := 5) nd rfl (Or.inr rfl)) (pgs_cons (pg_name (i := 6) nd rfl (Or.inl rfl)) pgs_nil))))
      (pss_cons (ps_if (pt_cmpR (op_neD (by exact hu)) (lam (LamX.lamS_by (by decide +kernel)) fun A' outer s H E f' c' hr8 => wo3 hr8 (by decide +kernel) (pa_cons (pv 1) (pa_cons (pv 2) (pa_cons (pv 5) pa_nil))) (by rfl) (by rfl)) (pe_tup (pa_cons pe_str (pa_cons (pv 6) pa_nil))) (nomark _)) (pss_one (ps_ret pe_bl)) pss_nil)
      (pss_cons (ps_set (i := 7) nd rfl (Or.inl rfl) (pe_lst (pa_cons (pe_callTy call_list_of (by rfl) T.list (by decide +kernel) (pa_cons (pv 2) pa_nil) (by decide)) (pa_cons (pe_slice sl_tupA (pv 2) po_none (po_some (pe_un un_neg pe_int))) (pa_cons (pe_op op_catA (pv 2) (pe_slice sl_tupA (pv 2) po_none (po_some pe_int))) (pa_cons pe_non (pa_cons pe_dnewK (pa_cons pe_str (pa_cons pe_int (pa_cons (pe_tup pa_nil) pa_nil))))))))))
      (pss_cons (ps_for PassesOwn.never rfl (pi_tup (pe_tup (pa_cons (pe_call gBE (rm (by decide)) rfl cBE.g cBE.kp cBE.b .nil pass0 (pa_cons (pv 0) (pa_cons (pv 2) pa_nil))) (pa_cons (pe_call gBE (rm (by decide)) rfl cBE.g cBE.kp cBE.b .nil pass0 (pa_cons (pv 0) (pa_cons (pv 2) pa_nil))) (pa_cons (pe_call gOf (rm (by decide)) rfl cOf.g cOf.kp cOf.b .nil pass0 (pa_cons (pv 0) (pa_cons (pv 7) pa_nil))) pa_nil))))) (pg_name (i := 8) nd rfl (Or.inr rfl))
        (pss_cons (ps_set (i := 9) nd rfl (Or.inl rfl) (pe_call gWr (rm (by decide)) rfl cWr.g cWr.kp cWr.b .nil pass0 (pa_cons (pv 8) (pa_cons (pe_callB call_len_seq (by rfl) T.len PySem.boot_len (pa_cons (pv 2) pa_nil)) pa_nil))))
      (pss_cons (ps_if (pt_cmpR (op_eqD (by exact hu)) (pv 9) (pe_lst pa_nil) (nomark _)) (pss_cons (ps_if (pt_cmpR op_ne (pe_callB (rp rfl) (by rfl) T.repr boot_repr (pa_cons (pe_call gNW (rm (by decide)) rfl cNW.g cNW.kp cNW.b .nil passL (pa_cons (pv 1) (pa_cons (pv 8) pa_nil))) pa_nil)) (pe_callB (rp rfl) (by rfl) T.repr boot_repr (pa_cons (pv 8) pa_nil)) (nomark _)) (pss_one (ps_ret pe_bl)) pss_nil)
      (pss_one ps_continue)) pss_nil)
      (pss_cons (ps_if (pt_cmpR (op_neD (by exact hu)) (lam (LamX.lamS_by (by decide +kernel)) fun A' outer s H E f' c' hr8 => nw2 hr8 (by decide +kernel) (pa_cons (pv 1) (pa_cons (pv 8) pa_nil)) (by rfl) (by rfl)) (pe_tup (pa_cons pe_str (pa_cons (pe_ix ix_list (pv 9) pe_int (fun _ _ => rfl)) pa_nil))) (nomark _)) (pss_one (ps_ret pe_bl)) pss_nil)
      (pss_one (ps_for PassesOwn.never rfl (pi_tup (pe_tup (pa_cons (pv 3) (pa_cons (pv 5) pa_nil)))) (pg_name (i := 10) nd rfl (Or.inr rfl))
        (pss_one (ps_if (pt_cmpR (op_neD (by exact hu)) (lam (LamX.lamS_by (by decide +kernel)) fun A' outer s H E f' c' hr8 => wo3 hr8 (by decide +kernel) (pa_cons (pv 1) (pa_cons (pv 8) (pa_cons (pv 10) pa_nil))) (by rfl) (by rfl)) (pe_tup (pa_cons pe_str (pa_cons (pe_ix ix_list (pv 9) pe_int (fun _ _ => rfl)) pa_nil))) (nomark _)) (pss_one (ps_ret pe_bl)) pss_nil))))))))
      (pss_one (ps_ret (pe_cmpR op_eq (pe_callB (rp rfl) (by rfl) T.repr boot_repr (pa_cons (lam (LamX.lamS_by (by decide +kernel)) fun A' outer s H E f' c' hr8 => wo3 hr8 (by decide +kernel) (pa_cons (pv 1) (pa_cons (pv 2) (pa_cons (pv 3) pa_nil))) (by rfl) (by rfl)) pa_nil)) (pe_callB (rp rfl) (by rfl) T.repr boot_repr (pa_cons (pv 4) pa_nil)) (nomark _)))))))))), ?_⟩
    have lg : (wsum ts ws).natAbs.log2 < 110 := wsum_log hW.2.1 hS.lt (by rw [hW.1]; exact h40)
    have same_ne : ∀ x : Str, (!decide (V.str x = V.str x)) = false := fun x => by rw [decide_eq_true rfl]; rfl
    refine ⟨_, rfl, _, rfl, t, u, m, ts, ws, rfl, hW, hS, h40, fun H1 s1 => ⟨two_le, fun d hd => ?_⟩⟩
    have s2 := Same.new (o := .tup [V.str "told", V.int (wsum ts ws)]) hd
    have B2 : RB K H Pt p a y t u d n m ps ts ws (upd H1 d (.tup [V.str "told", V.int (wsum ts ws)])) := by
      have s12 := s1.trans s2
      exact ⟨M.keep s12, t0.ext s12, hY.mono (sameT s12), hW.mono (sameT s12), hS.mono (sameT s12), upd_same, sameT s12⟩
    generalize upd H1 d (.tup [V.str "told", V.int (wsum ts ws)]) = H2 at B2
    have tvt : ∀ {HX : Hp} {n' : Nat}, RB K H Pt p a y t u d n' m ps ts ws HX → TV HX (.ref t) "tuple" := fun B => by
      obtain ⟨_, _, as, h1, _⟩ := B.W
      exact .tup h1
    refine ⟨_, rfl, _, rfl, y, .ref t, "tuple", m, ps, none, rfl, B2.Y, h40, tvt B2, worths_none.mpr ⟨t, ts, rfl, B2.W⟩, fun _ H3 s3 => ?_, fun l z => by cases z⟩
    have B3 := B2.same s3
    unfold tNil
    refine repr_ws B3.W h40 ?_
    refine ⟨_, rfl, ?_⟩
    refine repr_ws B3.W h40 ?_
    refine ⟨rfl, _, rfl, ?_⟩
    rw [same_ne]
    refine iteF ?_
    -- the worth is told
    refine ⟨B3.tb, fun Ha ea ta Hb R sb hR => ?_⟩
    have Bb := (B3.extN ea ta).same sb
    refine ⟨_, rfl, _, rfl, _, rfl, y, .ref t, .ref u, "tuple", "tuple", m, ps, none, none, rfl, Bb.Y, h40, tvt Bb, .tup Bb.S.here, worths_none.mpr ⟨t, ts, rfl, Bb.W⟩, set_seq Bb.S, (fun l z => by cases z), (fun _ l z => by cases z), fun _ _ t' u' ts' ws' Hc sc e1 e2 hW' hS' => ?_⟩
    cases e1
    cases e2
    have Bc := Bb.same sc
    cases hW'.eq Bc.W
    cases hS'.eq Bc.S
    refine hR _ _ fun v1 hv1 => ?_
    have s4 := Same.new (o := .tup [V.str "told", V.int (wsum ts ws)]) hv1
    have B4 := Bc.same s4
    have h4 := upd_same (H := Hc) (a := v1) (o := .tup [V.str "told", V.int (wsum ts ws)])
    generalize upd Hc v1 (.tup [V.str "told", V.int (wsum ts ws)]) = H4 at B4 h4
    refine repr_tg h4 lg ?_
    refine ⟨_, rfl, ?_⟩
    refine repr_tg B4.D lg ?_
    refine ⟨rfl, _, rfl, ?_⟩
    rw [same_ne]
    refine iteF ?_
    clear B2 B3 Bb Bc hW' hS'
    refine ⟨_, rfl, _, rfl, p, a, u, n, m, ws, rfl, B4.M, by omega, B4.S, h0, h40, fun H5 q z ov lo M5 e5 hq hz dov sov => ?_⟩
    have B5 := B4.draw e5 M5
    refine ⟨q, _, rfl, SqT.of hq, rfl, _, _, rfl, _, _, rfl, rfl, ?_⟩
    -- a wrong setting
    have layS : PyData.canLay0 (.str "setting") = true := by decide +kernel
    have layW : PyData.canLay0 (.str "worths") = true := by decide +kernel
    refine ⟨B5.tb, fun Ha ea ta Hb R sb hR => ?_⟩
    have eab := ea.trans (LamX.ExtN.of sb)
    have Bb := (B5.extN ea ta).same sb
    obtain ⟨To, tvo⟩ := dov.2
    refine ⟨_, rfl, _, rfl, _, rfl, y, .ref t, ov, "tuple", To, m, ps, none, some lo, rfl, Bb.Y, h40, tvt Bb, tvo.1.monoN eab, worths_none.mpr ⟨t, ts, rfl, Bb.W⟩, SeqF.mono tvo.1 sov eab, (fun l z => by cases z), (fun _ l z' => ?_), fun _ z' => by cases z'⟩
    cases z'
    refine said_wrong R6 rfl fun Hc v1 pp sc hv1 hpp => ?_
    have Bc := Bb.same sc
    have hv1 : Hc v1 = some (.tup [.str "setting", .ref pp]) := hv1
    refine ⟨_, rfl, two_le, fun w1 hw1 => ?_⟩
    have s6 := Same.new (o := .tup [V.str "setting", V.ref z]) hw1
    have B6 := Bc.same s6
    have e56 : LamX.ExtN H5 (upd Hc w1 (.tup [V.str "setting", V.ref z])) := eab.trans (LamX.ExtN.of (sc.trans s6))
    have h6 := upd_same (H := Hc) (a := w1) (o := .tup [V.str "setting", V.ref z])
    have hv6 := s6 _ _ hv1
    have hp6 := s6 _ _ hpp
    generalize upd Hc w1 (.tup [V.str "setting", V.ref z]) = H6 at B6 e56 h6 hv6 hp6
    refine ⟨wpD "setting" lo, wpD "setting" lo, dp_wp hv6 hp6, dp_wp h6 (tupN e56 _ _ hz), wp_shaped layS lo, wp_shaped layS lo, _, rfl, ?_⟩
    rw [SeqAt.eqv_refl _ (wp_lay layS lo)]
    refine iteF ?_
    have dov6 := dov.mono (Kp.extN e56)
    have sov6 := SeqF.kp dov sov (Kp.extN e56)
    clear B4 B5 Bb Bc hv6 hp6 h6 e56 dov sov tvo To eab
    -- what isn't worths at all
    obtain ⟨hl6, hok6, as, ht6, hT6⟩ := id B6.W
    have lr : (refs as).length = m := by
      have := hT6.len
      rw [hl6] at this
      exact (List.length_map _).trans this
    have dthree : ∀ {HX : Hp} {x : V}, RB K H Pt p a y t u d (n + 2) m ps ts ws HX → (∀ b xs, H6 b = some (.tup xs) → HX b = some (.tup xs)) → x ∈ refs as → DTV p HX x := fun {HX x} BX sX hx => by
      obtain ⟨c3, hc3, rfl⟩ := List.mem_map.mp hx
      obtain ⟨i, hi⟩ := List.getElem?_of_mem hc3
      obtain ⟨x3, _, h3⟩ := hT6.got hi
      exact three_dtv BX.M.dict (sX _ _ h3)
    refine ⟨_, rfl, t, _, rfl, .inr (SqT.of ht6), fun l1 hl1 => ?_⟩
    have z1 := Same.new (o := .lst (refs as)) hl1
    have k1 := upd_same (H := H6) (a := l1) (o := .lst (refs as))
    generalize upd H6 l1 (.lst (refs as)) = H7 at z1 k1
    refine ⟨_, rfl, _, rfl, _, rfl, rd_slA (z1 _ _ ht6) fun H8 b1 z2 k2 => ?_⟩
    refine ⟨_, rfl, _, rfl, _, rfl, rd_slA (z2 _ _ (z1 _ _ ht6)) fun H9 b2 z3 k3 => ?_⟩
    refine rd_catA (z3 _ _ (z2 _ _ (z1 _ _ ht6))) k3 (Nat.le_trans (m := 100) (by have := cutV_length (refs as) none (some 1); omega) (by decide)) fun HA b3 z4 k4 => ?_
    refine fun dq hdq => ⟨Nat.zero_le _, fun tq htq => ⟨(by show 8 ≤ sizeLine; decide), fun L hL => ?_⟩⟩
    have z5 := Same.new (o := .dK []) hdq
    have k5 := upd_same (H := HA) (a := dq) (o := .dK [])
    have z14 := z1.trans (z2.trans (z3.trans z4))
    have n5 : V.ref dq ≠ V.ref p := fun z => by
      cases z
      obtain ⟨kk, hd'⟩ := B6.M.dict
      rw [z14 _ _ hd'] at hdq
      cases hdq
    generalize upd HA dq (.dK []) = HB at z5 k5 htq hL ⊢
    have z6 := Same.new (o := .tup []) htq
    have k6 := upd_same (H := HB) (a := tq) (o := .tup [])
    generalize upd HB tq (.tup []) = HC at z6 k6 hL ⊢
    have z7 := Same.new (o := .lst [V.ref l1, V.ref b1, V.ref b3, V.non, V.ref dq, V.str "worths", V.int 5, V.ref tq]) hL
    have k7 := upd_same (H := HC) (a := L) (o := .lst [V.ref l1, V.ref b1, V.ref b3, V.non, V.ref dq, V.str "worths", V.int 5, V.ref tq])
    generalize upd HC L (.lst [V.ref l1, V.ref b1, V.ref b3, V.non, V.ref dq, V.str "worths", V.int 5, V.ref tq]) = HD at z7 k7 ⊢
    have zD := z14.trans (z5.trans (z6.trans z7))
    have BD := B6.same zD
    have dw : ∀ v ∈ [V.ref l1, V.ref b1, V.ref b3, V.non, V.ref dq, V.str "worths", V.int 5, V.ref tq], D2 p HD v := fun v hv => by
      have dm := BD.M.dict
      simp only [List.mem_cons, List.not_mem_nil, or_false] at hv
      rcases hv with rfl | rfl | rfl | rfl | rfl | rfl | rfl | rfl
      · exact d2_lst dm ((z2.trans (z3.trans (z4.trans (z5.trans (z6.trans z7))))) _ _ k1)
      · exact d2_tup dm ((z3.trans (z4.trans (z5.trans (z6.trans z7)))) _ _ k2) fun x hx => dthree BD (sameT zD) (List.mem_of_mem_drop (List.mem_of_mem_take hx))
      · refine d2_tup dm ((z5.trans (z6.trans z7)) _ _ k4) fun x hx => dthree BD (sameT zD) ?_
        rcases List.mem_append.mp hx with hx | hx
        · exact hx
        · exact List.mem_of_mem_drop (List.mem_of_mem_take hx)
      · exact d2_flat .non (fun a z => by cases z)
      · have e1 := (z6.trans z7) _ _ k5
        exact ⟨n5, _, .dct e1, fun a ys e ha => by
          cases e
          cases e1.symm.trans ha⟩
      · exact d2_flat (.str _) (fun a z => by cases z)
      · exact d2_flat (.int _) (fun a z => by cases z)
      · exact d2_tup dm (z7 _ _ k6) fun x hx => by simp at hx
    have dovD := dov6.mono (Kp.same zD)
    have sovD := SeqF.kp dov6 sov6 (Kp.same zD)
    have lWL : [V.ref l1, V.ref b1, V.ref b3, V.non, V.ref dq, V.str "worths", V.int 5, V.ref tq].length = 8 := rfl
    generalize [V.ref l1, V.ref b1, V.ref b3, V.non, V.ref dq, V.str "worths", V.int 5, V.ref tq] = WL at k7 dw lWL
    have hWL : WL.length = 8 := lWL
    have nWLp : L ≠ p := fun z => by
      subst z
      obtain ⟨kk, hd'⟩ := BD.M.dict
      cases hd'.symm.trans k7
    refine ⟨_, rfl, _, rfl, p, a, t, n + 2, m, ts, rfl, BD.M, by omega, BD.W, h0, h40, fun HE q1 xs1 ME eE hq1 lx1 dx1 => ?_⟩
    have BE := BD.draw eE ME
    have kpE := Kp.ext BD.M.dict eE
    refine ⟨_, rfl, _, rfl, p, a, t, n + 2 + 7, m, ts, rfl, BE.M, by omega, BE.W, h0, h40, fun HF q2 xs2 MF eF hq2 lx2 dx2 => ?_⟩
    have BF := BE.draw eF MF
    have kpF := Kp.ext BE.M.dict eF
    have kLF := eF _ _ nWLp (eE _ _ nWLp k7)
    refine ⟨_, rfl, _, rfl, p, a, L, n + 2 + 7 + 7, WL, rfl, BF.M, by omega, SqL.of kLF, by omega, by omega, fun HG i3 v3 MG eG hv3 => ⟨(by show 3 ≤ sizeLine; decide), fun tt htt => ?_⟩⟩
    have BG := BF.draw eG MG
    have kpG := Kp.ext BF.M.dict eG
    have d1G := (d2_tup BE.M.dict hq1 dx1).mono kpF |>.mono kpG
    have d2G := (d2_tup BF.M.dict hq2 dx2).mono kpG
    have d3G := (((dw v3 (List.mem_of_getElem? hv3)).mono kpE).mono kpF).mono kpG
    have sovG := SeqF.kp ((dovD.mono kpE).mono kpF) (SeqF.kp (dovD.mono kpE) (SeqF.kp dovD sovD kpE) kpF) kpG
    have dovG := ((dovD.mono kpE).mono kpF).mono kpG
    have s8 := Same.new (o := .tup [V.ref q1, V.ref q2, v3]) htt
    have h8 := upd_same (H := HG) (a := tt) (o := .tup [V.ref q1, V.ref q2, v3])
    have B8 := BG.same s8
    have d18 := d1G.mono (Kp.same s8)
    have d28 := d2G.mono (Kp.same s8)
    have d38 := d3G.mono (Kp.same s8)
    have dov8 := dovG.mono (Kp.same s8)
    have sov8 := SeqF.kp dovG sovG (Kp.same s8)
    refine ⟨tt, rfl, ⟨_, SqT.of h8⟩, ?_⟩
    generalize upd HG tt (.tup [V.ref q1, V.ref q2, v3]) = H8 at s8 h8 B8 d18 d28 d38 dov8 sov8
    clear B6 BD BE BF BG d1G d2G d3G sovG dovG dovD sovD dov6 sov6 kpE kpF kpG dw dx1 dx2 k7 kLF
    have dall : ∀ v ∈ [V.ref q1, V.ref q2, v3], D2 p H8 v := fun v hv => by
      simp only [List.mem_cons, List.not_mem_nil, or_false] at hv
      rcases hv with rfl | rfl | rfl
      · exact d18
      · exact d28
      · exact d38
    obtain ⟨To, tvo⟩ := dov8.2
    refine for_it (walk_tup (K := K) (a := tt) (xs := [V.ref q1, V.ref q2, v3])) (fun j σ H' => ∃ thg wr sm : Option V, σ = [some (.ref p), some (.ref y), some (.ref t), some (.ref u), some (.ref d), some ov, some (.ref z), some (.ref L), thg, wr, sm] ∧ LamX.ExtN H8 H' ∧ TbW Pt H') ⟨none, none, none, rfl, LamX.ExtN.of (Same.refl H8), B8.tb⟩ (fun j σ H' _ ⟨_, _, _, _, e', _⟩ => SqT.of (tupN e' _ _ h8)) ?_ ?_
    · rintro j v σ H9 H10 hj ⟨thg, wr, sm, rfl, e9, t9⟩ ⟨rfl, hv⟩
      have B9 := B8.extN e9 t9
      have hv : [V.ref q1, V.ref q2, v3][j]? = some v := hv
      have dv8 := dall v (List.mem_of_getElem? hv)
      have dv := dv8.mono (Kp.extN e9)
      obtain ⟨⟨Tv, tv⟩, r, hF⟩ := dv.worths m
      obtain ⟨_, _, as9, ht9, hT9⟩ := id B9.W
      have lr9 : (refs as9).length = m := by
        have := hT9.len
        rw [B9.W.1] at this
        exact (List.length_map _).trans this
      refine ⟨_, rfl, _, rfl, t, _, rfl, .inr (SqT.of ht9), ?_⟩
      rw [lr9]
      refine ⟨v, Tv, m, r, rfl, tv, hF, fun er HA Lw sA hLw => ?_, fun l er HA Lw pw sA hLw hpw => ?_⟩
      · subst er
        have BA := B9.same sA
        have eA := e9.trans (LamX.ExtN.of sA)
        refine ⟨_, rfl, Nat.zero_le _, fun o ho => ?_⟩
        have so := Same.new (o := .lst []) ho
        have BO := BA.same so
        refine ⟨.list [], .list [], .lst (SqL.of (so _ _ hLw)) .nil, .lst (SqL.of upd_same) .nil, by decide +kernel, by decide +kernel, _, rfl, ?_⟩
        have e1 : PyData.eqv (.list []) (.list []) = true := by decide +kernel
        rw [e1]
        refine iteT ?_
        have sAo := sA.trans so
        obtain ⟨t', ts', rfl, hW'⟩ := worths_none.mp (hF.mono tv (Same.toN sAo))
        generalize upd HA o (.lst []) = HO' at so BO sAo hW'
        refine ⟨_, rfl, _, rfl, y, .ref t', Tv, m, ps, none, rfl, BO.Y, h40, tv.mono sAo, worths_none.mpr ⟨t', ts', rfl, hW'⟩, ⟨fun _ HP sP => ?_, fun l z => by cases z⟩⟩
        have hWP := hW'.mono (sameT sP)
        refine repr_ws hWP h40 ?_
        refine ⟨_, rfl, ?_⟩
        refine repr_ws hWP h40 ?_
        refine ⟨rfl, _, rfl, ?_⟩
        rw [same_ne]
        refine iteF ?_
        have sAP := sAo.trans sP
        exact ⟨_, _, _, rfl, e9.trans (LamX.ExtN.of sAP), t9.ext sAP⟩
      · subst er
        have BA := B9.same sA
        have eA := e9.trans (LamX.ExtN.of sA)
        refine ⟨_, rfl, Nat.zero_le _, fun o ho => ?_⟩
        have so := Same.new (o := .lst []) ho
        have BO := BA.same so
        have hLo := so _ _ hLw
        have hpo := so _ _ hpw
        refine ⟨lpD l, .list [], .lst (SqL.of hLo) (.cons (.tup (SqT.of hpo) (dp_nats l)) .nil), .lst (SqL.of upd_same) .nil, lp_shaped l, by decide +kernel, _, rfl, ?_⟩
        rw [lp_ne l]
        refine iteF ?_
        have sAo := sA.trans so
        have hFo := hF.mono tv (Same.toN sAo)
        have tvo' := tv.mono sAo
        have eO := eA.trans (LamX.ExtN.of so)
        generalize upd HA o (.lst []) = HO' at so BO sAo hFo tvo' hLo hpo eO
        -- the word and the place are what is told
        refine ⟨BO.tb, fun Ha ea ta Hb R sb hR => ?_⟩
        have eab := ea.trans (LamX.ExtN.of sb)
        have Bb := (BO.extN ea ta).same sb
        refine ⟨_, rfl, _, rfl, y, v, Tv, m, ps, some l, rfl, Bb.Y, h40, tvo'.monoN eab, hFo.mono tvo' eab, ⟨(fun z => by cases z), fun l' z' => ?_⟩⟩
        cases z'
        refine said_wrong R1 rfl fun Hc v1 pp sc hv1 hpp => ?_
        have Bc := Bb.same sc
        have hv1 : Hc v1 = some (.tup [.str "worths", .ref pp]) := hv1
        have eOc := eab.trans (LamX.ExtN.of sc)
        have hLc := eOc _ _ hLo (fun ps z => by cases z)
        refine ⟨_, rfl, Lw, _, 0, _, rfl, rfl, SqL.of hLc, rfl, two_le, fun w1 hw1 => ?_⟩
        have s6 := Same.new (o := .tup [V.str "worths", V.ref pw]) hw1
        have BP := Bc.same s6
        have eOP := eOc.trans (LamX.ExtN.of s6)
        refine ⟨wpD "worths" l, wpD "worths" l, dp_wp (s6 _ _ hv1) (s6 _ _ hpp), dp_wp upd_same (tupN eOP _ _ hpo), wp_shaped layW l, wp_shaped layW l, _, rfl, ?_⟩
        rw [SeqAt.eqv_refl _ (wp_lay layW l)]
        refine iteF ?_
        generalize upd Hc w1 (.tup [V.str "worths", V.ref pw]) = HP at s6 BP eOP
        -- both settings
        refine ⟨_, rfl, _, rfl, two_le, fun w2 hw2 => ?_⟩
        have s7 := Same.new (o := .tup [V.ref u, ov]) hw2
        have h7 := upd_same (H := HP) (a := w2) (o := .tup [V.ref u, ov])
        have BQ := BP.same s7
        have eOQ := eOP.trans (LamX.ExtN.of s7)
        refine ⟨w2, rfl, ⟨_, SqT.of h7⟩, ?_⟩
        generalize upd HP w2 (.tup [V.ref u, ov]) = HQ at s7 h7 BQ eOQ
        have tvq := tvo'.monoN eOQ
        have hFq := hFo.mono tvo' eOQ
        have hLq := eOQ _ _ hLo (fun ps z => by cases z)
        have hpq := tupN eOQ _ _ hpo
        have e8q := eO.trans eOQ
        have tvoq := tvo.1.monoN e8q
        have sovq := SeqF.mono tvo.1 sov8 e8q
        clear Bb Bc BP BA BO
        refine for_it (walk_tup (K := K) (a := w2) (xs := [V.ref u, ov])) (fun i σ H' => ∃ sm : Option V, σ = [some (.ref p), some (.ref y), some (.ref t), some (.ref u), some (.ref d), some ov, some (.ref z), some (.ref L), some v, some (.ref Lw), sm] ∧ LamX.ExtN HQ H' ∧ TbW Pt H') ⟨_, rfl, LamX.ExtN.of (Same.refl HQ), BQ.tb⟩ (fun i σ H' _ ⟨_, _, e', _⟩ => SqT.of (tupN e' _ _ h7)) ?_ ?_
        · rintro i x σ H11 H12 hi ⟨sm', rfl, e11, t11⟩ ⟨rfl, hx⟩
          have B11 := BQ.extN e11 t11
          have hx : [V.ref u, ov][i]? = some x := hx
          obtain ⟨Tx, rs, tvx, hSx⟩ : ∃ Tx rs, TV H12 x Tx ∧ SeqF (okW false) m H12 x rs := by
            have hc : x = .ref u ∨ x = ov := by
              have := List.mem_of_getElem? hx
              simpa using this
            rcases hc with rfl | rfl
            · exact ⟨_, none, .tup B11.S.here, set_seq B11.S⟩
            · exact ⟨_, _, tvoq.monoN e11, SeqF.mono tvoq sovq e11⟩
          refine ⟨t11, fun Ha ea ta Hb R sb hR => ?_⟩
          have eab := ea.trans (LamX.ExtN.of sb)
          have Bb := (B11.extN ea ta).same sb
          have tvq11 := tvq.monoN e11
          have hFq11 := hFq.mono tvq e11
          refine ⟨_, rfl, _, rfl, _, rfl, y, v, x, Tv, Tx, m, ps, some l, rs, rfl, Bb.Y, h40, tvq11.monoN eab, tvx.monoN eab, hFq11.mono tvq11 eab, SeqF.mono tvx hSx eab, (fun l' z' => ?_), (fun z => by cases z), fun z => by cases z⟩
          cases z'
          refine said_wrong R1 rfl fun Hc v2 pp' sc' hv2 hpp' => ?_
          have Bc := Bb.same sc'
          have hv2 : Hc v2 = some (.tup [.str "worths", .ref pp']) := hv2
          have eQc := e11.trans (eab.trans (LamX.ExtN.of sc'))
          have hLc := eQc _ _ hLq (fun ps z => by cases z)
          refine ⟨_, rfl, Lw, _, 0, _, rfl, rfl, SqL.of hLc, rfl, two_le, fun w3 hw3 => ?_⟩
          have s9 := Same.new (o := .tup [V.str "worths", V.ref pw]) hw3
          have eQd := eQc.trans (LamX.ExtN.of s9)
          refine ⟨wpD "worths" l, wpD "worths" l, dp_wp (s9 _ _ hv2) (s9 _ _ hpp'), dp_wp upd_same (tupN eQd _ _ hpq), wp_shaped layW l, wp_shaped layW l, _, rfl, ?_⟩
          rw [SeqAt.eqv_refl _ (wp_lay layW l)]
          refine iteF ?_
          exact ⟨_, rfl, eQd, (Bc.same s9).tb⟩
        · rintro σ H11 ⟨sm', rfl, e11, t11⟩
          exact ⟨_, _, _, rfl, e8q.trans e11, t11⟩
    · rintro σ H9 ⟨thg, wr, sm, rfl, e9, t9⟩
      have B9 := B8.extN e9 t9
      refine ⟨B9.tb, fun Ha ea ta Hb R sb hR => ?_⟩
      have Bb := (B9.extN ea ta).same sb
      refine ⟨_, rfl, _, rfl, _, rfl, y, .ref t, .ref u, "tuple", "tuple", m, ps, none, none, rfl, Bb.Y, h40, tvt Bb, .tup Bb.S.here, worths_none.mpr ⟨t, ts, rfl, Bb.W⟩, set_seq Bb.S, (fun l z => by cases z), (fun _ l z => by cases z), fun _ _ t' u' ts' ws' Hc sc e1 e2 hW' hS' => ?_⟩
      cases e1
      cases e2
      have Bc := Bb.same sc
      cases hW'.eq Bc.W
      cases hS'.eq Bc.S
      refine hR _ _ fun v1 hv1 => ?_
      have s4 := Same.new (o := .tup [V.str "told", V.int (wsum ts ws)]) hv1
      have B4 := Bc.same s4
      have h4 := upd_same (H := Hc) (a := v1) (o := .tup [V.str "told", V.int (wsum ts ws)])
      generalize upd Hc v1 (.tup [V.str "told", V.int (wsum ts ws)]) = H4 at B4 h4
      refine repr_tg h4 lg ?_
      refine ⟨_, rfl, ?_⟩
      refine repr_tg B4.D lg ?_
      refine ⟨rfl, ?_⟩
      rw [decide_eq_true rfl]
      exact k _ (B4.M.lt (by omega) (by omega)) B4.tk B4.tb
end
end One
end P_QH

section P_QI
set_option linter.all false
set_option maxRecDepth 100000
set_option maxHeartbeats 16000000
namespace One
open PySem PySem.Spec PyProof.Rows L2
abbrev sLaw : Stmt := top 62
abbrev nLaw : List Str := ["script", "m", "turn", "yard", "worths", "again", "ways", "crossing"]
theorem scLaw : FnScope nLaw ["script"] (defScope sLaw) := ⟨rfl, rfl, rfl, by decide +kernel, rfl, by decide +kernel, by decide +kernel⟩
def spLaw (K : PySem.W.Frag) (Pt : Addr) : Sp := fun vs H Q _ => ∃ (a : Addr) (ns : List Int), vs = [.ref a] ∧ SqL K H a (ns.map V.int) ∧ ns.length ≤ 63 ∧ H Pt = some (.tbl #[]) ∧ ∀ H', Q (.bl true) H'
theorem w30 : (1000000000000000000000000000000 : Int).natAbs.log2 < 1920 := by decide +kernel
theorem w30' : ((10 : Int) ^ (30 : Int).toNat).natAbs.log2 < 1920 := by decide +kernel
theorem e30 : (!decide (V.str (toString (1000000000000000000000000000000 : Int)) = V.str (toString ((10 : Int) ^ (30 : Int).toNat)))) = false := by
  have : (10 : Int) ^ (30 : Int).toNat = 1000000000000000000000000000000 := by decide +kernel
  rw [this, decide_eq_true rfl]
  rfl
section
variable {P : Program} {w : World} {K : PySem.W.Frag} {mg : Str → Option Value} {base : Heap}
theorem ok_law {f c Pt fB fN fY fW fR : Addr} {fd dB dN dY dW dR : FuncData} (F : FunC K "law" "law" sLaw f fd c) (T : TB mg) (hmin : mg "min" = none) (ww : ∃ t, mg "MOST_WORTH" = some (.int 1000000000000000000000000000000 t))
    (cB : Cal K mg "_law_begun" fB dB ["script"]) (gB : FnOk P w K mg base CX0 1 fB dB ["script"] (spBegun K)) (cN : Cal K mg "_law_next" fN dN ["m", "total"]) (gN : FnOk P w K mg base CX0 1 fN dN ["m", "total"] (spNext K))
    (cY : Cal K mg "_law_yard" fY dY ["m", "most"]) (gY : FnOk P w K mg base CX0 3 fY dY ["m", "most"] (spYard K)) (cW : Cal K mg "_law_worths" fW dW ["m", "yard"]) (gW : FnOk P w K mg base CX0 3 fW dW ["m", "yard"] (spWts K))
    (cR : Cal K mg "_law_right" fR dR ["m", "yard", "worths", "ways"]) (gR : FnG P w K mg base CX0 11 fR dR ["m", "yard", "worths", "ways"] (spLR K Pt)) : FnG P w K mg base CX0 12 f fd ["script"] (spLaw K Pt) := by
  refine okGC F scLaw (fun vs H Q E h => ?_) (fun A outer s H vs Q E hgd hr h => ?_)
  · obtain ⟨a, ns, rfl, _⟩ := h
    rfl
  · obtain ⟨a, ns, rfl, hS, hl, hPt, k⟩ := h
    have nd := scLaw.nd
    have rm : ∀ {j : Nat}, j ≤ 11 → Room j (A.deeper (envOfC "law" (defScope sLaw) s.heap.objs.size f (.ref c))) := fun h => hr.mono h
    obtain ⟨uw, htw⟩ := ww
    refine ⟨_, pss_cons (ps_set (i := 1) nd rfl (Or.inr rfl) (pe_call gB (rm (by decide)) rfl cB.g cB.kp cB.b .nil pass0 (pa_cons (pv 0) pa_nil)))
      (pss_cons (ps_if (pt_cmpR op_ne (pe_callB SkE.call_repr_int (by rfl) T.repr boot_repr (pa_cons (pe_glob (v := .int 1000000000000000000000000000000) rfl htw ⟨_, rfl⟩) pa_nil)) (pe_callB SkE.call_repr_int (by rfl) T.repr boot_repr (pa_cons (pe_op op_pow pe_int pe_int) pa_nil)) (nomark _)) (pss_one (ps_ret pe_bl)) pss_nil)
      (pss_cons (ps_for PassesOwn.never rfl (pi_range1 (by rfl) T.range (pa_cons (pe_op op_add pe_int (pe_op op_fdiv (pe_callB (call_min2 rfl) (by rfl) hmin boot_min (pa_cons pe_int (pa_cons (pe_callB call_len_seq (by rfl) T.len PySem.boot_len (pa_cons (pv 0) pa_nil)) pa_nil))) pe_int)) pa_nil)) (pg_name (i := 2) nd rfl (Or.inl rfl))
        (pss_cons (ps_set (i := 3) nd rfl (Or.inl rfl) (pe_call gY (rm (by decide)) rfl cY.g cY.kp cY.b .nil pass0 (pa_cons (pv 1) (pa_cons (pe_mid (pe_ix ix_list (pe_lst (pa_cons pe_int (pa_cons pe_int (pa_cons pe_int (pa_cons pe_int pa_nil))))) (pe_op op_mod (pv 2) pe_int) (fun _ _ => rfl))) pa_nil))))
      (pss_cons (ps_set (i := 4) nd rfl (Or.inl rfl) (pe_call gW (rm (by decide)) rfl cW.g cW.kp cW.b .nil pass0 (pa_cons (pv 1) (pa_cons (pv 3) pa_nil))))
      (pss_one (ps_for PassesOwn.never rfl (pi_range1 (by rfl) T.range (pa_cons pe_int pa_nil)) (pg_name (i := 5) nd rfl (Or.inl rfl))
        (pss_cons (ps_set (i := 6) nd rfl (Or.inl rfl) (pe_tupleOf (by rfl) T.tuple (pe_lc (own := [("crossing", 7)]) (g := (gName 7)) (tt := tYes) (te := (tCall (spNext K) [] E0 (tCons (tVar 1) (tCons (tC (.int 3)) tNil)))) rfl nd (pi_range1 (by rfl) T.range (pa_cons (pe_callB call_len_seq (by rfl) T.len PySem.boot_len (pa_cons (pv 4) pa_nil)) pa_nil)) (blkOk_by (N := nLaw) (sc := defScope sLaw) (by decide +kernel)) (fun _ _ _ _ _ => pg_name (i := 7) nd rfl (Or.inl rfl)) (fun _ _ _ _ _ => pts_nil) (fun _ _ _ _ _ => by exact (pe_call gN (rm (by decide)) rfl cN.g cN.kp cN.b .nil pass0 (pa_cons (pv 1) (pa_cons pe_int pa_nil)))))))
      (pss_one (ps_if (pt_not (pt_val (pe_callG gR (by exact hgd) (rm (by decide)) rfl cR.g cR.kp cR.b .nil pass0 (pa_cons (pv 1) (pa_cons (pv 3) (pa_cons (pv 4) (pa_cons (pv 6) pa_nil))))))) (pss_one (ps_ret pe_bl)) pss_nil))))))))
      (pss_one (ps_ret pe_bl)))), ?_⟩
    refine ⟨_, rfl, a, ns, rfl, hS, hl, fun H0 p s0 hp M0 => ?_⟩
    have t0 : TbW Pt H0 := fun q hq => by
      rw [List.mem_singleton.mp hq]
      exact LamX.TabS.nil (s0 _ _ hPt)
    refine ⟨_, rfl, w30, _, _, rfl, rfl, ⟨by decide, by decide, by decide⟩, _, rfl, w30', rfl, _, rfl, ?_⟩
    rw [show (!decide (V.str (toString (1000000000000000000000000000000 : Int)) = V.str (toString ((10 : Int) ^ (30 : Int).toNat)))) = false from e30]
    refine iteF ?_
    refine ⟨_, rfl, a, _, rfl, .inl (s0.seq hS), _, _, rfl, _, _, rfl, rfl, ⟨by decide, by decide⟩, _, _, rfl, rfl, _, rfl, ?_, ?_, ?_⟩
    · split <;> omega
    · split <;> omega
    obtain ⟨n9, h9, e9⟩ : ∃ n9 : Nat, n9 ≤ 9 ∧ ((4 : Int) + (if (((ns.map V.int).length : Nat) : Int) < 60 then (((ns.map V.int).length : Nat) : Int) else 60) / 12).toNat = n9 := ⟨_, by split <;> omega, rfl⟩
    rw [e9]
    refine for_range (lo := 0) (n := n9) (fun i σ H' => ∃ v2 v3 v4 v5 v6 v7 : Option V, σ = [some (.ref a), some (.ref p), v2, v3, v4, v5, v6, v7] ∧ MT K H' p a (2000 * i) ∧ TbW Pt H') ⟨none, none, none, none, none, none, rfl, M0, t0⟩ ?_ ?_
    · rintro i σ H1 hi ⟨v2, v3, v4, v5, v6, v7, rfl, M1, t1⟩
      refine ⟨_, rfl, fun v H' => ∃ most : Nat, v = .int (most : Nat) ∧ 0 < most ∧ most ≤ 40 ∧ Same H1 H', ?_, ?_⟩
      · refine ⟨(by show 4 ≤ sizeLine; decide), fun l hl' => ?_⟩
        have s1 := Same.new (o := .lst [V.int 3, V.int 6, V.int 12, V.int 40]) hl'
        refine ⟨_, rfl, _, _, rfl, rfl, (by show (0 : Int) < 4; decide), ?_⟩
        dsimp only
        have hc : ((0 : Int) + ((i : Nat) : Int)) % 4 = 0 ∨ ((0 : Int) + ((i : Nat) : Int)) % 4 = 1 ∨ ((0 : Int) + ((i : Nat) : Int)) % 4 = 2 ∨ ((0 : Int) + ((i : Nat) : Int)) % 4 = 3 := by omega
        rcases hc with e | e | e | e <;> rw [e]
        · exact ⟨l, _, _, V.int 3, rfl, rfl, SqL.of upd_same, rfl, 3, rfl, by decide, by decide, s1⟩
        · exact ⟨l, _, _, V.int 6, rfl, rfl, SqL.of upd_same, rfl, 6, rfl, by decide, by decide, s1⟩
        · exact ⟨l, _, _, V.int 12, rfl, rfl, SqL.of upd_same, rfl, 12, rfl, by decide, by decide, s1⟩
        · exact ⟨l, _, _, V.int 40, rfl, rfl, SqL.of upd_same, rfl, 40, rfl, by decide, by decide, s1⟩
      · rintro v H2 ⟨most, rfl, h0, h40, s2⟩
        have M2 := M1.keep s2
        refine ⟨p, a, _, most, rfl, M2, by omega, h0, h40, fun H3 y m ps M3 e3 hY hm => ?_⟩
        have t3 : TbW Pt H3 := tabs_dict (t1.ext s2) M2.dict e3
        have M3 : MT K H3 p a (2000 * i + 322) := M3.lt (by omega) (by omega)
        refine ⟨_, rfl, _, rfl, p, a, y, _, m, ps, rfl, M3, by omega, hY, by omega, fun H4 t ts M4 e4 hW => ?_⟩
        have hY4 := hY.mono (tupD M3.dict e4)
        have t4 := tabs_dict t3 M3.dict e4
        have M4 : MT K H4 p a (2000 * i + 882) := M4.lt (by omega) (by omega)
        have hm40 : m ≤ 40 := by omega
        have hpos : 0 < m := hY.1.pos
        refine ⟨2, rfl, by decide, by decide, ?_⟩
        refine for_range (lo := 0) (n := (2 : Int).toNat) (fun j σ H' => ∃ v5 v6 v7 : Option V, σ = [some (.ref a), some (.ref p), some (.int (0 + ((i : Nat) : Int))), some (.ref y), some (.ref t), v5, v6, v7] ∧ MT K H' p a (2000 * i + 882 + 60 * j) ∧ TbW Pt H' ∧ ∀ b xs, H4 b = some (.tup xs) → H' b = some (.tup xs)) ⟨_, _, _, rfl, M4, t4, fun _ _ h => h⟩ ?_ ?_
        · rintro j σ H5 hj ⟨v5', v6', v7', rfl, M5, t5, k5⟩
          have hj : j < 2 := hj
          have hY5 := hY4.mono k5
          have hW5 := hW.mono k5
          obtain ⟨hlw, _, as, ht, hTw⟩ := id hW5
          have lr : (refs as).length = m := by
            have := hTw.len
            rw [hlw] at this
            exact (List.length_map _).trans this
          refine ⟨_, rfl, t, _, rfl, .inr (SqT.of ht), ?_⟩
          rw [lr]
          refine ⟨m, rfl, by omega, by omega, fun D hD => ?_⟩
          have sD := Same.new (o := .lst []) hD
          have D5 := M5.dict
          refine lc_it (walk_range (lo := 0) (n := ((m : Nat) : Int).toNat)) (fun q H6 => ∃ ws : List Nat, ws.length = q ∧ H6 D = some (.lst (nats ws)) ∧ (∀ x ∈ ws, x < 3) ∧ MT K H6 p a (2000 * i + 882 + 60 * j + q) ∧ Ext p H5 H6) ⟨[], rfl, upd_same, fun v h => absurd h (by simp), M5.keep sD, Ext.same sD⟩ (fun _ _ _ _ => trivial) ?_ ?_
          · rintro q v H6 H7 hq ⟨ws, lw, h6, b6, M6, e6⟩ ⟨rfl, rfl⟩
            have hq : q < m := by omega
            refine ⟨rfl, yes ⟨_, rfl, p, a, _, _, rfl, M6, by omega, by decide, by decide, fun H8 x M8 e8 x0 x3 => ?_⟩⟩
            obtain ⟨z, rfl⟩ : ∃ z : Nat, x = (z : Nat) := ⟨x.toNat, by omega⟩
            have h8 := e8 _ _ (M6.dict.neL h6) h6
            refine ⟨_, h8, small1000 (by rw [List.length_map]; omega), ws ++ [z], ?_, ?_, ?_, ?_, ?_⟩
            · rw [List.length_append, lw]
              rfl
            · rw [upd_same, nats_app]
              rfl
            · intro y' hy'
              rcases List.mem_append.mp hy' with hy' | hy'
              · exact b6 y' hy'
              · rw [List.mem_singleton.mp hy']
                omega
            · exact (MT.wrN M5 hD (e6.trans e8) M8 h8).lt (by omega) (by omega)
            · exact (e6.trans e8).wr hD
          · rintro H6 ⟨ws, lw, h6, b6, M6, e6⟩
            have lw : ws.length = m := by omega
            refine .inl ⟨D, _, rfl, SqL.of h6, fun u hu => ?_⟩
            have su := Same.new (o := .tup (nats ws)) hu
            have hu7 := upd_same (H := H6) (a := u) (o := .tup (nats ws))
            have e7 := e6.trans (Ext.same su)
            have M7 : MT K (upd H6 u (.tup (nats ws))) p a (2000 * i + 882 + 60 * j + 40) := (M6.keep su).lt (by omega) (by omega)
            generalize upd H6 u (.tup (nats ws)) = H7 at hu7 e7 M7
            have k7 := tupD D5 e7
            refine ⟨_, rfl, _, rfl, _, rfl, _, rfl, p, a, y, t, u, _, m, ps, ts, ws, rfl, M7, by omega, hY5.mono k7, hpos, hm40, hW5.mono k7, ⟨lw, b6, hu7⟩, tabs_dict t5 D5 e7, fun H8 M8 k8 t8 => ⟨_, rfl, iteF ?_⟩⟩
            exact ⟨_, _, _, rfl, M8.lt (by omega) (by omega), t8, fun b xs e => k8 b xs (k7 b xs (k5 b xs e))⟩
        · rintro σ H5 ⟨v5', v6', v7', rfl, M5, t5, k5⟩
          exact ⟨_, _, _, _, _, _, rfl, M5.lt (by omega) (by omega), t5⟩
    · rintro σ H1 ⟨v2, v3, v4, v5, v6, v7, rfl, M1, t1⟩
      exact k _
end
end One
end P_QI

section P_H10
set_option linter.all false
set_option maxRecDepth 100000
set_option maxHeartbeats 8000000
namespace One
open PySem PySem.W PySem.Calls PyProof.Rows PySem.HandSPX L2
/-- a class's __init__, its first statement -/
def initOf : Stmt → Stmt
  | .ClassDef (body := b) .. => b.getD 0 (.Pass ⟨0, 0, 0, 0⟩)
  | s => s
theorem shape0 : Shape (initOf (top 2)) "place" := ⟨_, _, _, _, _, _, _, _, _, _, _, _, _, _, _, _, rfl, rfl, rfl, by decide +kernel, fun _ => rfl⟩
theorem shape1 : Shape (initOf (top 12)) "place" := ⟨_, _, _, _, _, _, _, _, _, _, _, _, _, _, _, _, rfl, rfl, rfl, by decide +kernel, fun _ => rfl⟩
theorem shape6 : Shape (initOf (top 5)) "place" := ⟨_, _, _, _, _, _, _, _, _, _, _, _, _, _, _, _, rfl, rfl, rfl, by decide +kernel, fun _ => rfl⟩
/-- a def of the top -/
structure DefAt (K : Frag) (x : Str) (st : Stmt) (f : Addr) (fd : FuncData) : Prop where
  ns : nsIn K mainGlobals x = some (some (.ref f))
  fn : L2.Fun K x x st f fd
theorem def_at {K : Frag} {x : Str} {st : Stmt} {f : Addr} {oc kV dc pm cd ct : Value} {od an : Option Addr} {sl : Array (Option Value)} (a : nsIn K mainGlobals x = some (some (.ref f))) (l : K.lookup f = some ⟨oc, od, .func (fnOf x x (defArgs st) (defBody st) (defScope st) .none kV dc pm an cd ct), sl⟩)
    (c : codeIn K cd x = true) (k : keepIn K (.ref f) = true) : DefAt K x st f (fnOf x x (defArgs st) (defBody st) (defScope st) .none kV dc pm an cd ct) := ⟨a, fun_mk l c k⟩
theorem DefAt.cal {K : Frag} {x : Str} {st : Stmt} {f : Addr} {fd : FuncData} {h : Heap} {mg : Str → Option Value} {ps : List Str} (D : DefAt K x st f fd) (X : K.In h) (G : h.Ns mainGlobals mg)
    (hb : ∀ (kV doc pm : Value) (an : Option Addr) (cdv ct : Value) (us : List Value), us.length = ps.length → bindArgs (fnOf x x (defArgs st) (defBody st) (defScope st) .none kV doc pm an cdv ct) ⟨us, []⟩ = pure (ps.zip us)) : Cal K mg x f fd ps := ⟨mg_of X G D.ns, D.fn.kp, D.fn.binds hb⟩
/-- an own exception class: what the top has written of it -/
structure ClsAt (P : Program) (K : Frag) (x : Str) (st : Stmt) (fld : Str) (C fI : Addr) : Prop where
  ns : nsIn K mainGlobals x = some (some (.ref C))
  own : OwnTxt P K st fld C fI
  iC : findIn K (.ref C) "__init__" = some (some (.ref fI))
  tC : typeIn K (.ref fI) = some (.type "function")
  kC : keepIn K (.ref C) = true
  exC : subIn K (.ref C) (.type "BaseException") = some true
  tyC : typeIn K (.ref C) = some (.type "type")
theorem al_of {K : Frag} {nm q : Str} {RE N : Addr} {bs : List Value} {sn : List Str} {sub : List Value} {ab : Bool} {col : Option Bool} {dd : Option Addr} {m0 m1 m2 m3 m5 : Option Value} {r : Option (Option Value)} {hdct : Bool}
    (xR : K.lookup RE = some (excClassObj nm q RE N bs [.type "ValueError", .type "Exception", .type "BaseException", .type "object"] hdct sn sub ab col dd m0 m1 m2 m3 m5 "ValueError.__new__")) (fR : findIn K (.ref RE) "__init__" = r) : alongIn K "__init__" [.ref RE, .type "ValueError", .type "Exception", .type "BaseException", .type "object"] = r := by
  unfold findIn at fR
  dsimp only at fR
  rw [xR] at fR
  exact fR
theorem cls_at {P : Program} {K : Frag} {x : Str} {st : Stmt} {fld nm q : Str} {C fI N RE cda cc : Addr} {bs : List Value} {sn : List Str} {sub : List Value} {ab : Bool} {col : Option Bool} {dd od an cdd cld : Option Addr} {m0 m1 m2 m3 m5 : Option Value} {oc doc pm ct ccl cl : Value} {osl ccs csl : Array (Option Value)} {vs : Array Value} {file qual : Str} {tf : Tok}
    (ns : nsIn K mainGlobals x = some (some (.ref C))) (xL : K.lookup C = some (excClassObj nm q C N bs [.ref RE, .type "ValueError", .type "Exception", .type "BaseException", .type "object"] true sn sub ab col dd m0 m1 m2 m3 m5 "ValueError.__new__"))
    (al : alongIn K "__init__" [.ref RE, .type "ValueError", .type "Exception", .type "BaseException", .type "object"] = some (some (.builtin "ValueError.__init__"))) (sa : findIn K (.ref C) "__setattr__" = some (some (.builtin "object.__setattr__"))) (noF : findIn K (.ref C) fld = some none)
    (veB : subIn K (.ref C) (.type "ValueError") = some true) (slf : mroIn K C (.ref C) = some true) (op : nsIn K cStatics "thirdparty.any" = some none) (tp : (P.main.scope.names.lookup ("super" : Str)).isSome = false) (sh : Shape st fld)
    (iC : findIn K (.ref C) "__init__" = some (some (.ref fI))) (l1 : K.lookup fI = some ⟨oc, od, .func (ksFn "__init__" qual (defArgs st) (defBody st) (defScope st) .none .none doc pm an (.ref cda) ct cc), osl⟩) (c1 : codeIn K (.ref cda) qual = true)
    (lc : K.lookup cda = some ⟨ccl, cdd, .fields vs, ccs⟩) (hvs : vs[2]? = some (.str file tf)) (hfile : ((P.main.file : Str) == file) = true) (lcc : K.lookup cc = some ⟨cl, cld, .cell (some (.ref C)), csl⟩)
    (tC : typeIn K (.ref fI) = some (.type "function")) (kC : keepIn K (.ref C) = true) (exC : subIn K (.ref C) (.type "BaseException") = some true) (tyC : typeIn K (.ref C) = some (.type "type")) : ClsAt P K x st fld C fI :=
  ⟨ns, ⟨⟨_, _, _, _, _, _, _, _, _, _, _, _, _, _, _, xL, rfl, by rw [PySem.ESX.drop_own]; exact al⟩, sa, noF, veB, slf, op, tp, sh, ⟨_, _, _, _, _, _, _, _, _, _, _, _, _, _, _, _, _, _, _, l1, c1, lc, hvs, hfile, lcc⟩⟩, iC, tC, kC, exC, tyC⟩
theorem ClsAt.cls {P : Program} {K : Frag} {x : Str} {st : Stmt} {fld : Str} {C fI : Addr} {h : Heap} {mg : Str → Option Value} (D : ClsAt P K x st fld C fI) (X : K.In h) (G : h.Ns mainGlobals mg) : OwnCls K mg x C fI := ⟨mg_of X G D.ns, D.iC, D.tC, D.kC, D.exC, D.tyC⟩
end One
end P_H10

section P_H12
set_option linter.all false
set_option maxRecDepth 100000
set_option maxHeartbeats 8000000
namespace One
open PySem PySem.W PySem.Calls PyProof.Rows PySem.HandSPX L2
def clsS (C0 C1 C2 C3 C4 C5 C6 C7 C8 C9 C10 C11 C12 C13 C14 C15 C16 C17 C18 C19 : Addr) : Nat → Addr := fun i => [C0, C1, C2, C3, C4, C5, C6, C7, C8, C9, C10, C11, C12, C13, C14, C15, C16, C17, C18, C19].getD i C0
theorem exm_two {K : Frag} {cls c d : Value} (h : exmOne K cls c = some true) (k : exmOne K cls d = some false) : exmAny K cls [c, d] = some true := by
  show (match exmOne K cls c, (match exmOne K cls d, (some false : Option Bool) with
    | some b, some e => some (b || e)
    | _, _ => none) with
    | some b, some e => some (b || e)
    | _, _ => none) = some true
  rw [h, k]
  rfl
theorem said1 {K : Frag} {RE C0 C1 C2 C3 C4 C5 C6 C7 C8 C9 C10 C11 C12 C13 C14 C15 C16 C17 C18 C19 : Addr} (hg : findIn K (.ref C1) "__getattribute__" = some (some (.builtin "BaseException.__getattribute__"))) (hk : findIn K (.ref C1) "__getattr__" = some none) (hs : subIn K (.ref C1) (.type "BaseException") = some true)
    (hd : hasDictIn K C1 = true) (ha : findIn K (.ref C1) "__class__" = some (some (.builtin "object.__class__"))) (hn : specialIn K (.builtin "object.__class__") "__get__" = some (some (.builtin "getset_descriptor.__get__"))) (ht : takesIn K (.builtin "object.__class__") = some true)
    (hm : mroIn K C1 (.type "object") = some true) (no : findIn K (.ref C1) "place" = some none)
    (q0 : kitOne K (.ref C1) (.ref C0) = some false) (q1 : kitOne K (.ref C1) (.ref C1) = some true) (q2 : kitOne K (.ref C1) (.ref C2) = some false) (q3 : kitOne K (.ref C1) (.ref C3) = some false) (q4 : kitOne K (.ref C1) (.ref C4) = some false) (q5 : kitOne K (.ref C1) (.ref C5) = some false) (q6 : kitOne K (.ref C1) (.ref C6) = some false) (q7 : kitOne K (.ref C1) (.ref C7) = some false) (q8 : kitOne K (.ref C1) (.ref C8) = some false) (q9 : kitOne K (.ref C1) (.ref C9) = some false) (q10 : kitOne K (.ref C1) (.ref C10) = some false) (q11 : kitOne K (.ref C1) (.ref C11) = some false) (q12 : kitOne K (.ref C1) (.ref C12) = some false) (q13 : kitOne K (.ref C1) (.ref C13) = some false) (q14 : kitOne K (.ref C1) (.ref C14) = some false) (q15 : kitOne K (.ref C1) (.ref C15) = some false) (q16 : kitOne K (.ref C1) (.ref C16) = some false) (q17 : kitOne K (.ref C1) (.ref C17) = some false) (q18 : kitOne K (.ref C1) (.ref C18) = some false) (q19 : kitOne K (.ref C1) (.ref C19) = some false)
    (ve : kitOne K (.ref C1) (.type "ValueError") = some true) (u1 : subIn K (.ref RE) (.type "BaseException") = some true) (u2 : hasDictIn K RE = true) (u3 : typeIn K (.ref RE) = some (.type "type")) (u4 : subIn K (.ref C1) (.ref RE) = some true)
    (n1 : subIn K (.ref C8) (.type "BaseException") = some true) (n2 : hasDictIn K C8 = true) (n3 : typeIn K (.ref C8) = some (.type "type")) (n4 : subIn K (.ref C1) (.ref C8) = some false) : SaidC K (clsS C0 C1 C2 C3 C4 C5 C6 C7 C8 C9 C10 C11 C12 C13 C14 C15 C16 C17 C18 C19) RE 1 :=
  ⟨by decide, ⟨hg, hk, hs, hd, ha, hn, ht, hm⟩, ⟨hg, hk, hs, hd⟩, no, fun j hj => match j, hj with
    | 0, _ => q0
    | 1, _ => q1
    | 2, _ => q2
    | 3, _ => q3
    | 4, _ => q4
    | 5, _ => q5
    | 6, _ => q6
    | 7, _ => q7
    | 8, _ => q8
    | 9, _ => q9
    | 10, _ => q10
    | 11, _ => q11
    | 12, _ => q12
    | 13, _ => q13
    | 14, _ => q14
    | 15, _ => q15
    | 16, _ => q16
    | 17, _ => q17
    | 18, _ => q18
    | 19, _ => q19
    | n + 20, h => absurd h (by omega), ve, exm_two (exm_ref u1 u2 u3 u4) (exm_ref n1 n2 n3 n4)⟩
theorem said6 {K : Frag} {RE C0 C1 C2 C3 C4 C5 C6 C7 C8 C9 C10 C11 C12 C13 C14 C15 C16 C17 C18 C19 : Addr} (hg : findIn K (.ref C6) "__getattribute__" = some (some (.builtin "BaseException.__getattribute__"))) (hk : findIn K (.ref C6) "__getattr__" = some none) (hs : subIn K (.ref C6) (.type "BaseException") = some true)
    (hd : hasDictIn K C6 = true) (ha : findIn K (.ref C6) "__class__" = some (some (.builtin "object.__class__"))) (hn : specialIn K (.builtin "object.__class__") "__get__" = some (some (.builtin "getset_descriptor.__get__"))) (ht : takesIn K (.builtin "object.__class__") = some true)
    (hm : mroIn K C6 (.type "object") = some true) (no : findIn K (.ref C6) "place" = some none)
    (q0 : kitOne K (.ref C6) (.ref C0) = some false) (q1 : kitOne K (.ref C6) (.ref C1) = some false) (q2 : kitOne K (.ref C6) (.ref C2) = some false) (q3 : kitOne K (.ref C6) (.ref C3) = some false) (q4 : kitOne K (.ref C6) (.ref C4) = some false) (q5 : kitOne K (.ref C6) (.ref C5) = some false) (q6 : kitOne K (.ref C6) (.ref C6) = some true) (q7 : kitOne K (.ref C6) (.ref C7) = some false) (q8 : kitOne K (.ref C6) (.ref C8) = some false) (q9 : kitOne K (.ref C6) (.ref C9) = some false) (q10 : kitOne K (.ref C6) (.ref C10) = some false) (q11 : kitOne K (.ref C6) (.ref C11) = some false) (q12 : kitOne K (.ref C6) (.ref C12) = some false) (q13 : kitOne K (.ref C6) (.ref C13) = some false) (q14 : kitOne K (.ref C6) (.ref C14) = some false) (q15 : kitOne K (.ref C6) (.ref C15) = some false) (q16 : kitOne K (.ref C6) (.ref C16) = some false) (q17 : kitOne K (.ref C6) (.ref C17) = some false) (q18 : kitOne K (.ref C6) (.ref C18) = some false) (q19 : kitOne K (.ref C6) (.ref C19) = some false)
    (ve : kitOne K (.ref C6) (.type "ValueError") = some true) (u1 : subIn K (.ref RE) (.type "BaseException") = some true) (u2 : hasDictIn K RE = true) (u3 : typeIn K (.ref RE) = some (.type "type")) (u4 : subIn K (.ref C6) (.ref RE) = some true)
    (n1 : subIn K (.ref C8) (.type "BaseException") = some true) (n2 : hasDictIn K C8 = true) (n3 : typeIn K (.ref C8) = some (.type "type")) (n4 : subIn K (.ref C6) (.ref C8) = some false) : SaidC K (clsS C0 C1 C2 C3 C4 C5 C6 C7 C8 C9 C10 C11 C12 C13 C14 C15 C16 C17 C18 C19) RE 6 :=
  ⟨by decide, ⟨hg, hk, hs, hd, ha, hn, ht, hm⟩, ⟨hg, hk, hs, hd⟩, no, fun j hj => match j, hj with
    | 0, _ => q0
    | 1, _ => q1
    | 2, _ => q2
    | 3, _ => q3
    | 4, _ => q4
    | 5, _ => q5
    | 6, _ => q6
    | 7, _ => q7
    | 8, _ => q8
    | 9, _ => q9
    | 10, _ => q10
    | 11, _ => q11
    | 12, _ => q12
    | 13, _ => q13
    | 14, _ => q14
    | 15, _ => q15
    | 16, _ => q16
    | 17, _ => q17
    | 18, _ => q18
    | 19, _ => q19
    | n + 20, h => absurd h (by omega), ve, exm_two (exm_ref u1 u2 u3 u4) (exm_ref n1 n2 n3 n4)⟩
end One
end P_H12

section P_G3
set_option linter.all false
set_option maxRecDepth 100000
set_option maxHeartbeats 4000000
namespace One
open PySem PySem.Spec PyProof.Rows L2
/-- the one call of a law that has lambdas: cs, its code objects with their tables -/
theorem law_goesT {P : Program} {w : World} {K : PySem.W.Frag} {mg mb : Str → Option Value} {CX : CXT} {k : Nat} {fa a : Addr} {cs : List (Addr × Addr)} {fd : FuncData} {x : Str} {sp : Sp} {s : Shared} {vs : List Value} {ns : List Int} (inK : K.In s.heap) (nsm : s.heap.Ns mainGlobals mg)
    (nsb : s.heap.Ns builtinsNs mb) (boot : ∀ y : Str, y ≠ "__name__" → mb y = bootBuiltins y) (nolim : s.heap.NoLimit) (nogen : s.gens = #[]) (tab : ∀ p ∈ cs, s.heap.get? p.2 = some { cls := .none, data := .fields #[] }) (ntab : ∀ p ∈ cs, K.lookup p.2 = none) (heads : ∀ p ∈ cs, PySem.W.CodeHd s.heap p.1 p.2)
    (blt : ∃ (bm : Addr) (ob : Obj), mg "__builtins__" = some (.ref bm) ∧ bm ≠ builtinsNs ∧ s.heap.get? bm = some ob ∧ ob.cls = .type "module" ∧ ob.dict = some builtinsNs ∧ ob.data = .plain) (ha : s.heap.get? a = some { cls := .type "list", data := .seq vs.toArray }) (hi : IntsAre vs ns) (hl : ns.length ≤ sizeLine)
    (hr : Room k callerA) (F : ∀ base : Heap, K.In base → base.Ns mainGlobals mg → (∀ p ∈ cs, LamX.TabB base mg p.1 p.2) → FnG P w K mg base CX k fa fd [x] sp) (bind : ∀ (s : Shared) (u : Value), BindsTo s fd ⟨[u], []⟩ [(x, u)])
    (hsp : ∀ H : Hp, (∀ p ∈ cs, H p.2 = some (.tbl #[])) → SqL K H a (ns.map V.int) → sp [.ref a] H (fun v _ => v = .bl true) fun _ _ _ => False) (none_out : ∀ H e s', CX [] H s (fun _ _ _ => False) e s' → False) :
    codeAny (model P w) callerA (.call (.ref fa) ⟨[.ref a], []⟩) (fun r s' => r = .ok (.ret (.bool true)) ∧ OldK s.heap s'.heap ∧ s'.os = s.os ∧ AllBare s'.gens) s := by
  have rv := vals_ints hi
  have hlen := hi.length
  have isT : ∀ {b : Addr}, b ∈ cs.map (·.2) → s.heap.get? b = some { cls := .none, data := .fields #[] } := fun {b} hb => by
    obtain ⟨p, hp, e⟩ := List.mem_map.mp hb
    exact e ▸ tab p hp
  have toT : ∀ {p}, p ∈ cs → p.2 ∈ cs.map (·.2) := fun {p} hp => List.mem_map.mpr ⟨p, hp, rfl⟩
  have aT : a ∉ cs.map (·.2) := fun z => Data.noConfusion (show Data.seq vs.toArray _ = Data.fields #[] from congrArg Obj.data (Option.some.inj (ha.symm.trans (isT z))))
  have main : ∀ H : Hp, (∀ b ∈ cs.map (·.2), H b = some (.tbl #[])) → (∀ b u, H b = some u → (b ∈ cs.map (·.2) ∧ u = .tbl #[]) ∨ (b = a ∧ K.lookup a = none ∧ u = .frz { cls := .type "list", data := .seq vs.toArray } (.lst (ns.map V.int)))) → SqL K H a (ns.map V.int) →
      codeAny (model P w) callerA (.call (.ref fa) ⟨[.ref a], []⟩) (fun r s' => r = .ok (.ret (.bool true)) ∧ OldK s.heap s'.heap ∧ s'.os = s.os ∧ AllBare s'.gens) s := by
    intro H hT inv hS
    have ok : HOk P w H s.heap := fun b u e => by
      rcases inv b u e with ⟨hb, rfl⟩ | ⟨rfl, _, rfl⟩
      · exact isT hb
      · exact ⟨ha, by rw [List.length_map]; exact hl, vs, _, rv, ha⟩
    have put : ∀ {b : Addr} {o : Obj}, s.heap.get? b = some o → H b = none → (hidT s.heap H).get? b = some o := fun e n => hidT_get e n
    have free : ∀ {b : Addr} {o : Obj}, s.heap.get? b = some o → (∀ us n, o.data ≠ .seq us n) → o.data ≠ .fields #[] → H b = none := fun {b o} e h1 h2 => by
      match q : H b with
      | none => rfl
      | some u =>
        rcases inv b u q with ⟨hb, _⟩ | ⟨rfl, _, _⟩
        · cases (isT hb).symm.trans e
          exact (h2 rfl).elim
        · cases ha.symm.trans e
          exact (h1 _ _ rfl).elim
    have nsH : ∀ {b : Addr} {m : Str → Option Value}, s.heap.Ns b m → (hidT s.heap H).Ns b m := fun ⟨o, es, ep, e, d, r⟩ => ⟨o, es, ep, put e (free e (fun us n z => by cases d.symm.trans z) (fun z => by cases d.symm.trans z)), d, r⟩
    have inH : K.In (hidT s.heap H) := fun b o e => put (inK b o e) (by
      match q : H b with
      | none => rfl
      | some u =>
        rcases inv b u q with ⟨hb, _⟩ | ⟨rfl, z, _⟩
        · obtain ⟨p, hp, rfl⟩ := List.mem_map.mp hb
          cases (ntab p hp).symm.trans e
        · cases z.symm.trans e)
    obtain ⟨mc, n1, n2⟩ := nolim
    have tabB : ∀ p ∈ cs, LamX.TabB (hidT s.heap H) mg p.1 p.2 := fun p hp => by
      have hTp := tab p hp
      obtain ⟨og, es, ep, eg, dg, _⟩ := nsm
      refine ⟨?_, ?_, fun z => ?_⟩
      · obtain ⟨o, us, file, tf, flags, tg, inF, text, tt, e1, r1, r2, r3, rest⟩ := heads p hp
        refine ⟨o, us, file, tf, flags, tg, inF, text, tt, put e1 (free e1 (fun vs n z => by cases r2.symm.trans z) (fun z => ?_)), r1, r2, r3, rest⟩
        have z' : us = #[] := Data.fields.inj (r2.symm.trans z)
        rw [z'] at r3
        simp at r3
      · obtain ⟨bm, ob, b1, b2, b3, b4, b5, b6⟩ := blt
        refine ⟨bm, ob, b1, b2, fun q => ?_, fun q => ?_, put b3 (free b3 (fun vs n z => by cases b6.symm.trans z) (fun z => by cases b6.symm.trans z)), b4, b5, b6⟩
        · cases (q ▸ b3 : s.heap.get? mainGlobals = some ob).symm.trans eg
          cases b6.symm.trans dg
        · cases (q ▸ b3 : s.heap.get? p.2 = some ob).symm.trans hTp
          cases b6
      · cases (z ▸ hTp : s.heap.get? mainGlobals = _).symm.trans eg
        cases dg
    have env : Env0 P w K mg (hidT s.heap H) callerA [] s H := ⟨rfl, ⟨inH, nsH nsm, ⟨mb, nsH nsb, boot⟩, ⟨mc, nsH n1, n2⟩⟩, fun b o e => of_hidT e, Nat.le_of_eq (hidT_size _ _), trivial, fun b hb => absurd (show b ∈ ([] : List Addr) from hb) List.not_mem_nil, ok, .of_eq nogen⟩
    refine codeAny_mono ((F _ inH (nsH nsm) tabB).go callerA [] s H ⟨[.ref a], []⟩ [.ref a] [.ref a] _ _ rfl hr env (bind s (.ref a)) (.cons rfl .nil) (hsp H (fun p hp => hT _ (toT hp)) hS)) fun r s' h => ?_
    match r, h with
    | .error e, h => exact (none_out H e s' h).elim
    | .ok .next, h => exact h.elim
    | .ok .brk, h => exact h.elim
    | .ok .cont, h => exact h.elim
    | .ok (.ret u), ⟨v, H', os, bare, un, ok', rel, q⟩ =>
      cases (show v = .bl true from q)
      cases (show u = Value.bool true from rel)
      have key : ∀ b o, b ∉ cs.map (·.2) → s.heap.get? b = some o → s'.heap.get? b = some o := fun b o nb e => by
        match q : H b with
        | none => exact un.keep b o e q (fun z => absurd (show b ∈ ([] : List Addr) from z) List.not_mem_nil) (fun z => absurd z List.not_mem_nil)
        | some u =>
          rcases inv b u q with ⟨hb, _⟩ | ⟨rfl, _, rfl⟩
          · exact absurd hb nb
          · obtain ⟨e2, _⟩ := ok' b _ (un.frzs b _ _ q)
            cases ha.symm.trans e
            exact e2
      have more : ∀ p ∈ cs, ∃ m : Array Value, s'.heap.get? p.2 = some { cls := .none, data := .fields m } := fun p hp => let ⟨m, z⟩ := un.tbls p.2 #[] (hT _ (toT hp)); ⟨_, ok' p.2 _ z⟩
      refine ⟨rfl, ⟨fun b o e => ?_, fun b o e => ?_⟩, os, bare⟩
      · rcases Classical.em (b ∈ cs.map (·.2)) with hb | hb
        · obtain ⟨p, hp, rfl⟩ := List.mem_map.mp hb
          obtain ⟨m, hm⟩ := more p hp
          cases (tab p hp).symm.trans e
          exact .inr (.inl ⟨((heads p hp).tab (tab p hp)).isCodeTable, rfl, #[], m, rfl, by rw [Array.empty_append]; exact hm⟩)
        · exact .inl (key b o hb e)
      · rcases Classical.em (b ∈ cs.map (·.2)) with hb | hb
        · obtain ⟨p, hp, rfl⟩ := List.mem_map.mp hb
          obtain ⟨m, hm⟩ := more p hp
          exact ⟨_, hm⟩
        · exact ⟨o, key b o hb e⟩
  match hk : K.lookup a with
  | some o =>
    cases ha.symm.trans (inK a o hk)
    refine main (fun b => if b ∈ cs.map (·.2) then some (.tbl #[]) else none) (fun b hb => if_pos hb) (fun b u z => ?_) (.inr ⟨_, vs.toArray, _, hk, rfl, rfl, rfl, by rw [List.size_toArray, hlen]; exact hl, by simpa using rv⟩)
    rcases Classical.em (b ∈ cs.map (·.2)) with hb | hb
    · exact .inl ⟨hb, (Option.some.inj ((if_pos hb).symm.trans z)).symm⟩
    · cases (if_neg hb).symm.trans z
  | none =>
    refine main (fun b => if b ∈ cs.map (·.2) then some (.tbl #[]) else if b = a then some (.frz { cls := .type "list", data := .seq vs.toArray } (.lst (ns.map V.int))) else none) (fun b hb => if_pos hb) (fun b u z => ?_) (.inl (.inr ⟨{ cls := .type "list", data := .seq vs.toArray }, (if_neg aT).trans (if_pos rfl)⟩))
    rcases Classical.em (b ∈ cs.map (·.2)) with hb | hb
    · exact .inl ⟨hb, (Option.some.inj ((if_pos hb).symm.trans z)).symm⟩
    · have z1 := (if_neg hb).symm.trans z
      rcases Classical.em (b = a) with e | e
      · exact .inr ⟨e, hk, (Option.some.inj ((if_pos e).symm.trans z1)).symm⟩
      · cases (if_neg e).symm.trans z1
/-- what is known of the law's promise behind its top -/
def LawG (l : PySem.W.OpenLaw) (w : World) (K : PySem.W.Frag) (CX : CXT) (k n : Nat) (x : Str) (mg : Str → Option Value) (fa : Addr) (h : Heap) : Prop :=
  ∃ (fd : FuncData) (cs : List (Addr × Addr)) (sp : Sp), (∀ y ∈ cs, h.get? y.2 = some { cls := .none, data := .fields #[] }) ∧ (∀ y ∈ cs, K.lookup y.2 = none) ∧ (∀ y ∈ cs, PySem.W.CodeHd h y.1 y.2) ∧ (∀ (s : Shared) (u : Value), BindsTo s fd ⟨[u], []⟩ [(x, u)]) ∧
    (∀ (H : Hp) (a : Addr) (ns : List Int), ns.length ≤ n → (∀ z ∈ ns, Builtin.Int.intBits z ≤ 1048576) → (∀ y ∈ cs, H y.2 = some (.tbl #[])) → SqL K H a (ns.map V.int) → sp [.ref a] H (fun v _ => v = .bl true) fun _ _ _ => False) ∧
    (∀ base : Heap, K.In base → base.Ns mainGlobals mg → (∀ p ∈ cs, LamX.TabB base mg p.1 p.2) → FnG l.prog w K mg base CX k fa fd [x] sp)
theorem walkGT {l : PySem.W.OpenLaw} {n k : Nat} {q : Program} {loose : List Str} {XP : (Str → Option Value) → Heap → Prop} {YP : World → Heap → Prop} {d : DefRec} {K : Params → PySem.W.Frag} {CX : World → CXT} {x : Str} (hn : l.most = some n) (small : n ≤ sizeLine) (nodef : d.params.defaults = []) (hr : Room k callerA)
    (inY : ∀ (w : World) (h : Heap), YP w h → (K w.params).In h) (F : ∀ (w : World) (mg : Str → Option Value) (fa : Addr) (h : Heap), YP w h → (K w.params).In h → h.Ns mainGlobals mg → mg d.name = some (.ref fa) → LawG l w (K w.params) (CX w) k n x mg fa h)
    (none_out : ∀ (w : World) (H : Hp) (s : Shared) (e : Value) (s' : Shared), CX w [] H s (fun _ _ _ => False) e s' → False) : PySem.W.WalkO q loose XP YP l.row.toRowW d [] (fun f vs => PySem.call f vs) := by
  refine Att.attach_callB hn nodef fun w s0 s1 mg mb fa o pm cd doc a vs ns G Y ho hd hcd hmg hobj hints hlen hbits hg => ?_
  obtain ⟨fd, cs, sp, hT, nT, C, hb, hsp, hF⟩ := F w mg fa _ Y (inY w _ Y) G.T.g hmg
  exact law_goesT (inY w _ Y) G.T.g G.T.b G.T.builtins G.T.nolimit hg hT nT C G.T.bmain hobj hints (Nat.le_trans hlen small) hr hF hb (fun H hH hS => hsp H a ns hlen hbits hH hS) fun H e s' => none_out w H s1 e s'
end One
end P_G3

section P_H13
set_option linter.all false
set_option maxRecDepth 100000
set_option maxHeartbeats 8000000
namespace One
open PySem PySem.W PySem.Calls PyProof.Rows PySem.HandSPX L2
theorem tab_mkX {K : Frag} {x : Str} {f c Pt : Addr} {oc oc2 : Value} {od od2 : Option Addr} {fd : FuncData} {sl sl2 : Array (Option Value)} {vs : Array Value} (a : nsIn K mainGlobals x = some (some (.ref f))) (l : K.lookup f = some ⟨oc, od, .func fd, sl⟩) (hc : fd.code = .ref c)
    (lc : K.lookup c = some ⟨oc2, od2, .fields vs, sl2⟩) (hv : (vs[11]? : Option Value) = some (.ref Pt)) : tabIn K x = some (c, Pt) := by
  unfold tabIn
  rw [a]
  simp only [l, hc, lc, hv]
theorem walkGX {l : OpenLaw} {n k : Nat} {q : Program} {loose : List Str} {XP : (Str → Option Value) → Heap → Prop} {YP : World → Heap → Prop} {d : DefRec} {K : Params → Frag} {CX : World → CXT} {x : Str} (hn : l.most = some n) (small : n ≤ sizeLine) (nodef : d.params.defaults = []) (hr : Room k callerA)
    (inY : ∀ (w : World) (h : Heap), YP w h → (K w.params).In h)
    (F : ∀ (w : World) (mg : Str → Option Value) (fa : Addr) (h : Heap), YP w h → (K w.params).In h → h.Ns mainGlobals mg → mg d.name = some (.ref fa) →
      (∀ {x : Str} {dL : DefRec}, (recsOf q).find? (fun e => e.name == x) = some dL → ∀ {c P : Addr}, tabIn (K w.params) x = some (c, P) → CodeHd h c P ∧ h.get? P = some { cls := .none, data := .fields #[] }) → LawG l w (K w.params) (CX w) k n x mg fa h)
    (none_out : ∀ (w : World) (H : Hp) (s : Shared) (e : Value) (s' : Shared), CX w [] H s (fun _ _ _ => False) e s' → False) : WalkO q loose XP YP l.row.toRowW d [] (fun f vs => PySem.call f vs) := by
  refine Att.attach_callB hn nodef fun w s0 s1 mg mb fa o pm cd doc a vs ns G Y ho hd hcd hmg hobj hints hlen hbits hg => ?_
  have X := inY w _ Y
  obtain ⟨fd, cs, sp, hT, nT, C, hb, hsp, hF⟩ := F w mg fa _ Y X G.T.g hmg (@fun _ _ hrec _ _ ht => tab_of G.T X hrec ht)
  exact law_goesT X G.T.g G.T.b G.T.builtins G.T.nolimit hg hT nT C G.T.bmain hobj hints (Nat.le_trans hlen small) hr hF hb (fun H hH hS => hsp H a ns hlen hbits hH hS) fun H e s' => none_out w H s1 e s'
end One
end P_H13

section P_H11
set_option linter.all false
set_option maxRecDepth 100000
set_option maxHeartbeats 16000000
namespace One
open PySem PySem.W PySem.Calls PyProof.Rows PySem.HandSPX L2
theorem all_mk {l : OpenLaw} {w : World} {K : Frag} {h : Heap} {mg : Str → Option Value} {fa RE C0 C1 C2 C3 C4 C5 C6 C7 C8 C9 C10 C11 C12 C13 C14 C15 C16 C17 C18 C19 i0 i1 i6 : Addr} {f_law c_law : Addr} {t0 t1 t2 t3 : Tok} {f_is_number f_is_below f_reached f_need_yard f_yard_fault f_can_be_many_lines f_is_line f_is_whole f_crossings_beside f_crossings f_need_setting f_ways_fault f_need_worths f_worths_fault f_three_fault f_worth_of f_summed_worth f_law_begun f_law_next f_law_of f_law_turned_about f_law_yard f_law_worth f_law_worths f_law_worth_of f_law_said f_law_wrong f_law_bent f_law_other_ways f_law_right : Addr} {e_is_number e_is_below e_reached e_need_yard e_yard_fault e_can_be_many_lines e_is_line e_is_whole e_crossings_beside e_crossings e_need_setting e_ways_fault e_need_worths e_worths_fault e_three_fault e_worth_of e_summed_worth e_law_begun e_law_next e_law_of e_law_turned_about e_law_yard e_law_worth e_law_worths e_law_worth_of e_law_said e_law_wrong e_law_bent e_law_other_ways : FuncData} {oc kV doc pm ct : Value} {od an : Option Addr} {sl : Array (Option Value)}
    {co_law_right P_law_right : Addr} {oc_law_right kV_law_right doc_law_right pm_law_right ct_law_right : Value} {od_law_right an_law_right : Option Addr} {sl_law_right : Array (Option Value)}
    (X : K.In h) (G : h.Ns mainGlobals mg) (hfa : mg "law" = some (.ref fa))
    (tabs_law_right : ∀ {c P : Addr}, tabIn K "_law_right" = some (c, P) → CodeHd h c P ∧ h.get? P = some { cls := .none, data := .fields #[] })
    (z_len : nsIn K mainGlobals "len" = some none)
    (z_range : nsIn K mainGlobals "range" = some none)
    (z_tuple : nsIn K mainGlobals "tuple" = some none)
    (z_list : nsIn K mainGlobals "list" = some none)
    (z_sorted : nsIn K mainGlobals "sorted" = some none)
    (z_enumerate : nsIn K mainGlobals "enumerate" = some none)
    (z_isinstance : nsIn K mainGlobals "isinstance" = some none)
    (z_int : nsIn K mainGlobals "int" = some none)
    (z_bool : nsIn K mainGlobals "bool" = some none)
    (z_repr : nsIn K mainGlobals "repr" = some none)
    (z_all : nsIn K mainGlobals "all" = some none)
    (z_super : nsIn K mainGlobals "super" = some none)
    (z_ValueError : nsIn K mainGlobals "ValueError" = some none)
    (z_min : nsIn K mainGlobals "min" = some none)
    (z_sum : nsIn K mainGlobals "sum" = some none)
    (z_zip : nsIn K mainGlobals "zip" = some none)
    (k_MOST_CROSSINGS : nsIn K mainGlobals "MOST_CROSSINGS" = some (some (.int 40 t0)))
    (k_PLACES : nsIn K mainGlobals "PLACES" = some (some (.int 4 t1)))
    (k_MANY_WAYS : nsIn K mainGlobals "MANY_WAYS" = some (some (.int 3 t2)))
    (k_MOST_WORTH : nsIn K mainGlobals "MOST_WORTH" = some (some (.int 1000000000000000000000000000000 t3)))
    (d_is_number : DefAt K "is_number" (top 23) f_is_number e_is_number)
    (d_is_below : DefAt K "is_below" (top 24) f_is_below e_is_below)
    (d_reached : DefAt K "reached" (top 26) f_reached e_reached)
    (d_need_yard : DefAt K "need_yard" (top 31) f_need_yard e_need_yard)
    (d_yard_fault : DefAt K "yard_fault" (top 32) f_yard_fault e_yard_fault)
    (d_can_be_many_lines : DefAt K "can_be_many_lines" (top 33) f_can_be_many_lines e_can_be_many_lines)
    (d_is_line : DefAt K "is_line" (top 34) f_is_line e_is_line)
    (d_is_whole : DefAt K "is_whole" (top 35) f_is_whole e_is_whole)
    (d_crossings_beside : DefAt K "crossings_beside" (top 36) f_crossings_beside e_crossings_beside)
    (d_crossings : DefAt K "crossings" (top 37) f_crossings e_crossings)
    (d_need_setting : DefAt K "need_setting" (top 39) f_need_setting e_need_setting)
    (d_ways_fault : DefAt K "ways_fault" (top 40) f_ways_fault e_ways_fault)
    (d_need_worths : DefAt K "need_worths" (top 43) f_need_worths e_need_worths)
    (d_worths_fault : DefAt K "worths_fault" (top 44) f_worths_fault e_worths_fault)
    (d_three_fault : DefAt K "three_fault" (top 45) f_three_fault e_three_fault)
    (d_worth_of : DefAt K "worth_of" (top 46) f_worth_of e_worth_of)
    (d_summed_worth : DefAt K "summed_worth" (top 47) f_summed_worth e_summed_worth)
    (d_law_begun : DefAt K "_law_begun" (top 49) f_law_begun e_law_begun)
    (d_law_next : DefAt K "_law_next" (top 50) f_law_next e_law_next)
    (d_law_of : DefAt K "_law_of" (top 51) f_law_of e_law_of)
    (d_law_turned_about : DefAt K "_law_turned_about" (top 52) f_law_turned_about e_law_turned_about)
    (d_law_yard : DefAt K "_law_yard" (top 53) f_law_yard e_law_yard)
    (d_law_worth : DefAt K "_law_worth" (top 54) f_law_worth e_law_worth)
    (d_law_worths : DefAt K "_law_worths" (top 55) f_law_worths e_law_worths)
    (d_law_worth_of : DefAt K "_law_worth_of" (top 56) f_law_worth_of e_law_worth_of)
    (d_law_said : DefAt K "_law_said" (top 57) f_law_said e_law_said)
    (d_law_wrong : DefAt K "_law_wrong" (top 58) f_law_wrong e_law_wrong)
    (d_law_bent : DefAt K "_law_bent" (top 59) f_law_bent e_law_bent)
    (d_law_other_ways : DefAt K "_law_other_ways" (top 60) f_law_other_ways e_law_other_ways)
    (ns_law_right : nsIn K mainGlobals "_law_right" = some (some (.ref f_law_right))) (lk_law_right : K.lookup f_law_right = some ⟨oc_law_right, od_law_right, .func (fnOf "_law_right" "_law_right" (defArgs (top 61)) (defBody (top 61)) (defScope (top 61)) .none kV_law_right doc_law_right pm_law_right an_law_right (.ref co_law_right) ct_law_right), sl_law_right⟩) (cd_law_right : codeIn K (.ref co_law_right) "_law_right" = true) (kp_law_right : keepIn K (.ref f_law_right) = true)
    (nRE : nsIn K mainGlobals "RoundError" = some (some (.ref RE))) (k0 : ClsAt l.prog K "BadYard" (initOf (top 2)) "place" C0 i0) (k1 : ClsAt l.prog K "BadWorths" (initOf (top 12)) "place" C1 i1) (n2 : nsIn K mainGlobals "BadDraft" = some (some (.ref C2))) (n3 : nsIn K mainGlobals "NeverOne" = some (some (.ref C3))) (n4 : nsIn K mainGlobals "BadPaper" = some (some (.ref C4))) (n5 : nsIn K mainGlobals "OutOfPlace" = some (some (.ref C5))) (k6 : ClsAt l.prog K "BadSetting" (initOf (top 5)) "place" C6 i6) (n7 : nsIn K mainGlobals "BadSplit" = some (some (.ref C7))) (n8 : nsIn K mainGlobals "Nothing" = some (some (.ref C8))) (n9 : nsIn K mainGlobals "BadText" = some (some (.ref C9))) (n10 : nsIn K mainGlobals "BadEnd" = some (some (.ref C10))) (n11 : nsIn K mainGlobals "BadTurn" = some (some (.ref C11))) (n12 : nsIn K mainGlobals "BadLead" = some (some (.ref C12))) (n13 : nsIn K mainGlobals "BadNames" = some (some (.ref C13))) (n14 : nsIn K mainGlobals "BadTwins" = some (some (.ref C14))) (n15 : nsIn K mainGlobals "BadTable" = some (some (.ref C15))) (n16 : nsIn K mainGlobals "BadDeed" = some (some (.ref C16))) (n17 : nsIn K mainGlobals "Barred" = some (some (.ref C17))) (n18 : nsIn K mainGlobals "ManyRounds" = some (some (.ref C18))) (n19 : nsIn K mainGlobals "TooMany" = some (some (.ref C19)))
    (r1 : SaidC K (clsS C0 C1 C2 C3 C4 C5 C6 C7 C8 C9 C10 C11 C12 C13 C14 C15 C16 C17 C18 C19) RE 1) (r6 : SaidC K (clsS C0 C1 C2 C3 C4 C5 C6 C7 C8 C9 C10 C11 C12 C13 C14 C15 C16 C17 C18 C19) RE 6)
    (lawNs : nsIn K mainGlobals "law" = some (some (.ref f_law))) (lawLk : K.lookup f_law = some ⟨oc, od, .func (fnOf "law" "law" (defArgs sLaw) (defBody sLaw) (defScope sLaw) .none kV doc pm an (.ref c_law) ct), sl⟩) (lawCd : codeIn K (.ref c_law) "law" = true)
    (tab_law_right : tabIn K "_law_right" = some (co_law_right, P_law_right)) (ntab_law_right : K.lookup P_law_right = none) : LawG l w K CX0 12 63 "script" mg fa h := by
  have e := hfa.symm.trans (mg_of X G lawNs)
  cases e
  obtain ⟨hd_law_right, ht_law_right⟩ := tabs_law_right tab_law_right
  have memC : ∀ p ∈ [(co_law_right, P_law_right)], p ∈ [(co_law_right, P_law_right)] := fun p hp => hp
  refine ⟨fnOf "law" "law" (defArgs sLaw) (defBody sLaw) (defScope sLaw) .none kV doc pm an (.ref c_law) ct, [(co_law_right, P_law_right)], spLaw K P_law_right, (List.forall_mem_cons.mpr ⟨ht_law_right, (fun p hp => absurd hp List.not_mem_nil)⟩), (List.forall_mem_cons.mpr ⟨ntab_law_right, (fun p hp => absurd hp List.not_mem_nil)⟩), (List.forall_mem_cons.mpr ⟨hd_law_right, (fun p hp => absurd hp List.not_mem_nil)⟩), fun s u => .of_eq rfl, fun H a ns hl _ hT hS => ⟨a, ns, rfl, hS, hl, hT _ (memC (co_law_right, P_law_right) (by simp)), fun _ => rfl⟩, fun base inB nsB tB => ?_⟩
  have no : ∀ {x : Str}, nsIn K mainGlobals x = some none → mg x = none := fun z => mg_none_of X G z
  have T : TB mg := ⟨no z_len, no z_range, no z_tuple, no z_list, no z_sorted, no z_enumerate, no z_isinstance, no z_int, no z_bool, no z_repr, no z_all⟩
  have TCo : TC mg := ⟨⟨_, mg_of X G k_MOST_CROSSINGS⟩, ⟨_, mg_of X G k_PLACES⟩⟩
  have noS : mg "super" = none := no z_super
  have tB_law_right := tB _ (memC (co_law_right, P_law_right) (by simp))
  have c_is_number := d_is_number.cal (ps := ["thing"]) X G fun _ _ _ _ _ _ us hl => match us, hl with | [_], _ => rfl
  have c_is_below := d_is_below.cal (ps := ["thing", "many"]) X G fun _ _ _ _ _ _ us hl => match us, hl with | [_, _], _ => rfl
  have c_reached := d_reached.cal (ps := ["beside", "start"]) X G fun _ _ _ _ _ _ us hl => match us, hl with | [_, _], _ => rfl
  have c_need_yard := d_need_yard.cal (ps := ["thing"]) X G fun _ _ _ _ _ _ us hl => match us, hl with | [_], _ => rfl
  have c_yard_fault := d_yard_fault.cal (ps := ["thing"]) X G fun _ _ _ _ _ _ us hl => match us, hl with | [_], _ => rfl
  have c_can_be_many_lines := d_can_be_many_lines.cal (ps := ["many"]) X G fun _ _ _ _ _ _ us hl => match us, hl with | [_], _ => rfl
  have c_is_line := d_is_line.cal (ps := ["thing", "many_ends"]) X G fun _ _ _ _ _ _ us hl => match us, hl with | [_, _], _ => rfl
  have c_is_whole := d_is_whole.cal (ps := ["lines"]) X G fun _ _ _ _ _ _ us hl => match us, hl with | [_], _ => rfl
  have c_crossings_beside := d_crossings_beside.cal (ps := ["lines", "many"]) X G fun _ _ _ _ _ _ us hl => match us, hl with | [_, _], _ => rfl
  have c_crossings := d_crossings.cal (ps := ["yard"]) X G fun _ _ _ _ _ _ us hl => match us, hl with | [_], _ => rfl
  have c_need_setting := d_need_setting.cal (ps := ["yard", "thing"]) X G fun _ _ _ _ _ _ us hl => match us, hl with | [_, _], _ => rfl
  have c_ways_fault := d_ways_fault.cal (ps := ["thing", "many", "is_draft"]) X G fun _ _ _ _ _ _ us hl => match us, hl with | [_, _, _], _ => rfl
  have c_need_worths := d_need_worths.cal (ps := ["yard", "thing"]) X G fun _ _ _ _ _ _ us hl => match us, hl with | [_, _], _ => rfl
  have c_worths_fault := d_worths_fault.cal (ps := ["thing", "many"]) X G fun _ _ _ _ _ _ us hl => match us, hl with | [_, _], _ => rfl
  have c_three_fault := d_three_fault.cal (ps := ["thing"]) X G fun _ _ _ _ _ _ us hl => match us, hl with | [_], _ => rfl
  have c_worth_of := d_worth_of.cal (ps := ["yard", "worths", "setting"]) X G fun _ _ _ _ _ _ us hl => match us, hl with | [_, _, _], _ => rfl
  have c_summed_worth := d_summed_worth.cal (ps := ["worths", "setting"]) X G fun _ _ _ _ _ _ us hl => match us, hl with | [_, _], _ => rfl
  have c_law_begun := d_law_begun.cal (ps := ["script"]) X G fun _ _ _ _ _ _ us hl => match us, hl with | [_], _ => rfl
  have c_law_next := d_law_next.cal (ps := ["m", "total"]) X G fun _ _ _ _ _ _ us hl => match us, hl with | [_, _], _ => rfl
  have c_law_of := d_law_of.cal (ps := ["m", "some"]) X G fun _ _ _ _ _ _ us hl => match us, hl with | [_, _], _ => rfl
  have c_law_turned_about := d_law_turned_about.cal (ps := ["m", "some"]) X G fun _ _ _ _ _ _ us hl => match us, hl with | [_, _], _ => rfl
  have c_law_yard := d_law_yard.cal (ps := ["m", "most"]) X G fun _ _ _ _ _ _ us hl => match us, hl with | [_, _], _ => rfl
  have c_law_worth := d_law_worth.cal (ps := ["m"]) X G fun _ _ _ _ _ _ us hl => match us, hl with | [_], _ => rfl
  have c_law_worths := d_law_worths.cal (ps := ["m", "yard"]) X G fun _ _ _ _ _ _ us hl => match us, hl with | [_, _], _ => rfl
  have c_law_worth_of := d_law_worth_of.cal (ps := ["worths", "setting"]) X G fun _ _ _ _ _ _ us hl => match us, hl with | [_, _], _ => rfl
  have c_law_said := d_law_said.cal (ps := ["call"]) X G fun _ _ _ _ _ _ us hl => match us, hl with | [_], _ => rfl
  have c_law_wrong := d_law_wrong.cal (ps := ["thing", "many"]) X G fun _ _ _ _ _ _ us hl => match us, hl with | [_, _], _ => rfl
  have c_law_bent := d_law_bent.cal (ps := ["m", "worths"]) X G fun _ _ _ _ _ _ us hl => match us, hl with | [_, _], _ => rfl
  have c_law_other_ways := d_law_other_ways.cal (ps := ["m", "ways"]) X G fun _ _ _ _ _ _ us hl => match us, hl with | [_, _], _ => rfl
  have fn_law_right : FunC K "_law_right" "_law_right" (top 61) f_law_right _ co_law_right := ⟨_, _, _, _, _, _, _, _, rfl, lk_law_right, cd_law_right⟩
  have d_law_right := def_at (st := top 61) ns_law_right lk_law_right cd_law_right kp_law_right
  have c_law_right := d_law_right.cal (ps := ["m", "yard", "worths", "ways"]) X G fun _ _ _ _ _ _ us hl => match us, hl with | [_, _, _, _], _ => rfl
  have Nm : SaidN mg (clsS C0 C1 C2 C3 C4 C5 C6 C7 C8 C9 C10 C11 C12 C13 C14 C15 C16 C17 C18 C19) RE := ⟨mg_of X G nRE, mg_of X G k0.ns, mg_of X G k1.ns, mg_of X G n2, mg_of X G n3, mg_of X G n4, mg_of X G n5, mg_of X G k6.ns, mg_of X G n7, mg_of X G n8, mg_of X G n9, mg_of X G n10, mg_of X G n11, mg_of X G n12, mg_of X G n13, mg_of X G n14, mg_of X G n15, mg_of X G n16, mg_of X G n17, mg_of X G n18, mg_of X G n19, no z_ValueError⟩
  have G_is_number := ok_isnum (P := l.prog) (w := w) (base := base) d_is_number.fn T
  have G_is_below := ok_isbelow d_is_below.fn c_is_number G_is_number
  have G_can := ok_canbe (P := l.prog) (w := w) (base := base) d_can_be_many_lines.fn T TCo
  have G_is_line := ok_isline d_is_line.fn T c_is_below G_is_below
  have G_reached := ok_reached (P := l.prog) (w := w) (base := base) d_reached.fn T
  have G_beside := ok_besideX (P := l.prog) (w := w) (base := base) d_crossings_beside.fn T TCo
  have G_whole := ok_iswhole d_is_whole.fn T c_reached G_reached c_crossings_beside G_beside
  have G_fault := ok_fault d_yard_fault.fn T c_can_be_many_lines G_can c_is_line G_is_line c_is_whole G_whole
  have G_need := ok_need d_need_yard.fn k0.own (k0.cls X G) noS c_yard_fault G_fault
  have G_cross := ok_cross d_crossings.fn T c_need_yard G_need
  have G_ways := ok_ways d_ways_fault.fn T ⟨_, mg_of X G k_MANY_WAYS⟩ c_is_below G_is_below
  have G_ns := ok_ns d_need_setting.fn k6.own (k6.cls X G) noS c_ways_fault G_ways c_crossings G_cross
  have G_th := ok_th d_three_fault.fn T ⟨_, mg_of X G k_MANY_WAYS⟩ ⟨_, mg_of X G k_MOST_WORTH⟩ c_is_number G_is_number
  have G_wx := ok_wx d_worths_fault.fn T c_three_fault G_th
  have G_nw := ok_nw d_need_worths.fn k1.own (k1.cls X G) noS c_worths_fault G_wx c_crossings G_cross
  have G_sw := ok_sw (P := l.prog) (w := w) (base := base) d_summed_worth.fn T (no z_sum)
  have G_wo := ok_wo d_worth_of.fn c_need_worths G_nw c_need_setting G_ns c_summed_worth G_sw
  have G_begun := ok_begun (P := l.prog) (w := w) (mg := mg) (base := base) d_law_begun.fn
  have G_next := ok_next (P := l.prog) (w := w) (base := base) d_law_next.fn T
  have G_of := ok_of d_law_of.fn T c_law_next G_next
  have G_turned := ok_turned d_law_turned_about.fn T c_law_next G_next
  have G_yard := ok_yard d_law_yard.fn T c_law_next G_next c_law_turned_about G_turned
  have G_worth := ok_worth d_law_worth.fn c_law_next G_next
  have G_worths := ok_worths d_law_worths.fn T c_law_next G_next c_law_of G_of c_law_worth G_worth
  have G_lw := ok_lw (P := l.prog) (w := w) (base := base) d_law_worth_of.fn T (no z_sum) (no z_zip)
  have G_wr := ok_wr (P := l.prog) (w := w) (base := base) d_law_wrong.fn T
  have G_be := ok_be d_law_bent.fn T c_law_next G_next
  have G_ow := ok_ow d_law_other_ways.fn T c_law_next G_next
  have G_lr := ok_lr (CL := clsS C0 C1 C2 C3 C4 C5 C6 C7 C8 C9 C10 C11 C12 C13 C14 C15 C16 C17 C18 C19) fn_law_right T tB_law_right Nm r1 r6 d_law_said.fn c_law_said c_law_worth_of G_lw c_need_worths G_nw c_worth_of G_wo c_law_other_ways G_ow c_law_bent G_be c_law_of G_of c_law_wrong G_wr
  exact ok_law ⟨_, _, _, _, _, _, _, _, rfl, lawLk, lawCd⟩ T (no z_min) ⟨_, mg_of X G k_MOST_WORTH⟩ c_law_begun G_begun c_law_next G_next c_law_yard G_yard c_law_worths G_worths c_law_right G_lr
end One
end P_H11

open PySem PySem.W PyProof.Rows in
set_option maxRecDepth 100000 in
set_option maxHeartbeats 0 in
theorem PySem.Challenge.cw_oneround_k41_worths_looked_at_holds : PySem.Challenge.rw_oneround_k41_worths_looked_at.Holds := by
  w_on; o_law; k_head; (case hw => w_witness2)
  k_fill
  refine One.walkGX (l := PySem.Challenge.rw_oneround_k41_worths_looked_at) (n := 63) (k := 12) (CX := fun _ => L2.CX0) (x := "script") rfl (by decide) rfl ⟨rfl, by decide, by decide⟩ (fun w h Y => PySem.W.km_in_of Y) ?F (fun _ _ _ _ _ z => z)
  case F =>
    intro w mg fa h Y KX G hmg tabs
    refine' One.all_mk KX G hmg (tabs (x := "_law_right") (by rfl)) ?z_len ?z_range ?z_tuple ?z_list ?z_sorted ?z_enumerate ?z_isinstance ?z_int ?z_bool ?z_repr ?z_all ?z_super ?z_ValueError ?z_min ?z_sum ?z_zip ?k_MOST_CROSSINGS ?k_PLACES ?k_MANY_WAYS ?k_MOST_WORTH ?d_is_number ?d_is_below ?d_reached ?d_need_yard ?d_yard_fault ?d_can_be_many_lines ?d_is_line ?d_is_whole ?d_crossings_beside ?d_crossings ?d_need_setting ?d_ways_fault ?d_need_worths ?d_worths_fault ?d_three_fault ?d_worth_of ?d_summed_worth ?d_law_begun ?d_law_next ?d_law_of ?d_law_turned_about ?d_law_yard ?d_law_worth ?d_law_worths ?d_law_worth_of ?d_law_said ?d_law_wrong ?d_law_bent ?d_law_other_ways ?ns_law_right ?lk_law_right ?cd_law_right ?kp_law_right ?nRE ?k0 ?k1 ?n2 ?n3 ?n4 ?n5 ?k6 ?n7 ?n8 ?n9 ?n10 ?n11 ?n12 ?n13 ?n14 ?n15 ?n16 ?n17 ?n18 ?n19 ?r1 ?r6 ?lawNs ?lawLk ?lawCd ?tab_law_right ?ntab_law_right
    (case z_len => k_is)
    (case z_range => k_is)
    (case z_tuple => k_is)
    (case z_list => k_is)
    (case z_sorted => k_is)
    (case z_enumerate => k_is)
    (case z_isinstance => k_is)
    (case z_int => k_is)
    (case z_bool => k_is)
    (case z_repr => k_is)
    (case z_all => k_is)
    (case z_super => k_is)
    (case z_ValueError => k_is)
    (case z_min => k_is)
    (case z_sum => k_is)
    (case z_zip => k_is)
    (case k_MOST_CROSSINGS => k_is)
    (case k_PLACES => k_is)
    (case k_MANY_WAYS => k_is)
    (case k_MOST_WORTH => k_is)
    (case d_is_number => refine' One.def_at ?a ?l ?c ?k; (case a => k_is); (case l => k_is); (case c => k_is); (case k => k_is))
    (case d_is_below => refine' One.def_at ?a ?l ?c ?k; (case a => k_is); (case l => k_is); (case c => k_is); (case k => k_is))
    (case d_reached => refine' One.def_at ?a ?l ?c ?k; (case a => k_is); (case l => k_is); (case c => k_is); (case k => k_is))
    (case d_need_yard => refine' One.def_at ?a ?l ?c ?k; (case a => k_is); (case l => k_is); (case c => k_is); (case k => k_is))
    (case d_yard_fault => refine' One.def_at ?a ?l ?c ?k; (case a => k_is); (case l => k_is); (case c => k_is); (case k => k_is))
    (case d_can_be_many_lines => refine' One.def_at ?a ?l ?c ?k; (case a => k_is); (case l => k_is); (case c => k_is); (case k => k_is))
    (case d_is_line => refine' One.def_at ?a ?l ?c ?k; (case a => k_is); (case l => k_is); (case c => k_is); (case k => k_is))
    (case d_is_whole => refine' One.def_at ?a ?l ?c ?k; (case a => k_is); (case l => k_is); (case c => k_is); (case k => k_is))
    (case d_crossings_beside => refine' One.def_at ?a ?l ?c ?k; (case a => k_is); (case l => k_is); (case c => k_is); (case k => k_is))
    (case d_crossings => refine' One.def_at ?a ?l ?c ?k; (case a => k_is); (case l => k_is); (case c => k_is); (case k => k_is))
    (case d_need_setting => refine' One.def_at ?a ?l ?c ?k; (case a => k_is); (case l => k_is); (case c => k_is); (case k => k_is))
    (case d_ways_fault => refine' One.def_at ?a ?l ?c ?k; (case a => k_is); (case l => k_is); (case c => k_is); (case k => k_is))
    (case d_need_worths => refine' One.def_at ?a ?l ?c ?k; (case a => k_is); (case l => k_is); (case c => k_is); (case k => k_is))
    (case d_worths_fault => refine' One.def_at ?a ?l ?c ?k; (case a => k_is); (case l => k_is); (case c => k_is); (case k => k_is))
    (case d_three_fault => refine' One.def_at ?a ?l ?c ?k; (case a => k_is); (case l => k_is); (case c => k_is); (case k => k_is))
    (case d_worth_of => refine' One.def_at ?a ?l ?c ?k; (case a => k_is); (case l => k_is); (case c => k_is); (case k => k_is))
    (case d_summed_worth => refine' One.def_at ?a ?l ?c ?k; (case a => k_is); (case l => k_is); (case c => k_is); (case k => k_is))
    (case d_law_begun => refine' One.def_at ?a ?l ?c ?k; (case a => k_is); (case l => k_is); (case c => k_is); (case k => k_is))
    (case d_law_next => refine' One.def_at ?a ?l ?c ?k; (case a => k_is); (case l => k_is); (case c => k_is); (case k => k_is))
    (case d_law_of => refine' One.def_at ?a ?l ?c ?k; (case a => k_is); (case l => k_is); (case c => k_is); (case k => k_is))
    (case d_law_turned_about => refine' One.def_at ?a ?l ?c ?k; (case a => k_is); (case l => k_is); (case c => k_is); (case k => k_is))
    (case d_law_yard => refine' One.def_at ?a ?l ?c ?k; (case a => k_is); (case l => k_is); (case c => k_is); (case k => k_is))
    (case d_law_worth => refine' One.def_at ?a ?l ?c ?k; (case a => k_is); (case l => k_is); (case c => k_is); (case k => k_is))
    (case d_law_worths => refine' One.def_at ?a ?l ?c ?k; (case a => k_is); (case l => k_is); (case c => k_is); (case k => k_is))
    (case d_law_worth_of => refine' One.def_at ?a ?l ?c ?k; (case a => k_is); (case l => k_is); (case c => k_is); (case k => k_is))
    (case d_law_said => refine' One.def_at ?a ?l ?c ?k; (case a => k_is); (case l => k_is); (case c => k_is); (case k => k_is))
    (case d_law_wrong => refine' One.def_at ?a ?l ?c ?k; (case a => k_is); (case l => k_is); (case c => k_is); (case k => k_is))
    (case d_law_bent => refine' One.def_at ?a ?l ?c ?k; (case a => k_is); (case l => k_is); (case c => k_is); (case k => k_is))
    (case d_law_other_ways => refine' One.def_at ?a ?l ?c ?k; (case a => k_is); (case l => k_is); (case c => k_is); (case k => k_is))
    (case ns_law_right => k_is)
    (case lk_law_right => k_is)
    (case cd_law_right => k_is)
    (case kp_law_right => k_is)
    (case nRE => k_is)
    (case k0 => refine' One.cls_at ?ns ?xL ?al ?sa ?noF ?veB ?slf ?op ?tp ?sh ?iC ?l1 ?c1 ?lc ?hvs ?hfile ?lcc ?tC ?kC ?exC ?tyC; (case ns => k_is); (case xL => k_is); (case al => refine' One.al_of ?xR ?fR; (case xR => k_is); (case fR => k_is)); (case sa => k_is); (case noF => k_is); (case veB => k_is); (case slf => k_is); (case op => k_is); (case tp => rfl); (case sh => exact One.shape0); (case iC => k_is); (case l1 => k_is); (case c1 => k_is); (case lc => k_is); (case hvs => first | rfl | k_is); (case hfile => first | rfl | decide +kernel | k_is); (case lcc => k_is); (case tC => k_is); (case kC => k_is); (case exC => k_is); (case tyC => k_is))
    (case k1 => refine' One.cls_at ?ns ?xL ?al ?sa ?noF ?veB ?slf ?op ?tp ?sh ?iC ?l1 ?c1 ?lc ?hvs ?hfile ?lcc ?tC ?kC ?exC ?tyC; (case ns => k_is); (case xL => k_is); (case al => refine' One.al_of ?xR ?fR; (case xR => k_is); (case fR => k_is)); (case sa => k_is); (case noF => k_is); (case veB => k_is); (case slf => k_is); (case op => k_is); (case tp => rfl); (case sh => exact One.shape1); (case iC => k_is); (case l1 => k_is); (case c1 => k_is); (case lc => k_is); (case hvs => first | rfl | k_is); (case hfile => first | rfl | decide +kernel | k_is); (case lcc => k_is); (case tC => k_is); (case kC => k_is); (case exC => k_is); (case tyC => k_is))
    (case n2 => k_is)
    (case n3 => k_is)
    (case n4 => k_is)
    (case n5 => k_is)
    (case k6 => refine' One.cls_at ?ns ?xL ?al ?sa ?noF ?veB ?slf ?op ?tp ?sh ?iC ?l1 ?c1 ?lc ?hvs ?hfile ?lcc ?tC ?kC ?exC ?tyC; (case ns => k_is); (case xL => k_is); (case al => refine' One.al_of ?xR ?fR; (case xR => k_is); (case fR => k_is)); (case sa => k_is); (case noF => k_is); (case veB => k_is); (case slf => k_is); (case op => k_is); (case tp => rfl); (case sh => exact One.shape6); (case iC => k_is); (case l1 => k_is); (case c1 => k_is); (case lc => k_is); (case hvs => first | rfl | k_is); (case hfile => first | rfl | decide +kernel | k_is); (case lcc => k_is); (case tC => k_is); (case kC => k_is); (case exC => k_is); (case tyC => k_is))
    (case n7 => k_is)
    (case n8 => k_is)
    (case n9 => k_is)
    (case n10 => k_is)
    (case n11 => k_is)
    (case n12 => k_is)
    (case n13 => k_is)
    (case n14 => k_is)
    (case n15 => k_is)
    (case n16 => k_is)
    (case n17 => k_is)
    (case n18 => k_is)
    (case n19 => k_is)
    (case r1 => refine' One.said1 ?hg ?hk ?hs ?hd ?ha ?hn ?ht ?hm ?no ?q0 ?q1 ?q2 ?q3 ?q4 ?q5 ?q6 ?q7 ?q8 ?q9 ?q10 ?q11 ?q12 ?q13 ?q14 ?q15 ?q16 ?q17 ?q18 ?q19 ?ve ?u1 ?u2 ?u3 ?u4 ?n1 ?n2 ?n3 ?n4; (case hg => k_is); (case hk => k_is); (case hs => k_is); (case hd => k_is); (case ha => k_is); (case hn => k_is); (case ht => k_is); (case hm => k_is); (case no => k_is); (case q0 => first | k_is | kit_is); (case q1 => first | k_is | kit_is); (case q2 => first | k_is | kit_is); (case q3 => first | k_is | kit_is); (case q4 => first | k_is | kit_is); (case q5 => first | k_is | kit_is); (case q6 => first | k_is | kit_is); (case q7 => first | k_is | kit_is); (case q8 => first | k_is | kit_is); (case q9 => first | k_is | kit_is); (case q10 => first | k_is | kit_is); (case q11 => first | k_is | kit_is); (case q12 => first | k_is | kit_is); (case q13 => first | k_is | kit_is); (case q14 => first | k_is | kit_is); (case q15 => first | k_is | kit_is); (case q16 => first | k_is | kit_is); (case q17 => first | k_is | kit_is); (case q18 => first | k_is | kit_is); (case q19 => first | k_is | kit_is); (case ve => first | k_is | kit_is); (case u1 => k_is); (case u2 => k_is); (case u3 => k_is); (case u4 => k_is); (case n1 => k_is); (case n2 => k_is); (case n3 => k_is); (case n4 => k_is))
    (case r6 => refine' One.said6 ?hg ?hk ?hs ?hd ?ha ?hn ?ht ?hm ?no ?q0 ?q1 ?q2 ?q3 ?q4 ?q5 ?q6 ?q7 ?q8 ?q9 ?q10 ?q11 ?q12 ?q13 ?q14 ?q15 ?q16 ?q17 ?q18 ?q19 ?ve ?u1 ?u2 ?u3 ?u4 ?n1 ?n2 ?n3 ?n4; (case hg => k_is); (case hk => k_is); (case hs => k_is); (case hd => k_is); (case ha => k_is); (case hn => k_is); (case ht => k_is); (case hm => k_is); (case no => k_is); (case q0 => first | k_is | kit_is); (case q1 => first | k_is | kit_is); (case q2 => first | k_is | kit_is); (case q3 => first | k_is | kit_is); (case q4 => first | k_is | kit_is); (case q5 => first | k_is | kit_is); (case q6 => first | k_is | kit_is); (case q7 => first | k_is | kit_is); (case q8 => first | k_is | kit_is); (case q9 => first | k_is | kit_is); (case q10 => first | k_is | kit_is); (case q11 => first | k_is | kit_is); (case q12 => first | k_is | kit_is); (case q13 => first | k_is | kit_is); (case q14 => first | k_is | kit_is); (case q15 => first | k_is | kit_is); (case q16 => first | k_is | kit_is); (case q17 => first | k_is | kit_is); (case q18 => first | k_is | kit_is); (case q19 => first | k_is | kit_is); (case ve => first | k_is | kit_is); (case u1 => k_is); (case u2 => k_is); (case u3 => k_is); (case u4 => k_is); (case n1 => k_is); (case n2 => k_is); (case n3 => k_is); (case n4 => k_is))
    (case lawNs => k_is)
    (case lawLk => k_is)
    (case lawCd => k_is)
    (case tab_law_right => refine' One.tab_mkX ?ta ?tl ?tc ?tf ?tv; (case ta => k_is); (case tl => k_is); (case tc => rfl); (case tf => k_is); (case tv => rfl))
    (case ntab_law_right => first | rfl | kernel_rfl | decide +kernel)
