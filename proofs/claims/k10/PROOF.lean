import PyProof.Rows.All
import Wide.All
import OpenK.AllK
import Wide.FinOn
import HandS.ForMost
import HandS.Wide
import HandS.Codes
import HandS.Flow
import HandS.SortRule
import HandS.IsInst
import HandS.Conv
import HandS.TupLe
import KE.GoesMore
import HandS.Lambda
import HandS.ExcInit
import HandS.ExcIs
import HandS.ExcField
import HandS.ExcValue
import HandS.RaiseMore
import KE.KExcSuper
import HandS.WordsExc
import PyProof.ReprRoads
import PySem.Challenge.RW_oneround_k10_settings_looked_at
import HandS.Walk
import HandS.Text
import HandS.Ends
import HandS.FStrTup
import HandS.Deep
import HandS.TupAny
import KE.KExcIs
import HandS.Style
import HandS.ExcSuper
import HandS.EndTab
set_option Elab.async false

section P_M1
set_option linter.all false
/-! Lines, yards: the mathematics of what a law's own growing and calling makes. -/
namespace One
/-- the ends of lines -/
def ends : List (Nat × Nat) → List Nat
  | [] => []
  | p :: r => p.1 :: p.2 :: ends r
/-- the items whose place, counted from k, is let by p -/
def keepIx {α : Type} (p : Nat → Bool) : Nat → List α → List α
  | _, [] => []
  | k, x :: r => if p k then x :: keepIx p (k + 1) r else keepIx p (k + 1) r
theorem ends_append : ∀ (a b : List (Nat × Nat)), ends (a ++ b) = ends a ++ ends b
  | [], _ => rfl
  | p :: r, b => by simp [ends, ends_append r b]
theorem ends_perm {a b : List (Nat × Nat)} (h : a.Perm b) : (ends a).Perm (ends b) := by
  induction h with
  | nil => exact .refl _
  | cons x _ ih => exact .cons _ (.cons _ ih)
  | swap x y l => 
    show (y.1 :: y.2 :: x.1 :: x.2 :: ends l).Perm (x.1 :: x.2 :: y.1 :: y.2 :: ends l)
    have : ([y.1, y.2] ++ ([x.1, x.2] ++ ends l)).Perm ([x.1, x.2] ++ ([y.1, y.2] ++ ends l)) := by
      rw [← List.append_assoc, ← List.append_assoc]
      exact List.Perm.append_right _ List.perm_append_comm
    exact this
  | trans _ _ i j => exact i.trans j
theorem ends_length : ∀ a : List (Nat × Nat), (ends a).length = 2 * a.length
  | [] => rfl
  | p :: r => by simp [ends, ends_length r]; omega
theorem mem_ends : ∀ {a : List (Nat × Nat)} {e : Nat}, e ∈ ends a ↔ ∃ p ∈ a, e = p.1 ∨ e = p.2
  | [], e => by simp [ends]
  | p :: r, e => by
    simp only [ends, List.mem_cons, mem_ends (a := r)]
    constructor
    · rintro (h | h | ⟨q, hq, h⟩)
      · exact ⟨p, .inl rfl, .inl h⟩
      · exact ⟨p, .inl rfl, .inr h⟩
      · exact ⟨q, .inr hq, h⟩
    · rintro ⟨q, rfl | hq, h⟩
      · rcases h with h | h
        · exact .inl h
        · exact .inr (.inl h)
      · exact .inr (.inr ⟨q, hq, h⟩)
theorem keepIx_length_le {α : Type} (p : Nat → Bool) : ∀ (k : Nat) (l : List α), (keepIx p k l).length ≤ l.length
  | _, [] => Nat.le_refl _
  | k, x :: r => by
    unfold keepIx
    have := keepIx_length_le p (k + 1) r
    split <;> simp <;> omega
theorem keepIx_snoc {α : Type} (p : Nat → Bool) : ∀ (k : Nat) (l : List α) (x : α), keepIx p k (l ++ [x]) = keepIx p k l ++ (if p (k + l.length) then [x] else [])
  | k, [], x => by simp [keepIx]
  | k, y :: r, x => by
    simp only [List.cons_append, keepIx, keepIx_snoc p (k + 1) r x, List.length_cons]
    have : k + 1 + r.length = k + (r.length + 1) := by omega
    rw [this]
    split <;> simp
theorem keepIx_congr {α : Type} {p q : Nat → Bool} : ∀ (k : Nat) (l : List α), (∀ m, k ≤ m → p m = q m) → keepIx p k l = keepIx q k l
  | _, [], _ => rfl
  | k, x :: r, h => by
    unfold keepIx
    rw [h k (Nat.le_refl _), keepIx_congr (k + 1) r (fun m hm => h m (by omega))]
theorem keepIx_out {α : Type} (p : Nat → Bool) : ∀ (k i : Nat) (l : List α) (x : α), l[i]? = some x → p (k + i) = true → (keepIx p k l).Perm (x :: keepIx (fun m => p m && !decide (m = k + i)) k l)
  | k, _, [], x, h, _ => by simp at h
  | k, 0, y :: r, x, h, hp => by
    have e : y = x := Option.some.inj h
    subst e
    have hp' : p k = true := hp
    simp only [keepIx, hp', Nat.add_zero, decide_true, Bool.not_true, Bool.and_false, if_true]
    refine .cons _ ?_
    have e : keepIx (fun m => p m && !decide (m = k)) (k + 1) r = keepIx p (k + 1) r := keepIx_congr (k + 1) r fun m hm => by
      have : ¬ m = k := by omega
      simp [this]
    simp [e]
  | k, i + 1, y :: r, x, h, hp => by
    have ih := keepIx_out p (k + 1) i r x (by simpa using h) (by rw [show k + 1 + i = k + (i + 1) by omega]; exact hp)
    have hk : ¬ k = k + (i + 1) := by omega
    simp only [keepIx, hk, decide_false, Bool.not_false, Bool.and_true]
    rw [show (fun m => p m && !decide (m = k + (i + 1))) = (fun m => p m && !decide (m = k + 1 + i)) by funext m; rw [show k + (i + 1) = k + 1 + i by omega]]
    split
    · exact (List.Perm.cons _ ih).trans (.swap _ _ _)
    · exact ih
theorem keepIx_all {α : Type} : ∀ (k : Nat) (l : List α), keepIx (fun _ => true) k l = l
  | _, [] => rfl
  | k, x :: r => by simp [keepIx, keepIx_all (k + 1) r]
/-- lines of n crossings: each end in just one of them -/
structure Lines (n : Nat) (ps : List (Nat × Nat)) : Prop where
  len : ps.length = 2 * n
  nd : (ends ps).Nodup
  lt : ∀ e ∈ ends ps, e < 4 * n
/-- all hangs together: what is closed under lines and has crossing 0 has all -/
def Whole (n : Nat) (ps : List (Nat × Nat)) : Prop := ∀ P : Nat → Prop, (∀ p ∈ ps, P (p.1 / 4) ↔ P (p.2 / 4)) → P 0 → ∀ c, c < n → P c
theorem Whole.from {n : Nat} {ps : List (Nat × Nat)} (w : Whole n ps) {P : Nat → Prop} (h : ∀ p ∈ ps, P (p.1 / 4) ↔ P (p.2 / 4)) {a : Nat} (ha : a < n) (hp : P a) {c : Nat} (hc : c < n) : P c := by
  by_cases h0 : P 0
  · exact w P h h0 c hc
  · exact absurd hp (w (fun x => ¬ P x) (fun p m => not_congr (h p m)) h0 a ha)
theorem Whole.perm {n : Nat} {ps qs : List (Nat × Nat)} (w : Whole n ps) (h : ps.Perm qs) : Whole n qs := fun P hP h0 c hc => w P (fun p m => hP p (h.mem_iff.mp m)) h0 c hc
theorem Lines.perm {n : Nat} {ps qs : List (Nat × Nat)} (w : Lines n ps) (h : ps.Perm qs) : Lines n qs :=
  ⟨h.length_eq ▸ w.len, (ends_perm h).nodup_iff.mp w.nd, fun e m => w.lt e ((ends_perm h).mem_iff.mpr m)⟩
/-- the fresh lines of crossing n put across two lines, or twice across one -/
def fresh (n : Nat) (i j : Nat) (a b : Nat × Nat) : List (Nat × Nat) :=
  if i = j then [(a.1, 4 * n), (4 * n + 1, 4 * n + 2), (a.2, 4 * n + 3)] else [(a.1, 4 * n), (a.2, 4 * n + 2), (b.1, 4 * n + 1), (b.2, 4 * n + 3)]
/-- the places but two -/
def notIJ (i j : Nat) : Nat → Bool := fun m => !decide (m = i) && !decide (m = j)
def putOn (n : Nat) (ps : List (Nat × Nat)) (i j : Nat) (a b : Nat × Nat) : List (Nat × Nat) := keepIx (notIJ i j) 0 ps ++ fresh n i j a b
theorem keep_one {α : Type} {ps : List α} {i : Nat} {a : α} (ha : ps[i]? = some a) : ps.Perm (a :: keepIx (notIJ i i) 0 ps) := by
  have h := keepIx_out (fun _ => true) 0 i ps a ha rfl
  rw [keepIx_all] at h
  refine h.trans ?_
  rw [keepIx_congr (q := notIJ i i) 0 ps fun m _ => by simp [notIJ]]
theorem keep_two {α : Type} {ps : List α} {i j : Nat} {a b : α} (hij : i ≠ j) (ha : ps[i]? = some a) (hb : ps[j]? = some b) : ps.Perm (a :: b :: keepIx (notIJ i j) 0 ps) := by
  have h := keepIx_out (fun _ => true) 0 i ps a ha rfl
  rw [keepIx_all] at h
  refine h.trans (.cons _ ?_)
  have h2 := keepIx_out (fun m => true && !decide (m = 0 + i)) 0 j ps b hb (by simp; omega)
  refine h2.trans ?_
  rw [keepIx_congr (q := notIJ i j) 0 ps fun m _ => by simp [notIJ]]
theorem mem_keep {α : Type} (p : Nat → Bool) : ∀ (k : Nat) (l : List α) (x : α), x ∈ keepIx p k l → x ∈ l
  | _, [], _, h => h
  | k, y :: r, x, h => by
    unfold keepIx at h
    split at h
    · rcases List.mem_cons.mp h with e | h
      · exact List.mem_cons.mpr (.inl e)
      · exact List.mem_cons.mpr (.inr (mem_keep p (k + 1) r x h))
    · exact List.mem_cons.mpr (.inr (mem_keep p (k + 1) r x h))
theorem put_ends {n : Nat} {ps : List (Nat × Nat)} {i j : Nat} {a b : Nat × Nat} (ha : ps[i]? = some a) (hb : ps[j]? = some b) :
    (ends (putOn n ps i j a b)).Perm (ends ps ++ [4 * n, 4 * n + 1, 4 * n + 2, 4 * n + 3]) := by
  unfold putOn
  rw [ends_append]
  unfold fresh
  by_cases hij : i = j
  · subst hij
    rw [if_pos rfl]
    have h := ends_perm (keep_one ha)
    refine List.Perm.trans ?_ (List.Perm.append_right _ h.symm)
    show (ends (keepIx (notIJ i i) 0 ps) ++ [a.1, 4 * n, 4 * n + 1, 4 * n + 2, a.2, 4 * n + 3]).Perm ((a.1 :: a.2 :: ends (keepIx (notIJ i i) 0 ps)) ++ [4 * n, 4 * n + 1, 4 * n + 2, 4 * n + 3])
    refine List.perm_iff_count.mpr fun x => ?_
    simp only [List.count_append, List.count_cons, List.count_nil]
    omega
  · rw [if_neg hij]
    have h := ends_perm (keep_two hij ha hb)
    refine List.Perm.trans ?_ (List.Perm.append_right _ h.symm)
    show (ends (keepIx (notIJ i j) 0 ps) ++ [a.1, 4 * n, a.2, 4 * n + 2, b.1, 4 * n + 1, b.2, 4 * n + 3]).Perm ((a.1 :: a.2 :: b.1 :: b.2 :: ends (keepIx (notIJ i j) 0 ps)) ++ [4 * n, 4 * n + 1, 4 * n + 2, 4 * n + 3])
    refine List.perm_iff_count.mpr fun x => ?_
    simp only [List.count_append, List.count_cons, List.count_nil]
    omega
theorem put_len {n : Nat} {ps : List (Nat × Nat)} {i j : Nat} {a b : Nat × Nat} (ha : ps[i]? = some a) (hb : ps[j]? = some b) : (putOn n ps i j a b).length = ps.length + 2 := by
  have h := (put_ends (n := n) ha hb).length_eq
  rw [List.length_append, ends_length, ends_length] at h
  simp at h
  omega
theorem put_lines {n : Nat} {ps : List (Nat × Nat)} {i j : Nat} {a b : Nat × Nat} (L : Lines n ps) (ha : ps[i]? = some a) (hb : ps[j]? = some b) : Lines (n + 1) (putOn n ps i j a b) := by
  have hp := put_ends (n := n) ha hb
  refine ⟨by rw [put_len ha hb, L.len]; omega, hp.nodup_iff.mpr (List.nodup_append.mpr ⟨L.nd, ?_, fun x hx y hy => ?_⟩), fun e he => ?_⟩
  · simp
  · have := L.lt x hx
    simp at hy
    omega
  · rcases List.mem_append.mp (hp.mem_iff.mp he) with h | h
    · have := L.lt e h
      omega
    · simp at h
      omega
theorem put_whole {n : Nat} {ps : List (Nat × Nat)} {i j : Nat} {a b : Nat × Nat} (hn : 0 < n) (L : Lines n ps) (w : Whole n ps) (ha : ps[i]? = some a) (hb : ps[j]? = some b) : Whole (n + 1) (putOn n ps i j a b) := by
  intro P hP h0
  have old : ∀ p ∈ keepIx (notIJ i j) 0 ps, P (p.1 / 4) ↔ P (p.2 / 4) := fun p m => hP p (List.mem_append.mpr (.inl m))
  have d0 : 4 * n / 4 = n := by omega
  have d1 : (4 * n + 1) / 4 = n := by omega
  have d2 : (4 * n + 2) / 4 = n := by omega
  have d3 : (4 * n + 3) / 4 = n := by omega
  have new : ∀ p ∈ fresh n i j a b, P (p.1 / 4) ↔ P (p.2 / 4) := fun p m => hP p (List.mem_append.mpr (.inr m))
  have hA : (P (a.1 / 4) ↔ P n) ∧ (P (a.2 / 4) ↔ P n) ∧ (i ≠ j → (P (b.1 / 4) ↔ P n) ∧ (P (b.2 / 4) ↔ P n)) := by
    unfold fresh at new
    by_cases hij : i = j
    · rw [if_pos hij] at new
      have q1 := new (a.1, 4 * n) (by simp)
      have q2 := new (a.2, 4 * n + 3) (by simp)
      simp only [d0, d3] at q1 q2
      exact ⟨q1, q2, fun z => absurd hij z⟩
    · rw [if_neg hij] at new
      have q1 := new (a.1, 4 * n) (by simp)
      have q2 := new (a.2, 4 * n + 2) (by simp)
      have q3 := new (b.1, 4 * n + 1) (by simp)
      have q4 := new (b.2, 4 * n + 3) (by simp)
      simp only [d0, d1, d2, d3] at q1 q2 q3 q4
      exact ⟨q1, q2, fun _ => ⟨q3, q4⟩⟩
  have clo : ∀ p ∈ ps, P (p.1 / 4) ↔ P (p.2 / 4) := by
    intro p m
    by_cases hij : i = j
    · subst hij
      rcases List.mem_cons.mp ((keep_one ha).mem_iff.mp m) with e | m
      · subst e
        exact hA.1.trans hA.2.1.symm
      · exact old p m
    · rcases List.mem_cons.mp ((keep_two hij ha hb).mem_iff.mp m) with e | m
      · subst e
        exact hA.1.trans hA.2.1.symm
      · rcases List.mem_cons.mp m with e | m
        · subst e
          exact (hA.2.2 hij).1.trans (hA.2.2 hij).2.symm
        · exact old p m
  have all := w P clo h0
  intro c hc
  by_cases h : c < n
  · exact all c h
  · have e : c = n := by omega
    subst e
    have am : a.1 ∈ ends ps := mem_ends.mpr ⟨a, List.mem_of_getElem? ha, .inl rfl⟩
    have := L.lt _ am
    exact hA.1.mp (all _ (by omega))
end One
end P_M1

section P_M2
set_option linter.all false
namespace One
/-- what a law's own growing makes -/
structure Grown (n : Nat) (ps : List (Nat × Nat)) : Prop where
  pos : 0 < n
  lines : Lines n ps
  whole : Whole n ps
theorem grown_one {a b c d : Nat} (h : [a, b, c, d].Perm [0, 1, 2, 3]) : Grown 1 [(a, b), (c, d)] := by
  refine ⟨by decide, ⟨rfl, h.nodup_iff.mpr (by decide), fun e he => ?_⟩, fun P _ h0 x hx => ?_⟩
  · have := h.mem_iff.mp he
    simp at this
    omega
  · have e : x = 0 := by omega
    subst e
    exact h0
theorem Grown.put {n : Nat} {ps : List (Nat × Nat)} {i j : Nat} {a b : Nat × Nat} (g : Grown n ps) (ha : ps[i]? = some a) (hb : ps[j]? = some b) : Grown (n + 1) (putOn n ps i j a b) :=
  ⟨by omega, put_lines g.lines ha hb, put_whole g.pos g.lines g.whole ha hb⟩
/-- how ends are called otherwise, crossing by crossing -/
structure Called (n : Nat) (ns : List Nat) : Prop where
  perm : ns.Perm (List.range (4 * n))
  blk : ∀ i j, i < 4 * n → j < 4 * n → i / 4 = j / 4 → ns.getD i 0 / 4 = ns.getD j 0 / 4
theorem Called.len {n : Nat} {ns : List Nat} (c : Called n ns) : ns.length = 4 * n := by rw [c.perm.length_eq, List.length_range]
theorem Called.lt {n : Nat} {ns : List Nat} (c : Called n ns) {i : Nat} (hi : i < 4 * n) : ns.getD i 0 < 4 * n := by
  have h : i < ns.length := by rw [c.len]; exact hi
  rw [List.getD_eq_getElem?_getD, List.getElem?_eq_getElem h, Option.getD_some]
  exact List.mem_range.mp (c.perm.mem_iff.mp (List.getElem_mem h))
theorem Called.inj {n : Nat} {ns : List Nat} (c : Called n ns) {i j : Nat} (hi : i < 4 * n) (hj : j < 4 * n) (e : ns.getD i 0 = ns.getD j 0) : i = j := by
  have h1 : i < ns.length := by rw [c.len]; exact hi
  have h2 : j < ns.length := by rw [c.len]; exact hj
  rw [List.getD_eq_getElem?_getD, List.getElem?_eq_getElem h1, Option.getD_some, List.getD_eq_getElem?_getD, List.getElem?_eq_getElem h2, Option.getD_some] at e
  exact (List.getElem_inj (c.perm.nodup_iff.mpr List.nodup_range)).mp e
theorem Called.onto {n : Nat} {ns : List Nat} (c : Called n ns) {x : Nat} (hx : x < 4 * n) : ∃ i, i < 4 * n ∧ ns.getD i 0 = x := by
  have h := c.perm.mem_iff.mpr (List.mem_range.mpr hx)
  obtain ⟨i, hi, e⟩ := List.mem_iff_getElem.mp h
  refine ⟨i, by rw [← c.len]; exact hi, ?_⟩
  rw [List.getD_eq_getElem?_getD, List.getElem?_eq_getElem hi, Option.getD_some, e]
/-- a line, the lesser end ahead -/
def low (x y : Nat) : Nat × Nat := if y < x then (y, x) else (x, y)
def callL (ns : List Nat) (p : Nat × Nat) : Nat × Nat := low (ns.getD p.1 0) (ns.getD p.2 0)
theorem low_mem (x y : Nat) : ∀ e, (e = (low x y).1 ∨ e = (low x y).2) ↔ (e = x ∨ e = y) := by
  intro e
  unfold low
  split
  · exact Or.comm
  · exact Iff.rfl
theorem ends_map (ns : List Nat) : ∀ ps : List (Nat × Nat), (ends (ps.map (callL ns))).Perm ((ends ps).map fun e => ns.getD e 0)
  | [] => .refl _
  | p :: r => by
    have ih := ends_map ns r
    show ((callL ns p).1 :: (callL ns p).2 :: ends (r.map (callL ns))).Perm (ns.getD p.1 0 :: ns.getD p.2 0 :: (ends r).map fun e => ns.getD e 0)
    unfold callL low
    split
    · exact (List.Perm.swap _ _ _).trans (.cons _ (.cons _ ih))
    · exact .cons _ (.cons _ ih)
theorem nodup_map_on {α β : Type} {f : α → β} : ∀ {l : List α}, (∀ x ∈ l, ∀ y ∈ l, f x = f y → x = y) → l.Nodup → (l.map f).Nodup
  | [], _, _ => List.nodup_nil
  | a :: r, h, hn => by
    obtain ⟨h1, h2⟩ := List.nodup_cons.mp hn
    refine List.nodup_cons.mpr ⟨fun m => ?_, nodup_map_on (fun x hx y hy => h x (List.mem_cons.mpr (.inr hx)) y (List.mem_cons.mpr (.inr hy))) h2⟩
    obtain ⟨y, hy, e⟩ := List.mem_map.mp m
    have := h y (List.mem_cons.mpr (.inr hy)) a (List.mem_cons.mpr (.inl rfl)) e
    exact h1 (this ▸ hy)
theorem called_lines {n : Nat} {ps : List (Nat × Nat)} {ns : List Nat} (L : Lines n ps) (c : Called n ns) : Lines n (ps.map (callL ns)) := by
  have hp := ends_map ns ps
  refine ⟨by rw [List.length_map]; exact L.len, hp.nodup_iff.mpr (nodup_map_on (fun x hx y hy e => c.inj (L.lt x hx) (L.lt y hy) e) L.nd), fun e he => ?_⟩
  obtain ⟨x, hx, rfl⟩ := List.mem_map.mp (hp.mem_iff.mp he)
  exact c.lt (L.lt x hx)
theorem called_whole {n : Nat} {ps : List (Nat × Nat)} {ns : List Nat} (hn : 0 < n) (L : Lines n ps) (w : Whole n ps) (c : Called n ns) : Whole n (ps.map (callL ns)) := by
  intro P hP h0 x hx
  have clo : ∀ p ∈ ps, P (ns.getD (4 * (p.1 / 4)) 0 / 4) ↔ P (ns.getD (4 * (p.2 / 4)) 0 / 4) := by
    intro p m
    have l1 := L.lt p.1 (mem_ends.mpr ⟨p, m, .inl rfl⟩)
    have l2 := L.lt p.2 (mem_ends.mpr ⟨p, m, .inr rfl⟩)
    rw [c.blk (4 * (p.1 / 4)) p.1 (by omega) l1 (by omega), c.blk (4 * (p.2 / 4)) p.2 (by omega) l2 (by omega)]
    have q := hP (callL ns p) (List.mem_map.mpr ⟨p, m, rfl⟩)
    unfold callL low at q
    split at q
    · exact q.symm
    · exact q
  obtain ⟨i, hi, ei⟩ := c.onto (x := 0) (by omega)
  obtain ⟨j, hj, ej⟩ := c.onto (x := 4 * x) (by omega)
  have start : P (ns.getD (4 * (i / 4)) 0 / 4) := by
    rw [c.blk (4 * (i / 4)) i (by omega) hi (by omega), ei]
    exact h0
  have all := w.from (P := fun k => P (ns.getD (4 * k) 0 / 4)) clo (a := i / 4) (by omega) start (c := j / 4) (by omega)
  have all : P (ns.getD (4 * (j / 4)) 0 / 4) := all
  rw [c.blk (4 * (j / 4)) j (by omega) hj (by omega), ej] at all
  rw [show 4 * x / 4 = x by omega] at all
  exact all
/-- pairs in order -/
def ltP (p q : Nat × Nat) : Prop := p.1 < q.1 ∨ (p.1 = q.1 ∧ p.2 < q.2)
def leP (p q : Nat × Nat) : Prop := p.1 < q.1 ∨ (p.1 = q.1 ∧ p.2 ≤ q.2)
/-- a yard of n crossings -/
structure Yard (n : Nat) (L : List (Nat × Nat)) : Prop where
  pos : 0 < n
  lines : Lines n L
  whole : Whole n L
  up : L.Pairwise ltP
  low : ∀ p ∈ L, p.1 < p.2
theorem nodup_firsts : ∀ {L : List (Nat × Nat)}, (ends L).Nodup → L.Pairwise fun p q => p.1 ≠ q.1 ∧ p.1 ≠ q.2 ∧ p.2 ≠ q.1 ∧ p.2 ≠ q.2
  | [], _ => .nil
  | p :: r, h => by
    have h : (p.1 :: p.2 :: ends r).Nodup := h
    obtain ⟨h1, h2⟩ := List.nodup_cons.mp h
    obtain ⟨h3, h4⟩ := List.nodup_cons.mp h2
    refine List.pairwise_cons.mpr ⟨fun q hq => ?_, nodup_firsts h4⟩
    have m1 : q.1 ∈ ends r := mem_ends.mpr ⟨q, hq, .inl rfl⟩
    have m2 : q.2 ∈ ends r := mem_ends.mpr ⟨q, hq, .inr rfl⟩
    exact ⟨fun e => h1 (List.mem_cons.mpr (.inr (e ▸ m1))), fun e => h1 (List.mem_cons.mpr (.inr (e ▸ m2))), fun e => h3 (e ▸ m1), fun e => h3 (e ▸ m2)⟩
theorem nodup_pair : ∀ {L : List (Nat × Nat)}, (ends L).Nodup → ∀ p ∈ L, p.1 ≠ p.2
  | p :: r, h, q, m => by
    have h : (p.1 :: p.2 :: ends r).Nodup := h
    obtain ⟨h1, h2⟩ := List.nodup_cons.mp h
    rcases List.mem_cons.mp m with e | m
    · subst e
      exact fun e => h1 (List.mem_cons.mpr (.inl e))
    · exact nodup_pair (List.nodup_cons.mp h2).2 q m
/-- lines with the lesser ends ahead, sorted, are a yard -/
theorem yard_of_sorted {n : Nat} {L M : List (Nat × Nat)} (hn : 0 < n) (hL : Lines n L) (w : Whole n L) (hl : ∀ p ∈ L, p.1 ≤ p.2) (hp : M.Perm L) (hs : M.Pairwise leP) : Yard n M := by
  have hM := hL.perm hp.symm
  refine ⟨hn, hM, w.perm hp.symm, ?_, fun p m => ?_⟩
  · refine (hs.and (nodup_firsts hM.nd)).imp ?_
    rintro p q ⟨h1, h2, _⟩
    rcases h1 with h1 | ⟨h1, _⟩
    · exact .inl h1
    · exact absurd h1 h2
  · have h1 := hl p (hp.mem_iff.mp m)
    have h2 := nodup_pair hM.nd p m
    omega
theorem low_le (x y : Nat) : (low x y).1 ≤ (low x y).2 := by
  unfold low
  split <;> simp <;> omega
theorem called_yard {n : Nat} {ps M : List (Nat × Nat)} {ns : List Nat} (g : Grown n ps) (c : Called n ns) (hp : M.Perm (ps.map (callL ns))) (hs : M.Pairwise leP) : Yard n M :=
  yard_of_sorted g.pos (called_lines g.lines c) (called_whole g.pos g.lines g.whole c) (fun p m => by
    obtain ⟨q, _, rfl⟩ := List.mem_map.mp m
    exact low_le _ _) hp hs
/-! ### the calling, block by block -/
def blocks : List (Nat × List Nat) → List Nat
  | [] => []
  | b :: r => b.2.map (fun p => 4 * b.1 + p) ++ blocks r
theorem blocks_snoc : ∀ (l : List (Nat × List Nat)) (b : Nat × List Nat), blocks (l ++ [b]) = blocks l ++ b.2.map (fun p => 4 * b.1 + p)
  | [], b => by simp [blocks]
  | a :: r, b => by simp [blocks, blocks_snoc r b]
theorem blocks_len : ∀ {l : List (Nat × List Nat)}, (∀ b ∈ l, b.2.length = 4) → (blocks l).length = 4 * l.length
  | [], _ => rfl
  | a :: r, h => by
    have h1 := h a (List.mem_cons.mpr (.inl rfl))
    have h2 := blocks_len (l := r) fun b hb => h b (List.mem_cons.mpr (.inr hb))
    simp [blocks, h1, h2]
    omega
theorem blocks_get : ∀ {l : List (Nat × List Nat)}, (∀ b ∈ l, b.2.Perm [0, 1, 2, 3]) → ∀ i, i < 4 * l.length → ∃ b ∈ l, l[i / 4]? = some b ∧ (blocks l).getD i 0 / 4 = b.1
  | [], _, i, hi => by simp at hi
  | a :: r, h, i, hi => by
    have ha := h a (List.mem_cons.mpr (.inl rfl))
    have hlen : (a.2.map (fun p => 4 * a.1 + p)).length = 4 := by rw [List.length_map, ha.length_eq]; rfl
    by_cases hi4 : i < 4
    · refine ⟨a, List.mem_cons.mpr (.inl rfl), by rw [show i / 4 = 0 by omega]; rfl, ?_⟩
      have hx : i < a.2.length := by rw [ha.length_eq]; exact hi4
      have hm := ha.mem_iff.mp (List.getElem_mem hx)
      have e : (blocks (a :: r)).getD i 0 = 4 * a.1 + a.2[i] := by
        show (a.2.map (fun p => 4 * a.1 + p) ++ blocks r).getD i 0 = _
        rw [List.getD_eq_getElem?_getD, List.getElem?_append_left (by rw [hlen]; exact hi4), List.getElem?_map, List.getElem?_eq_getElem hx]
        rfl
      rw [e]
      simp at hm
      omega
    · have hi' : i - 4 < 4 * r.length := by simp at hi; omega
      obtain ⟨b, hb, h1, h2⟩ := blocks_get (l := r) (fun b hb => h b (List.mem_cons.mpr (.inr hb))) (i - 4) hi'
      refine ⟨b, List.mem_cons.mpr (.inr hb), ?_, ?_⟩
      · rw [show i / 4 = (i - 4) / 4 + 1 by omega]
        exact h1
      · have e : (blocks (a :: r)).getD i 0 = (blocks r).getD (i - 4) 0 := by
          show (a.2.map (fun p => 4 * a.1 + p) ++ blocks r).getD i 0 = _
          rw [List.getD_eq_getElem?_getD, List.getElem?_append_right (by rw [hlen]; omega), hlen, List.getD_eq_getElem?_getD]
        rw [e]
        exact h2
theorem blocks_perm : ∀ {l m : List (Nat × List Nat)}, l.Perm m → (blocks l).Perm (blocks m) := fun h => by
  induction h with
  | nil => exact .refl _
  | cons x _ ih => exact List.Perm.append_left _ ih
  | swap x y l =>
    show (y.2.map (fun p => 4 * y.1 + p) ++ (x.2.map (fun p => 4 * x.1 + p) ++ blocks l)).Perm (x.2.map (fun p => 4 * x.1 + p) ++ (y.2.map (fun p => 4 * y.1 + p) ++ blocks l))
    rw [← List.append_assoc, ← List.append_assoc]
    exact List.Perm.append_right _ List.perm_append_comm
  | trans _ _ i j => exact i.trans j
theorem blocks_std : ∀ (l : List (Nat × List Nat)), (∀ b ∈ l, b.2.Perm [0, 1, 2, 3]) → (blocks l).Perm (blocks (l.map fun b => (b.1, [0, 1, 2, 3])))
  | [], _ => .refl _
  | a :: r, h => List.Perm.append (List.Perm.map _ (h a (List.mem_cons.mpr (.inl rfl)))) (blocks_std r fun b hb => h b (List.mem_cons.mpr (.inr hb)))
theorem blocks_range : ∀ n : Nat, blocks ((List.range n).map fun c => (c, [0, 1, 2, 3])) = List.range (4 * n)
  | 0 => rfl
  | n + 1 => by
    rw [List.range_succ, List.map_append, List.map_cons, List.map_nil, blocks_snoc, blocks_range n, show 4 * (n + 1) = 4 * n + 4 by omega]
    rw [show 4 * n + 4 = (4 * n + 3) + 1 by omega, List.range_succ, show 4 * n + 3 = (4 * n + 2) + 1 by omega, List.range_succ, show 4 * n + 2 = (4 * n + 1) + 1 by omega, List.range_succ, List.range_succ]
    simp
theorem called_of_blocks {n : Nat} {l : List (Nat × List Nat)} (hp : (l.map Prod.fst).Perm (List.range n)) (hb : ∀ b ∈ l, b.2.Perm [0, 1, 2, 3]) : Called n (blocks l) := by
  have hlen : l.length = n := by rw [← List.length_map (f := Prod.fst) (as := l), hp.length_eq, List.length_range]
  refine ⟨?_, fun i j hi hj e => ?_⟩
  · refine (blocks_std l hb).trans ?_
    rw [← blocks_range n]
    refine blocks_perm ?_
    rw [show (fun b : Nat × List Nat => (b.1, [0, 1, 2, 3])) = (fun c => (c, [0, 1, 2, 3])) ∘ Prod.fst from rfl, ← List.map_map]
    exact List.Perm.map _ hp
  · obtain ⟨b, _, h1, h2⟩ := blocks_get hb i (by rw [hlen]; exact hi)
    obtain ⟨d, _, h3, h4⟩ := blocks_get hb j (by rw [hlen]; exact hj)
    rw [e, h3] at h1
    cases h1
    rw [h2, h4]
end One
end P_M2

section P_N0
set_option linter.all false
set_option maxRecDepth 100000
set_option maxHeartbeats 4000000
namespace One
open PySem PySem.Spec PyProof.Rows L2
def top (i : Nat) : Stmt := PySem.Challenge.pw_oneround_k10_settings_looked_at.main.body.getD i (.Pass ⟨0, 0, 0, 0⟩)

/-! ### a list that is only read, with a list behind it -/
theorem add_read (l : Addr) (items : Array Value) (n : Nat) (sl : Array (Option Value)) (b : Addr) (items2 : Array Value) (n2 : Nat) (hc0 : items.size + items2.size ≤ sizeLine) :
    Meets (Builtin.«list.__add__» ⟨[.ref l, .ref b], []⟩) (fun _ R s => s.heap.get? l = some ⟨.type "list", none, .seq items n, sl⟩ ∧ s.heap.get? b = some ⟨.type "list", none, .seq items2 n2, #[]⟩ ∧
      R (.ok (.ret (Value.ref s.heap.objs.size))) { s with heap := s.heap.push { cls := Value.type "list", data := Data.seq (items ++ items2) }, toks := s.toks }) :=
  .of_wp fun prog w A R s h => by
    obtain ⟨hp, g, d, tk, os⟩ := s
    obtain ⟨hl, hb, h⟩ := h
    have f1 := PySem.AutoSeq1.idx_int
    have f3 := PySem.AutoSeq1.sub_list_list
    wp_walk using PySem.AutoSeq1.wpAny_loadPart' hl, PySem.AutoSeq1.wpAny_loadPart' hb
    exact ⟨_, rfl, h⟩
section
variable {X : Cx}
def rCatS (K : PySem.W.Frag) : R2 := fun x y H Q => ∃ l b xs zs, x = .ref l ∧ y = .ref b ∧ SqL K H l xs ∧ H b = some (.lst zs) ∧ xs.length + zs.length ≤ sizeLine ∧ ∀ p, H p = none → Q (.ref p) (upd H p (.lst (xs ++ zs)))
theorem op_catS : OpR X (binaryOp .Add) (rCatS X.K) := by
  intro pins s σ H x y v u Q I rx ry h
  obtain ⟨l, b, xs, zs, rfl, rfl, hS, hB, hz, q⟩ := h
  cases rx
  cases ry
  obtain ⟨its, r, ⟨⟨oc, od, oda, osl⟩, n, e, ec, ed, edd⟩, hl⟩ := I.list hS
  dsimp only at ec ed edd
  subst ec ed edd
  obtain ⟨z2, its2, n2, r2, hl2, e2⟩ := I.lstM hB
  have ha : s.TypeIs (.ref l) "list" := ⟨_, e, rfl⟩
  have hb : s.TypeIs (.ref b) "list" := ⟨_, e2, rfl⟩
  have hsz : its.toArray.size + its2.toArray.size ≤ sizeLine := by
    rw [List.size_toArray, List.size_toArray, ← r.length, ← r2.length]
    exact hz
  refine PySem.concat_meets ha hb PySem.noFill_list_add PySem.seq_list_add F.slot_list_add F.entry_list_add (F.args_list_add_2 _ _) (add_read l its.toArray n osl b its2.toArray n2 hsz) ⟨e, e2, ?_⟩
  have ea : its.toArray ++ its2.toArray = (its ++ its2).toArray := by simp
  rw [ea]
  exact ⟨.ref _, _, I.lnew (t' := s.toks) (r.append r2) (by rw [List.length_append]; exact hz), rfl, q _ I.fresh⟩
end
/-- all but p stands as it stood -/
def But (p : Addr) (H H' : Hp) : Prop := ∀ b, b ≠ p → H' b = H b
/-- all that stood but p stands as it stood -/
def Ext (p : Addr) (H H' : Hp) : Prop := ∀ b o, b ≠ p → H b = some o → H' b = some o
theorem But.ext {p : Addr} {H H' : Hp} (h : But p H H') : Ext p H H' := fun b o hb e => (h b hb).trans e
theorem But.trans {p : Addr} {H H1 H2 : Hp} (h : But p H H1) (k : But p H1 H2) : But p H H2 := fun b hb => (k b hb).trans (h b hb)
theorem Ext.refl (p : Addr) (H : Hp) : Ext p H H := fun _ _ _ e => e
theorem Ext.trans {p : Addr} {H H1 H2 : Hp} (h : Ext p H H1) (k : Ext p H1 H2) : Ext p H H2 := fun b o hb e => k b o hb (h b o hb e)
theorem Ext.same {p : Addr} {H H1 : Hp} (h : Same H H1) : Ext p H H1 := fun b o _ e => h b o e
theorem Ext.new {p q : Addr} {H : Hp} {o : HO} (h : H q = none) : Ext p H (upd H q o) := fun b u _ e => by
  rw [upd_ne (ne_of_none e h)]
  exact e
/-- the names that the program's top leaves to the built-ins -/
structure TB (mg : Str → Option Value) : Prop where
  len : mg "len" = none
  range : mg "range" = none
  tuple : mg "tuple" = none
  list : mg "list" = none
  sorted : mg "sorted" = none
  enumerate : mg "enumerate" = none
  isinstance : mg "isinstance" = none
  int : mg "int" = none
  bool : mg "bool" = none
  repr : mg "repr" = none
  all : mg "all" = none
theorem get_cell {cells : List Int} {i : Int} (h0 : 0 ≤ i) (h1 : i < (cells.length : Int)) : ∃ z, atI (cells.map V.int) i = some (V.int z) := by
  have hlt : i.toNat < cells.length := by omega
  refine ⟨cells[i.toNat], at_of (j := i.toNat) (by omega) ?_⟩
  rw [List.getElem?_map, List.getElem?_eq_getElem hlt]
  rfl
theorem But.upd {p : Addr} {H H' : Hp} {o : HO} (h : But p H H') : But p H (upd H' p o) := fun b hb => (upd_ne hb).trans (h b hb)
/-- a test, then what comes of it, with a word between them -/
def tMid (t : TT) : TT := fun σ H Q => ∃ M : Bool → Hp → Prop, t σ H M ∧ ∀ b H', M b H' → Q b H'
theorem pt_mid {X : Cx} {e : Expr} {t : TT} (h : PT X e t) : PT X e (tMid t) := ⟨fun pins s σ H Q I ⟨M, h1, h2⟩ =>
  thn (h.run pins s σ H M I h1) fun b s' ⟨H', I', q⟩ => ⟨H', I', h2 b H' q⟩⟩
/-- an expression, then what comes of it, with a word between them -/
def tMidE (t : TE) : TE := fun σ H Q => ∃ M : V → Hp → Prop, t σ H M ∧ ∀ v H', M v H' → Q v H'
theorem pe_mid {X : Cx} {e : Expr} {t : TE} (h : PE X e t) : PE X e (tMidE t) := ⟨fun pins s σ H Q I ⟨M, h1, h2⟩ =>
  thn (h.run pins s σ H M I h1) fun u s' ⟨v, H', I', r, q⟩ => ⟨v, H', I', r, h2 v H' q⟩⟩

/-- a def that is called by its name -/
structure Cal (K : PySem.W.Frag) (mg : Str → Option Value) (x : Str) (f : Addr) (fd : FuncData) (ps : List Str) : Prop where
  g : mg x = some (.ref f)
  kp : PySem.W.keepIn K (.ref f) = true
  b : Binds K fd ps []
/-- at a stands the pair p -/
def PAt (H : Hp) (a : Addr) (p : Nat × Nat) : Prop := H a = some (.tup [.int (p.1 : Nat), .int (p.2 : Nat)])
/-- at these addresses stand these pairs -/
inductive PL (H : Hp) : List Addr → List (Nat × Nat) → Prop
  | nil : PL H [] []
  | cons {a p as ps} : PAt H a p → PL H as ps → PL H (a :: as) (p :: ps)
theorem PL.len {H : Hp} {as : List Addr} {ps : List (Nat × Nat)} (h : PL H as ps) : as.length = ps.length := by
  induction h with
  | nil => rfl
  | cons _ _ ih => simp [ih]
theorem PL.get {H : Hp} {as : List Addr} {ps : List (Nat × Nat)} (h : PL H as ps) : ∀ {i : Nat} {p : Nat × Nat}, ps[i]? = some p → ∃ a, as[i]? = some a ∧ PAt H a p := by
  induction h with
  | nil => intro i p e; simp at e
  | cons h1 _ ih =>
    intro i p e
    cases i with
    | zero =>
      have e := Option.some.inj e
      subst e
      exact ⟨_, rfl, h1⟩
    | succ i => exact ih (i := i) (by simpa using e)
theorem PL.got {H : Hp} {as : List Addr} {ps : List (Nat × Nat)} (h : PL H as ps) : ∀ {i : Nat} {a : Addr}, as[i]? = some a → ∃ p, ps[i]? = some p ∧ PAt H a p := by
  induction h with
  | nil => intro i p e; simp at e
  | cons h1 _ ih =>
    intro i p e
    cases i with
    | zero =>
      have e := Option.some.inj e
      subst e
      exact ⟨_, rfl, h1⟩
    | succ i => exact ih (i := i) (by simpa using e)
theorem PL.app {H : Hp} {as bs : List Addr} {ps qs : List (Nat × Nat)} (h : PL H as ps) (k : PL H bs qs) : PL H (as ++ bs) (ps ++ qs) := by
  induction h with
  | nil => exact k
  | cons h1 _ ih => exact .cons h1 ih
theorem PL.mono {H H' : Hp} {as : List Addr} {ps : List (Nat × Nat)} (h : PL H as ps) (k : ∀ b xs, H b = some (.tup xs) → H' b = some (.tup xs)) : PL H' as ps := by
  induction h with
  | nil => exact .nil
  | cons h1 _ ih => exact .cons (k _ _ h1) ih
theorem PL.keep {H : Hp} {as : List Addr} {ps : List (Nat × Nat)} (h : PL H as ps) (f : Nat → Bool) : ∀ k, PL H (keepIx f k as) (keepIx f k ps) := by
  induction h with
  | nil => intro k; exact .nil
  | cons h1 _ ih =>
    intro k
    unfold keepIx
    split
    · exact .cons h1 (ih _)
    · exact ih _
theorem sameT {H H' : Hp} (e : Same H H') : ∀ b xs, H b = some (.tup xs) → H' b = some (.tup xs) := fun b xs h => e b _ h
theorem Same.new {H : Hp} {q : Addr} {o : HO} (h : H q = none) : Same H (upd H q o) := fun b u e => by
  rw [upd_ne (ne_of_none e h)]
  exact e
abbrev refs (as : List Addr) : List V := as.map V.ref
/-- a display of two pairs of written numbers -/
theorem rd_two {a b c d : Int} {σ : L2.St} {H : Hp} {Q : VK} (h : ∀ (H' : Hp) (l t1 t2 : Addr), Same H H' → H' l = some (.lst [.ref t1, .ref t2]) → H' t1 = some (.tup [.int a, .int b]) → H' t2 = some (.tup [.int c, .int d]) → Q (.ref l) H') :
    tLst (tCons (tTup (tCons (tC (.int a)) (tCons (tC (.int b)) tNil))) (tCons (tTup (tCons (tC (.int c)) (tCons (tC (.int d)) tNil))) tNil)) σ H Q := by
  refine ⟨by show 2 ≤ sizeLine; decide, fun t1 h1 => ⟨by show 2 ≤ sizeLine; decide, fun t2 h2 => ⟨by show 2 ≤ sizeLine; decide, fun l hl => ?_⟩⟩⟩
  have s1 := Same.new (o := .tup [.int a, .int b]) h1
  have s2 := Same.new (o := .tup [.int c, .int d]) h2
  have s3 := Same.new (o := .lst [.ref t1, .ref t2]) hl
  exact h _ l t1 t2 (s1.trans (s2.trans s3)) upd_same (s3 _ _ (s2 _ _ upd_same)) (s3 _ _ upd_same)
/-- where the dict of the draws stands -/
def DictAt (H : Hp) (p : Addr) : Prop := ∃ kvs, H p = some (.dK kvs)
theorem tupD {p : Addr} {H H' : Hp} (hd : DictAt H p) (e : Ext p H H') : ∀ b xs, H b = some (.tup xs) → H' b = some (.tup xs) := fun b xs h => by
  obtain ⟨kvs, h1⟩ := hd
  exact e b _ (ne_of h h1 (by intro z; cases z)) h
theorem DictAt.neL {p L : Addr} {H : Hp} {xs : List V} (hd : DictAt H p) (h : H L = some (.lst xs)) : L ≠ p := fun z => by
  obtain ⟨kvs, h1⟩ := hd
  rw [z, h1] at h
  cases h
theorem two_le : 2 ≤ sizeLine := by decide
/-- two tuples and a list of both, made one behind another -/
theorem made_two {H : Hp} {t1 t2 l : Addr} {x y : List V} {zs : List V} (h1 : H t1 = none) (h2 : upd H t1 (.tup x) t2 = none) (h3 : upd (upd H t1 (.tup x)) t2 (.tup y) l = none) :
    ∃ H', H' = upd (upd (upd H t1 (.tup x)) t2 (.tup y)) l (.lst zs) ∧ Same H H' ∧ H' l = some (.lst zs) ∧ H' t1 = some (.tup x) ∧ H' t2 = some (.tup y) := by
  have s1 := Same.new (o := .tup x) h1
  have s2 := Same.new (o := .tup y) h2
  have s3 := Same.new (o := .lst zs) h3
  exact ⟨_, rfl, s1.trans (s2.trans s3), upd_same, s3 _ _ (s2 _ _ upd_same), s3 _ _ upd_same⟩
theorem PAt.of {H : Hp} {t : Addr} {x y : Int} {a b : Nat} (h : H t = some (.tup [.int x, .int y])) (hx : x = (a : Nat)) (hy : y = (b : Nat)) : PAt H t (a, b) := by
  subst hx hy
  exact h
theorem refs_app (a b : List Addr) : refs (a ++ b) = refs a ++ refs b := List.map_append
theorem in_two (j j1 j2 : Nat) : (!inV (V.int (j : Nat)) [V.int (j1 : Nat), V.int (j2 : Nat)]) = notIJ j1 j2 j := by
  unfold inV notIJ
  simp only [List.any_cons, List.any_nil, Bool.or_false]
  have e : ∀ k : Nat, eqV (V.int (k : Nat)) (V.int (j : Nat)) = decide (j = k) := by
    intro k
    show ((k : Int) == (j : Int)) = decide (j = k)
    by_cases q : j = k
    · subst q
      simp
    · have q' : ¬ (k : Int) = (j : Int) := by omega
      simp [q, q']
  rw [e, e, Bool.not_or]
theorem ref_at {as : List Addr} {i : Nat} {a : Addr} (h : as[i]? = some a) : atI (refs as) (i : Nat) = some (.ref a) := at_of (j := i) rfl (by rw [List.getElem?_map, h]; rfl)
abbrev nats (ns : List Nat) : List V := ns.map fun x => V.int (x : Nat)
theorem nats_app (a b : List Nat) : nats (a ++ b) = nats a ++ nats b := List.map_append
theorem nats_at {ns : List Nat} {i x : Nat} (h : ns[i]? = some x) : (nats ns)[i]? = some (V.int (x : Nat)) := by rw [List.getElem?_map, h]; rfl
theorem nats_erase : ∀ (ns : List Nat) (k : Nat), (nats ns).eraseIdx k = nats (ns.eraseIdx k)
  | [], _ => rfl
  | x :: r, 0 => rfl
  | x :: r, k + 1 => by
    show V.int (x : Nat) :: (nats r).eraseIdx k = V.int (x : Nat) :: nats (r.eraseIdx k)
    rw [nats_erase r k]
theorem nats_range (n : Nat) : rgV 0 (n : Nat) = nats (List.range n) := by
  unfold rgV
  have e : (((n : Nat) : Int) - 0).toNat = n := by omega
  rw [e]
  refine List.map_congr_left fun x _ => ?_
  rw [Int.zero_add]
theorem seq_ix {j n : Nat} (h : j < n) : seqIndex? ((j : Nat) : Int) n = some j := by
  unfold seqIndex?
  simp
  omega
theorem erase_perm : ∀ {l : List Nat} {k x : Nat}, l[k]? = some x → l.Perm (x :: l.eraseIdx k)
  | [], k, x, h => by simp at h
  | y :: r, 0, x, h => by
    have e : y = x := Option.some.inj h
    subst e
    exact .refl _
  | y :: r, k + 1, x, h => (List.Perm.cons y (erase_perm (l := r) (k := k) (by simpa using h))).trans (.swap _ _ _)
theorem Ext.wr {p q : Addr} {H H' : Hp} {o : HO} (e : Ext p H H') (h : H q = none) : Ext p H (upd H' q o) := fun b u hb hu => by
  rw [upd_ne (ne_of_none hu h)]
  exact e b u hb hu
theorem Ext.free {p q : Addr} {H H' : Hp} (e : Ext p H H') (hq : q ≠ p) (h : H' q = none) : H q = none := by
  cases z : H q with
  | none => rfl
  | some o =>
    rw [e q o hq z] at h
    cases h
theorem yes {σ : L2.St} {H : Hp} {A B : Hp → Prop} (h : A H) : tYes σ H (fun b H3 => if b = true then A H3 else B H3) := by
  show if true = true then A H else B H
  rw [if_pos rfl]
  exact h
def rLen (K : PySem.W.Frag) : List V → Hp → VK → Prop := fun xs H Q => ∃ p ys, xs = [.ref p] ∧ (SqL K H p ys ∨ SqT K H p ys) ∧ Q (.int ys.length) H

/-! ### sorting pairs -/
/-- the pair that stands at an address -/
def keyN (H : Hp) (a : Addr) : Nat × Nat := match H a with
  | some (.tup [.int i, .int j]) => (i.toNat, j.toNat)
  | _ => (0, 0)
theorem keyN_of {H : Hp} {a : Addr} {p : Nat × Nat} (h : PAt H a p) : keyN H a = p := by
  unfold keyN
  rw [show H a = some (.tup [.int (p.1 : Nat), .int (p.2 : Nat)]) from h]
  rfl
theorem PL.keys {H : Hp} {as : List Addr} {ps : List (Nat × Nat)} (h : PL H as ps) : ps = as.map (keyN H) ∧ ∀ a ∈ as, PAt H a (keyN H a) := by
  induction h with
  | nil => exact ⟨rfl, fun a m => absurd m (by simp)⟩
  | cons h1 _ ih =>
    rw [List.map_cons, keyN_of h1]
    refine ⟨by rw [← ih.1], fun a m => ?_⟩
    rcases List.mem_cons.mp m with e | m
    · subst e
      rw [keyN_of h1]
      exact h1
    · exact ih.2 a m
theorem PL.of_keys {H : Hp} : ∀ {as : List Addr}, (∀ a ∈ as, PAt H a (keyN H a)) → PL H as (as.map (keyN H))
  | [], _ => .nil
  | a :: r, h => .cons (h a (List.mem_cons.mpr (.inl rfl))) (PL.of_keys fun b hb => h b (List.mem_cons.mpr (.inr hb)))
def backA : V → Addr
  | .ref a => a
  | _ => 0
theorem refs_of : ∀ {ys : List V}, (∀ y ∈ ys, ∃ a, y = V.ref a) → ys = refs (ys.map backA)
  | [], _ => rfl
  | y :: r, h => by
    obtain ⟨a, rfl⟩ := h y (List.mem_cons.mpr (.inl rfl))
    show V.ref a :: r = V.ref a :: refs (r.map backA)
    rw [← refs_of fun z hz => h z (List.mem_cons.mpr (.inr hz))]
theorem back_refs (as : List Addr) : (refs as).map backA = as := by
  rw [refs, List.map_map]
  exact List.map_id' as
/-- sorted(xs), xs a list of pairs -/
theorem rd_sorted {K : PySem.W.Frag} {H : Hp} {Q : VK} {a : Addr} {as : List Addr} {ps : List (Nat × Nat)} (hs : SqL K H a (refs as)) (hP : PL H as ps)
    (h : ∀ (bs : List Addr) (qs : List (Nat × Nat)) (p : Addr), PL H bs qs → qs.Perm ps → qs.Pairwise leP → H p = none → Q (.ref p) (upd H p (.lst (refs bs)))) : rSortedPO K [.ref a] H Q := by
  obtain ⟨e1, e2⟩ := hP.keys
  refine ⟨a, refs as, fun v => (((keyN H (backA v)).1 : Nat), ((keyN H (backA v)).2 : Nat)), rfl, hs, fun x hx => ?_, fun ys p h1 h2 hp => ?_⟩
  · obtain ⟨b, hb, rfl⟩ := List.mem_map.mp hx
    exact ⟨b, rfl, e2 b hb⟩
  · have hy : ys = refs (ys.map backA) := refs_of fun y m => by
      obtain ⟨b, _, e⟩ := List.mem_map.mp (h2.perm.mem_iff.mp m)
      exact ⟨b, e.symm⟩
    have hb : (ys.map backA).Perm as := by
      have := h2.perm.map backA
      rwa [back_refs] at this
    rw [hy]
    refine h (ys.map backA) ((ys.map backA).map (keyN H)) p (PL.of_keys fun b m => e2 b (hb.mem_iff.mp m)) (by rw [e1]; exact hb.map _) ?_ hp
    rw [List.map_map, List.pairwise_map]
    refine List.Pairwise.imp ?_ h1
    intro x y hxy
    have q := SrtO.lexB_no.mp hxy
    show leP (keyN H (backA x)) (keyN H (backA y))
    unfold leP
    simp only at q
    omega
/-- sorted([x, y]) -/
theorem low_of {x y : Nat} {ns : List Int} (hp : ns.Perm [((x : Nat) : Int), ((y : Nat) : Int)]) (hs : ns.Pairwise (· ≤ ·)) : ns = [(((low x y).1 : Nat) : Int), (((low x y).2 : Nat) : Int)] := by
  have hl := hp.length_eq
  match ns, hl with
  | [a, b], _ =>
    have hab : a ≤ b := by
      have := (List.pairwise_cons.mp hs).1 b (by simp)
      exact this
    have ha := hp.mem_iff (a := a)
    have hb := hp.mem_iff (a := b)
    have c1 := hp.count_eq a
    have c2 := hp.count_eq b
    simp only [List.mem_cons, List.not_mem_nil, or_false, true_or, or_true, true_iff] at ha hb
    unfold low
    rcases ha with rfl | rfl <;> rcases hb with rfl | rfl
    · simp only [List.count_cons, List.count_nil, beq_self_eq_true, if_true] at c1
      by_cases q : ((y : Int) == (x : Int)) = true
      · have : y = x := by
          have z : (y : Int) = (x : Int) := by simpa using q
          omega
        subst this
        split <;> rfl
      · rw [if_neg q] at c1
        omega
    · rw [if_neg (by omega)]
    · by_cases q : y < x
      · rw [if_pos q]
      · have : x = y := by omega
        subst this
        rw [if_neg q]
    · simp only [List.count_cons, List.count_nil, beq_self_eq_true, if_true] at c1
      by_cases q : ((x : Int) == (y : Int)) = true
      · have : x = y := by
          have z : (x : Int) = (y : Int) := by simpa using q
          omega
        subst this
        split <;> rfl
      · rw [if_neg q] at c1
        omega
/-- at t stands a yard of n crossings, a tuple of these pairs -/
def YAt (H : Hp) (t : Addr) (n : Nat) (ps : List (Nat × Nat)) : Prop := Yard n ps ∧ ∃ as : List Addr, H t = some (.tup (refs as)) ∧ PL H as ps
theorem YAt.mono {H H' : Hp} {t : Addr} {n : Nat} {ps : List (Nat × Nat)} (h : YAt H t n ps) (k : ∀ b xs, H b = some (.tup xs) → H' b = some (.tup xs)) : YAt H' t n ps := by
  obtain ⟨y, as, h1, h2⟩ := h
  exact ⟨y, as, k _ _ h1, h2.mono k⟩

end One
end P_N0

section P_E1
set_option linter.all false
set_option maxRecDepth 100000
set_option maxHeartbeats 4000000
/-! Ranges with a step as values; what kind a value is. -/
namespace One
open PySem PySem.Spec PyProof.Rows L2
def RngO (a : Addr) (lo hi c : Int) : HO := .ext fun h => ∃ t u v, h.get? a = some { cls := .type "range", data := .fields #[.int lo t, .int hi u, .int c v] }
theorem rng_has (r : Addr) (a b c i : Int) (t u v k : Tok) :
    Meets (Builtin.«range.__contains__» ⟨[.ref r, .int i k], []⟩) (fun _ R s => s.heap.get? r = some ⟨.type "range", none, .fields #[.int a t, .int b u, .int c v], #[]⟩ ∧ R (.ok (.ret (.bool (Builtin.Range.rangePlace? a b c i).isSome))) s) :=
  .of_wp fun prog w A R s h => by
    obtain ⟨hp, g, d, tk, os⟩ := s
    obtain ⟨hl, h⟩ := h
    wp_walk
    exact ⟨_, rfl, h⟩
section
variable {X : Cx}
theorem op_in_rngC : OpR X (compareOp .In) (fun x y H Q => ∃ i a lo hi c, x = V.int i ∧ y = V.ref a ∧ H a = some (RngO a lo hi c) ∧ Q (.bl (Builtin.Range.rangePlace? lo hi c i).isSome) H) := by
  intro pins s σ H x y v u Q I rx ry h
  obtain ⟨i, a, lo, hi, c, rfl, rfl, ha, q⟩ := h
  obtain ⟨k, rfl⟩ := rx
  obtain rfl : u = Value.ref a := ry
  obtain ⟨⟨t1, t2, t3, ho⟩, _, _⟩ := I.hok a _ ha
  refine (show wpAny _ _ (do return Value.bool (← contains (Value.ref a) (Value.int i k))) _ _ s from ?_)
  exact wpAny_bind (wpAny_contains_slot (T := "range") ⟨_, ho, rfl⟩ F.slot_range_contains (call_meets F.slot_range_contains ⟨_, ho, rfl⟩ F.entry_range_contains (F.args_range_contains_2 _ _) (rng_has a lo hi c i t1 t2 t3 k)
    ⟨ho, wpAny_truthy_bool (wpAny_pure ⟨.bl _, H, I, rfl, q⟩)⟩))
theorem cr_range3 : CallR X (.type "range") (fun vs H Q => ∃ i j c, vs = [V.int i, V.int j, V.int c] ∧ (c ≠ 0 ∧ c.natAbs < 1073741824) ∧ ∀ p, H p = none → Q (.ref p) (upd H p (RngO p i j c))) := by
  intro pins s σ H vs us Q I r h
  obtain ⟨i, j, c, rfl, hc, q⟩ := h
  obtain ⟨u1, u2, u3, rfl, ri, rj, rc⟩ : ∃ u1 u2 u3, us = [u1, u2, u3] ∧ RelV (V.int i) u1 ∧ RelV (V.int j) u2 ∧ RelV (V.int c) u3 := by
    cases r with
    | cons p q =>
      cases q with
      | cons p' q' =>
        cases q' with
        | cons p'' q'' =>
          cases q''
          exact ⟨_, _, _, rfl, p, p', p''⟩
  obtain ⟨t, rfl⟩ := ri
  obtain ⟨t2, rfl⟩ := rj
  obtain ⟨t3, rfl⟩ := rc
  have hget : (s.heap.push { cls := .type "range", data := .fields #[.int i t, .int j t2, .int c t3] }).get? s.heap.objs.size = some { cls := .type "range", data := .fields #[.int i t, .int j t2, .int c t3] } := Heap.get?_push_size _ rfl
  refine call_range_3 hc.1 ?_ (.inl (PyProof.noPylong_small hc.2))
  exact ⟨.ref s.heap.objs.size, upd H s.heap.objs.size (RngO s.heap.objs.size i j c), I.laid (t' := s.toks) (fun b o e => Heap.get?_push_of_some _ e) (Nat.le_refl _) ⟨⟨t, t2, t3, hget⟩, ⟨_, hget⟩, fun h1 h2 ⟨a, b, d, e⟩ st => ⟨a, b, d, st _ e⟩⟩, rfl, q _ (I.hok.fresh (Nat.le_refl _))⟩
end
end One
end P_E1

section P_E2
set_option linter.all false
set_option maxRecDepth 100000
set_option maxHeartbeats 4000000
namespace One
open PySem PySem.Spec PyProof.Rows L2
/-! ### what kind a value is -/
inductive TV (H : Hp) : V → String → Prop
  | non : TV H .non "NoneType"
  | bl (b : Bool) : TV H (.bl b) "bool"
  | int (i : Int) : TV H (.int i) "int"
  | str (x : Str) : TV H (.str x) "str"
  | tup {a : Addr} {xs : List V} (e : H a = some (.tup xs)) : TV H (.ref a) "tuple"
  | lst {a : Addr} {xs : List V} (e : H a = some (.lst xs)) : TV H (.ref a) "list"
  | dct {a : Addr} {kvs : List (Key × V)} (e : H a = some (.dK kvs)) : TV H (.ref a) "dict"
theorem TV.tyx {K : PySem.W.Frag} {H : Hp} {v : V} {T : String} (h : TV H v T) : TyX K H v (.type T) := by
  cases h with
  | non => exact .base .non
  | bl b => exact .base (.bl b)
  | int i => exact .base (.int i)
  | str x => exact .base (.str x)
  | tup e => exact .base (.tup e)
  | lst e => exact .base (.lst e)
  | dct e => exact .base (.dK e)
def isI : V → Bool
  | .int _ => true
  | _ => false
def belowV (v : V) (n : Int) : Bool := match v with
  | .int i => decide (0 ≤ i) && decide (i < n)
  | _ => false
theorem nof {p : Prop} (z : false = true) : p := by cases z
theorem noT {p : Prop} (z : true = false) : p := by cases z
theorem TV.kInt {K : PySem.W.Frag} {H : Hp} {v : V} {T : String} (h : TV H v T) : ∃ b, PySem.W.kitOne K (.type T) (.type "int") = some b ∧ (b = true → ∃ b2, PySem.W.kitOne K (.type T) (.type "bool") = some b2 ∧ isI v = !b2) ∧ (b = false → isI v = false) := by
  cases h with
  | non => exact ⟨false, kit_ty (by decide +kernel), nof, fun _ => rfl⟩
  | bl b => exact ⟨true, kit_ty (by decide +kernel), fun _ => ⟨true, kit_ty (by decide +kernel), rfl⟩, noT⟩
  | int i => exact ⟨true, kit_ty (by decide +kernel), fun _ => ⟨false, kit_ty (by decide +kernel), rfl⟩, noT⟩
  | str x => exact ⟨false, kit_ty (by decide +kernel), nof, fun _ => rfl⟩
  | tup e => exact ⟨false, kit_ty (by decide +kernel), nof, fun _ => rfl⟩
  | lst e => exact ⟨false, kit_ty (by decide +kernel), nof, fun _ => rfl⟩
  | dct e => exact ⟨false, kit_ty (by decide +kernel), nof, fun _ => rfl⟩
def isTup (T : String) : Bool := T == "tuple"
theorem TV.kTup {K : PySem.W.Frag} {H : Hp} {v : V} {T : String} (h : TV H v T) : PySem.W.kitOne K (.type T) (.type "tuple") = some (isTup T) := by
  cases h <;> exact kit_ty (by decide +kernel)
/-- the constants of the program's top -/
structure TC (mg : Str → Option Value) : Prop where
  most : ∃ t, mg "MOST_CROSSINGS" = some (.int 40 t)
  places : ∃ t, mg "PLACES" = some (.int 4 t)
abbrev sIsNum : Stmt := top 22
abbrev sIsBelow : Stmt := top 23
abbrev sCanBe : Stmt := top 32
abbrev sIsLine : Stmt := top 33
theorem scIsNum : FnScope ["thing"] ["thing"] (defScope sIsNum) := ⟨rfl, rfl, rfl, by decide +kernel, rfl, by decide +kernel, by decide +kernel⟩
theorem scIsBelow : FnScope ["thing", "many"] ["thing", "many"] (defScope sIsBelow) := ⟨rfl, rfl, rfl, by decide +kernel, rfl, by decide +kernel, by decide +kernel⟩
theorem scCanBe : FnScope ["many"] ["many"] (defScope sCanBe) := ⟨rfl, rfl, rfl, by decide +kernel, rfl, by decide +kernel, by decide +kernel⟩
theorem scIsLine : FnScope ["thing", "many_ends", "low", "high"] ["thing", "many_ends"] (defScope sIsLine) := ⟨rfl, rfl, rfl, by decide +kernel, rfl, by decide +kernel, by decide +kernel⟩
def spIsNum : Sp := fun vs H Q _ => ∃ (v : V) (T : String), vs = [v] ∧ TV H v T ∧ Q (.bl (isI v)) H
def spIsBelow : Sp := fun vs H Q _ => ∃ (v : V) (n : Int) (T : String), vs = [v, .int n] ∧ TV H v T ∧ Q (.bl (belowV v n)) H
/-- as many lines as a yard may have -/
def canBe (n : Int) : Bool := decide (2 ≤ n) && decide (n ≤ 80) && decide (n % 2 = 0)
def spCanBe : Sp := fun vs H Q _ => ∃ n : Int, vs = [.int n] ∧ ∀ H', Same H H' → Q (.bl (canBe n)) H'
section
variable {P : Program} {w : World} {K : PySem.W.Frag} {mg : Str → Option Value} {base : Heap}
theorem ok_isnum {f : Addr} {fd : FuncData} (F : Fun K "is_number" "is_number" sIsNum f fd) (T : TB mg) : FnOk P w K mg base CX0 1 f fd ["thing"] spIsNum := by
  refine F.ok scIsNum (fun vs H Q E h => ?_) (fun cdv A outer s H vs Q E hr h => ?_)
  · obtain ⟨v, _, rfl, _⟩ := h
    rfl
  · obtain ⟨v, ty, rfl, hv, k⟩ := h
    refine ⟨_, pss_one (ps_ret (pe_and (pe_callB call_isi (by rfl) T.isinstance boot_isinstance (pa_cons (pv 0) (pa_cons (pe_bltn (v := .ty "int") (by rfl) T.int PyProof.Rows.boot_int rfl) pa_nil)))
      (pe_one (pe_not (pe_callB call_isi (by rfl) T.isinstance boot_isinstance (pa_cons (pv 0) (pa_cons (pe_bltn (v := .ty "bool") (by rfl) T.bool (by decide +kernel) rfl) pa_nil))))))), ?_⟩
    obtain ⟨b, kb, h1, h2⟩ := hv.kInt (K := K)
    refine ⟨_, rfl, v, _, _, _, b, rfl, .ty _, hv.tyx, kb, b, rfl, ?_⟩
    cases b with
    | true =>
      obtain ⟨b2, kb2, e⟩ := h1 rfl
      refine iteT ⟨_, rfl, v, _, _, _, b2, rfl, .ty _, hv.tyx, kb2, b2, rfl, ?_⟩
      rw [← e]
      exact k
    | false =>
      refine iteF ?_
      rw [h2 rfl] at k
      exact k
theorem ok_isbelow {f fN : Addr} {fd fdN : FuncData} (F : Fun K "is_below" "is_below" sIsBelow f fd) (N : Cal K mg "is_number" fN fdN ["thing"]) (GN : FnOk P w K mg base CX0 1 fN fdN ["thing"] spIsNum) : FnOk P w K mg base CX0 2 f fd ["thing", "many"] spIsBelow := by
  refine F.ok scIsBelow (fun vs H Q E h => ?_) (fun cdv A outer s H vs Q E hr h => ?_)
  · obtain ⟨v, n, _, rfl, _⟩ := h
    rfl
  · obtain ⟨v, n, ty, rfl, hv, k⟩ := h
    refine ⟨_, pss_one (ps_ret (pe_and (pe_call GN hr rfl N.g N.kp N.b .nil pass0 (pa_cons (pv 0) pa_nil)) (pe_one (pe_chain op_le op_lt pe_int (pv 0) (pv 1))))), ?_⟩
    refine ⟨_, rfl, v, ty, rfl, hv, _, rfl, ?_⟩
    cases v with
    | int i =>
      refine iteT ⟨_, rfl, _, _, rfl, rfl, _, rfl, ?_⟩
      by_cases h0 : 0 ≤ i
      · rw [if_pos (decide_eq_true h0)]
        refine ⟨_, rfl, _, _, rfl, rfl, ?_⟩
        have e : belowV (.int i) n = decide (i < n) := by
          show (decide (0 ≤ i) && decide (i < n)) = _
          rw [decide_eq_true h0, Bool.true_and]
        rw [e] at k
        exact k
      · rw [if_neg (by rw [decide_eq_false h0]; decide)]
        have e : belowV (.int i) n = false := by
          show (decide (0 ≤ i) && decide (i < n)) = _
          rw [decide_eq_false h0, Bool.false_and]
        rw [e] at k
        exact k
    | _ => exact iteF k
theorem ok_canbe {f : Addr} {fd : FuncData} (F : Fun K "can_be_many_lines" "can_be_many_lines" sCanBe f fd) (T : TB mg) (C : TC mg) : FnOk P w K mg base CX0 1 f fd ["many"] spCanBe := by
  refine F.ok scCanBe (fun vs H Q E h => ?_) (fun cdv A outer s H vs Q E hr h => ?_)
  · obtain ⟨n, rfl, _⟩ := h
    rfl
  · obtain ⟨n, rfl, k⟩ := h
    obtain ⟨t, ht⟩ := C.most
    refine ⟨_, pss_one (ps_ret (pe_cmpR op_in_rngC (pv 0) (pe_callTy cr_range3 (by rfl) T.range boot_range (pa_cons pe_int (pa_cons (pe_op op_add (pe_op op_mul pe_int (pe_glob (v := .int 40) rfl ht ⟨_, rfl⟩)) pe_int) (pa_cons pe_int pa_nil)))) (by rfl))), ?_⟩
    refine ⟨_, rfl, _, _, rfl, rfl, .inl ⟨by decide, by decide⟩, _, _, rfl, rfl, _, _, _, rfl, ⟨by decide, by decide⟩, fun p hp => ?_⟩
    refine ⟨n, p, _, _, _, rfl, rfl, upd_same, ?_⟩
    have e : (Builtin.Range.rangePlace? 2 (2 * 40 + 1) 2 n).isSome = canBe n := by
      unfold Builtin.Range.rangePlace? canBe
      rw [Bool.eq_iff_iff]
      simp only [show (2 : Int) > 0 from by decide, if_true, Bool.and_eq_true, decide_eq_true_eq, beq_iff_eq]
      constructor
      · intro q
        split at q
        · omega
        · cases q
      · intro q
        rw [if_pos (by omega)]
        rfl
    show Q (.bl (Builtin.Range.rangePlace? 2 (2 * 40 + 1) 2 n).isSome) _
    rw [e]
    exact k _ (Same.new hp)
end
end One
end P_E2

section P_M3
set_option linter.all false
namespace One
/-! ### going to all that is beside -/
def R (r : List Bool) (i : Nat) : Prop := r[i]? = some true
structure Dfs (s n : Nat) (f : Nat → List Nat) (r : List Bool) (w : List Nat) (cur : Nat → Prop) : Prop where
  len : r.length = n
  z : R r s
  wt : ∀ i ∈ w, R r i
  cl : ∀ i, R r i → i ∈ w ∨ cur i ∨ ∀ j ∈ f i, R r j
  so : ∀ P : Nat → Prop, (∀ i j, j ∈ f i → P i → P j) → P s → ∀ i, R r i → P i
theorem R_set {r : List Bool} {i j : Nat} (h : R r i) : R (r.set j true) i := by
  unfold R at *
  by_cases e : j = i
  · subst e
    have : j < r.length := (List.getElem?_eq_some_iff.mp h).1
    rw [List.getElem?_set_self this]
  · rw [List.getElem?_set_ne e]
    exact h
theorem R_new {r : List Bool} {j : Nat} (h : j < r.length) : R (r.set j true) j := by
  unfold R
  rw [List.getElem?_set_self h]
theorem R_back {r : List Bool} {i j : Nat} (h : R (r.set j true) i) : i = j ∨ R r i := by
  unfold R at *
  by_cases e : j = i
  · exact .inl e.symm
  · rw [List.getElem?_set_ne e] at h
    exact .inr h
theorem dfs_start {s n : Nat} (f : Nat → List Nat) (hn : s < n) : Dfs s n f ((List.replicate n false).set s true) [s] (fun _ => False) := by
  have h0 : s < (List.replicate n false).length := by rw [List.length_replicate]; exact hn
  have back : ∀ i, R ((List.replicate n false).set s true) i → i = s := fun i h => by
    rcases R_back h with e | e
    · exact e
    · unfold R at e
      have hi := (List.getElem?_eq_some_iff.mp e).2
      simp at hi
  refine ⟨by simp, R_new h0, fun i hi => ?_, fun i hi => .inl ?_, fun P _ h i hi => ?_⟩
  · rw [List.mem_singleton.mp hi]
    exact R_new h0
  · rw [back i hi]
    exact List.mem_singleton.mpr rfl
  · rw [back i hi]
    exact h
theorem dfs_pop {s n c : Nat} {f : Nat → List Nat} {r : List Bool} {w : List Nat} (d : Dfs s n f r (w ++ [c]) fun _ => False) : Dfs s n f r w (· = c) := by
  refine ⟨d.len, d.z, fun i hi => d.wt i (List.mem_append.mpr (.inl hi)), fun i hi => ?_, d.so⟩
  rcases d.cl i hi with h | h | h
  · rcases List.mem_append.mp h with h | h
    · exact .inl h
    · exact .inr (.inl (List.mem_singleton.mp h))
  · exact h.elim
  · exact .inr (.inr h)
theorem dfs_mark {s n c j : Nat} {f : Nat → List Nat} {r : List Bool} {w : List Nat} (d : Dfs s n f r w (· = c)) (hc : R r c) (hj : j ∈ f c) (hlt : j < n) : Dfs s n f (r.set j true) (w ++ [j]) (· = c) := by
  have hjl : j < r.length := by rw [d.len]; exact hlt
  refine ⟨by rw [List.length_set]; exact d.len, R_set d.z, fun i hi => ?_, fun i hi => ?_, fun P hP h0 i hi => ?_⟩
  · rcases List.mem_append.mp hi with h | h
    · exact R_set (d.wt i h)
    · rw [List.mem_singleton.mp h]
      exact R_new hjl
  · rcases R_back hi with e | h
    · exact .inl (List.mem_append.mpr (.inr (List.mem_singleton.mpr e)))
    · rcases d.cl i h with q | q | q
      · exact .inl (List.mem_append.mpr (.inl q))
      · exact .inr (.inl q)
      · exact .inr (.inr fun k hk => R_set (q k hk))
  · rcases R_back hi with e | h
    · rw [e]
      exact hP c j hj (d.so P hP h0 c hc)
    · exact d.so P hP h0 i h
theorem dfs_finish {s n c : Nat} {f : Nat → List Nat} {r : List Bool} {w : List Nat} (d : Dfs s n f r w (· = c)) (h : ∀ j ∈ f c, R r j) : Dfs s n f r w fun _ => False := by
  refine ⟨d.len, d.z, d.wt, fun i hi => ?_, d.so⟩
  rcases d.cl i hi with q | q | q
  · exact .inl q
  · subst q
    exact .inr (.inr h)
  · exact .inr (.inr q)
theorem count_set {r : List Bool} {j : Nat} (h : r[j]? = some false) : (r.set j true).count false + 1 = r.count false := by
  induction r generalizing j with
  | nil => simp at h
  | cons a r ih =>
    cases j with
    | zero =>
      have e : a = false := Option.some.inj h
      subst e
      simp
    | succ j =>
      have := ih (j := j) (by simpa using h)
      show ((a :: r.set j true).count false) + 1 = (a :: r).count false
      rw [List.count_cons, List.count_cons]
      omega
/-- what is beside each crossing by these lines -/
def Beside (ps : List (Nat × Nat)) (f : Nat → List Nat) : Prop := ∀ i j, j ∈ f i ↔ ∃ p ∈ ps, (p.1 / 4 = i ∧ p.2 / 4 = j) ∨ (p.2 / 4 = i ∧ p.1 / 4 = j)
theorem dfs_whole {n : Nat} {ps : List (Nat × Nat)} {f : Nat → List Nat} {r : List Bool} (hb : Beside ps f) (d : Dfs 0 n f r [] fun _ => False) : r.all id = true ↔ Whole n ps := by
  constructor
  · intro h P hP h0 c hc
    refine d.so P (fun i j hj hi => ?_) h0 c ?_
    · obtain ⟨p, hp, q⟩ := (hb i j).mp hj
      rcases q with ⟨q1, q2⟩ | ⟨q1, q2⟩
      · rw [← q2]
        rw [← q1] at hi
        exact (hP p hp).mp hi
      · rw [← q2]
        rw [← q1] at hi
        exact (hP p hp).mpr hi
    · have hl : c < r.length := by rw [d.len]; exact hc
      unfold R
      rw [List.getElem?_eq_getElem hl]
      have := List.all_eq_true.mp h r[c] (List.getElem_mem hl)
      exact congrArg some this
  · intro w
    have all := w (fun i => R r i) (fun p hp => ?_) d.z
    · refine List.all_eq_true.mpr fun b hb' => ?_
      obtain ⟨i, hi, e⟩ := List.mem_iff_getElem.mp hb'
      have q := all i (by rw [← d.len]; exact hi)
      unfold R at q
      rw [List.getElem?_eq_getElem hi, e] at q
      exact Option.some.inj q
    · have clo : ∀ i j, j ∈ f i → R r i → R r j := fun i j hj hi => by
        rcases d.cl i hi with q | q | q
        · exact absurd q (by simp)
        · exact q.elim
        · exact q j hj
      exact ⟨clo _ _ ((hb _ _).mpr ⟨p, hp, .inl ⟨rfl, rfl⟩⟩), clo _ _ ((hb _ _).mpr ⟨p, hp, .inr ⟨rfl, rfl⟩⟩)⟩
/-- the lists with one more at one of them -/
def addTo (f : Nat → List Nat) (i x : Nat) : Nat → List Nat := fun k => if k = i then f k ++ [x] else f k
theorem beside_nil : Beside [] fun _ => [] := fun i j => ⟨fun h => absurd h (by simp), fun ⟨p, hp, _⟩ => absurd hp (by simp)⟩
theorem mem_addTo {f : Nat → List Nat} {i x k j : Nat} : j ∈ addTo f i x k ↔ j ∈ f k ∨ (k = i ∧ j = x) := by
  unfold addTo
  by_cases e : k = i
  · rw [if_pos e, List.mem_append, List.mem_singleton]
    exact or_congr Iff.rfl ⟨fun h => ⟨e, h⟩, fun h => h.2⟩
  · rw [if_neg e]
    exact ⟨.inl, fun h => h.elim id fun q => absurd q.1 e⟩
theorem beside_add {ps : List (Nat × Nat)} {f : Nat → List Nat} (p : Nat × Nat) (h : Beside ps f) : Beside (ps ++ [p]) (addTo (addTo f (p.1 / 4) (p.2 / 4)) (p.2 / 4) (p.1 / 4)) := by
  intro i j
  rw [mem_addTo, mem_addTo, h i j]
  constructor
  · rintro ((⟨q, hq, z⟩ | ⟨rfl, rfl⟩) | ⟨rfl, rfl⟩)
    · exact ⟨q, List.mem_append.mpr (.inl hq), z⟩
    · exact ⟨p, List.mem_append.mpr (.inr (List.mem_singleton.mpr rfl)), .inl ⟨rfl, rfl⟩⟩
    · exact ⟨p, List.mem_append.mpr (.inr (List.mem_singleton.mpr rfl)), .inr ⟨rfl, rfl⟩⟩
  · rintro ⟨q, hq, z⟩
    rcases List.mem_append.mp hq with hq | hq
    · exact .inl (.inl ⟨q, hq, z⟩)
    · rw [List.mem_singleton.mp hq] at z
      rcases z with ⟨a, b⟩ | ⟨a, b⟩
      · exact .inl (.inr ⟨a.symm, b.symm⟩)
      · exact .inr ⟨a.symm, b.symm⟩
end One
end P_M3

section P_E3
set_option linter.all false
set_option maxRecDepth 100000
set_option maxHeartbeats 4000000
namespace One
open PySem PySem.Spec PyProof.Rows L2
abbrev sIsWhole : Stmt := top 34
abbrev nWhole : List Str := ["lines"]
theorem scIsWhole : FnScope nWhole ["lines"] (defScope sIsWhole) := ⟨rfl, rfl, rfl, by decide +kernel, rfl, by decide +kernel, by decide +kernel⟩
def ltB : V → V → Bool
  | .int a, .int b => decide (a < b)
  | _, _ => false
def lineB (xs : List V) (n : Int) : Bool := match xs with
  | [x, y] => belowV x n && belowV y n && ltB x y
  | _ => false
def spIsLine : Sp := fun vs H Q _ => ∃ (v : V) (n : Int), vs = [v, .int n] ∧ ((∃ T, TV H v T ∧ isTup T = false ∧ Q (.bl false) H) ∨ ∃ (a : Addr) (xs : List V), v = .ref a ∧ H a = some (.tup xs) ∧ (∀ x ∈ xs, ∃ T, TV H x T) ∧ Q (.bl (lineB xs n)) H)
/-- lines that are asked whether they hang together -/
structure Asked (n : Nat) (ps : List (Nat × Nat)) : Prop where
  pos : 0 < n
  len : ps.length = 2 * n
  lt : ∀ p ∈ ps, p.1 < 4 * n ∧ p.2 < 4 * n
def spIsWhole : Sp := fun vs H Q _ => ∃ (t : Addr) (n : Nat) (as : List Addr) (ps : List (Nat × Nat)), vs = [.ref t] ∧ H t = some (.tup (refs as)) ∧ PL H as ps ∧ Asked n ps ∧ n ≤ 100 ∧
  ∀ (H' : Hp) (b : Bool), Same H H' → (b = true ↔ Whole n ps) → Q (.bl b) H'
section
variable {P : Program} {w : World} {K : PySem.W.Frag} {mg : Str → Option Value} {base : Heap}
theorem ok_isline {f fB : Addr} {fd fdB : FuncData} (F : Fun K "is_line" "is_line" sIsLine f fd) (T : TB mg) (B : Cal K mg "is_below" fB fdB ["thing", "many"]) (GB : FnOk P w K mg base CX0 2 fB fdB ["thing", "many"] spIsBelow) :
    FnOk P w K mg base CX0 3 f fd ["thing", "many_ends"] spIsLine := by
  refine F.ok scIsLine (fun vs H Q E h => ?_) (fun cdv A outer s H vs Q E hr h => ?_)
  · obtain ⟨v, n, rfl, _⟩ := h
    rfl
  · obtain ⟨v, n, rfl, h⟩ := h
    have nd := scIsLine.nd
    refine ⟨_, pss_cons (ps_if (PW.pt (pw_or (pt_not (pt_val (pe_callB call_isi (by rfl) T.isinstance boot_isinstance (pa_cons (pv 0) (pa_cons (pe_bltn (v := .ty "tuple") (by rfl) T.tuple boot_tuple rfl) pa_nil)))))
        (pw_or1 (pt_cmpR op_ne (pe_callB call_len_seq (by rfl) T.len PySem.boot_len (pa_cons (pv 0) pa_nil)) pe_int (nomark _))))) (pss_one (ps_ret pe_bl)) pss_nil)
      (pss_cons (ps_asg (pv 0) (pg_tup rfl (pgs_cons (pg_name (i := 2) nd rfl (Or.inl rfl)) (pgs_cons (pg_name (i := 3) nd rfl (Or.inl rfl)) pgs_nil))))
      (pss_one (ps_ret (pe_and (pe_call GB hr rfl B.g B.kp B.b .nil pass0 (pa_cons (pv 2) (pa_cons (pv 1) pa_nil))) (pe_and (pe_call GB hr rfl B.g B.kp B.b .nil pass0 (pa_cons (pv 3) (pa_cons (pv 1) pa_nil)))
        (pe_one (pe_cmpR op_lt (pv 2) (pv 3) (nomark _)))))))), ?_⟩
    rcases h with ⟨ty, hv, hT, k⟩ | ⟨a, xs, rfl, ha, hx, k⟩
    · refine ⟨_, rfl, v, _, _, _, _, rfl, .ty _, hv.tyx, hv.kTup, _, rfl, ?_⟩
      rw [hT]
      exact iteT k
    · refine ⟨_, rfl, _, _, _, _, _, rfl, .ty _, (TV.tup ha).tyx, (TV.tup ha).kTup, _, rfl, ?_⟩
      refine iteF ⟨_, rfl, a, _, rfl, .inr (SqT.of ha), rfl, _, rfl, ?_⟩
      refine ite2 (fun hne => ?_) (fun heq => ?_)
      · have e : lineB xs n = false := by
          match xs, hne with
          | [], _ => rfl
          | [_], _ => rfl
          | [_, _], hne => simp at hne
          | _ :: _ :: _ :: _, _ => rfl
        rw [e] at k
        exact k
      · have hl : xs.length = 2 := by
          have q : ((xs.length : Nat) : Int) = 2 := by simpa using heq
          omega
        match xs, hl, hx, ha, k with
        | [x, y], _, hx, ha, k =>
          obtain ⟨t1, h1⟩ := hx x (by simp)
          obtain ⟨t2, h2⟩ := hx y (by simp)
          refine ⟨_, rfl, a, _, rfl, SqT.of ha, rfl, _, _, rfl, _, _, rfl, rfl, ?_⟩
          refine ⟨_, rfl, _, rfl, x, n, t1, rfl, h1, _, rfl, ?_⟩
          have k : Q (.bl (belowV x n && belowV y n && ltB x y)) H := k
          refine ite2 (fun b1 => ?_) (fun b1 => ?_)
          · refine ⟨_, rfl, _, rfl, y, n, t2, rfl, h2, _, rfl, ?_⟩
            refine ite2 (fun b2 => ?_) (fun b2 => ?_)
            · rw [b1, b2] at k
              cases x with
              | int i =>
                cases y with
                | int j => exact ⟨_, rfl, _, rfl, _, _, rfl, rfl, k⟩
                | _ => cases b2
              | _ => cases b1
            · rw [b1, Bool.eq_false_iff.mpr b2] at k
              exact k
          · rw [Bool.eq_false_iff.mpr b1] at k
            exact k
end
end One
end P_E3

section P_R1
set_option linter.all false
set_option maxRecDepth 100000
set_option maxHeartbeats 8000000
namespace One
open PySem PySem.Spec PyProof.Rows L2
/-- a list of lists of numbers at B, at bl, f says what stands in each; all made behind H0 -/
structure BSt (H0 H : Hp) (B : Addr) (bl : List Addr) (f : Nat → List Nat) : Prop where
  same : Same H0 H
  b : H B = some (.lst (refs bl))
  at_ : ∀ i a, bl[i]? = some a → H a = some (.lst (nats (f i)))
  new : ∀ a ∈ bl, H0 a = none
  nd : bl.Nodup
  nb : B ∉ bl
theorem BSt.keep {H0 H H' : Hp} {B : Addr} {bl : List Addr} {f : Nat → List Nat} (s : BSt H0 H B bl f) (k : Same H H') : BSt H0 H' B bl f :=
  ⟨s.same.trans k, k _ _ s.b, fun i a h => k _ _ (s.at_ i a h), s.new, s.nd, s.nb⟩
theorem BSt.wr {H0 H : Hp} {B q : Addr} {bl : List Addr} {f : Nat → List Nat} {o : HO} (s : BSt H0 H B bl f) (h0 : H0 q = none) (h1 : q ≠ B) (h2 : q ∉ bl) : BSt H0 (upd H q o) B bl f := by
  refine ⟨fun b u e => ?_, by rw [upd_ne (Ne.symm h1)]; exact s.b, fun i a h => ?_, s.new, s.nd, s.nb⟩
  · rw [upd_ne (ne_of_none e h0)]
    exact s.same _ _ e
  · rw [upd_ne (fun z => h2 (by rw [← z]; exact List.mem_of_getElem? h))]
    exact s.at_ i a h
theorem BSt.add {H0 H : Hp} {B a : Addr} {bl : List Addr} {f : Nat → List Nat} {i x : Nat} (s : BSt H0 H B bl f) (ha : bl[i]? = some a) : BSt H0 (upd H a (.lst (nats (f i) ++ [V.int (x : Nat)]))) B bl (addTo f i x) := by
  have hm := List.mem_of_getElem? ha
  refine ⟨fun b u e => ?_, by rw [upd_ne (fun z => s.nb (by rw [z]; exact hm))]; exact s.b, fun j c h => ?_, s.new, s.nd, s.nb⟩
  · rw [upd_ne (ne_of_none e (s.new a hm))]
    exact s.same _ _ e
  · unfold addTo
    by_cases e : j = i
    · subst e
      rw [ha] at h
      cases h
      rw [if_pos rfl, upd_same, nats_app]
      rfl
    · rw [if_neg e, upd_ne (fun z => e (nd_ix s.nd h (by rw [z]; exact ha)))]
      exact s.at_ j c h
def lenAt (H : Hp) (a : Addr) : Nat := match H a with
  | some (.lst xs) => xs.length
  | _ => 0
def noAt (H : Hp) (a : Addr) : Nat := match H a with
  | some (.lst xs) => xs.countP fun v => match v with | .bl b => !b | _ => false
  | _ => 0
theorem lenAt_of {H : Hp} {a : Addr} {ns : List Nat} (h : H a = some (.lst (nats ns))) : lenAt H a = ns.length := by
  unfold lenAt
  rw [h]
  exact List.length_map _
theorem noAt_of {H : Hp} {a : Addr} {r : List Bool} (h : H a = some (.lst (r.map V.bl))) : noAt H a = r.count false := by
  unfold noAt
  rw [h]
  show (r.map V.bl).countP _ = _
  rw [List.countP_map]
  refine List.countP_congr fun b _ => ?_
  cases b <;> simp
theorem take_ends {H : Hp} {ps : List (Nat × Nat)} {i : Nat} {p : Nat × Nat} (h : ps[i]? = some p) : ps.take (i + 1) = ps.take i ++ [p] := by
  rw [List.take_succ, h]
  rfl
theorem fdiv4 (x : Nat) : ((x : Nat) : Int) / 4 = ((x / 4 : Nat) : Int) := by omega
theorem nodup_app {α : Type} {l : List α} {x : α} (h : l.Nodup) (hx : x ∉ l) : (l ++ [x]).Nodup := by
  refine List.nodup_append.mpr ⟨h, by simp, fun a ha b hb => ?_⟩
  rw [List.mem_singleton.mp hb]
  exact fun e => hx (e ▸ ha)
theorem ix_nat {n j : Nat} (h : j < n) : ixN n ((j : Nat) : Int) = some j := by
  unfold ixN
  rw [if_pos (by omega), if_pos (by omega)]
  rfl
theorem flat_rep {α : Type} (x : α) : ∀ n : Nat, (List.replicate n [x]).flatten = List.replicate n x
  | 0 => rfl
  | n + 1 => by
    rw [List.replicate_succ, List.flatten_cons, flat_rep x n, List.replicate_succ]
    rfl
abbrev sBesideX : Stmt := top 35
abbrev nBesideX : List Str := ["lines", "many", "beside", "low", "high", "_"]
theorem scBesideX : FnScope nBesideX ["lines", "many"] (defScope sBesideX) := ⟨rfl, rfl, rfl, by decide +kernel, rfl, by decide +kernel, by decide +kernel⟩
/-- what is beside each of n crossings by these lines, told as lists in a list, all new -/
def spBesideX : Sp := fun vs H Q _ => ∃ (t : Addr) (n : Nat) (as : List Addr) (ps : List (Nat × Nat)), vs = [.ref t, .int (n : Nat)] ∧ H t = some (.tup (refs as)) ∧ PL H as ps ∧ (∀ p ∈ ps, p.1 < 4 * n ∧ p.2 < 4 * n) ∧ n ≤ 200 ∧ ps.length ≤ 400 ∧
  ∀ (H' : Hp) (D : Addr) (bl : List Addr) (f : Nat → List Nat), BSt H H' D bl f → H D = none → bl.length = n → Beside ps f → Q (.ref D) H'
section
variable {P : Program} {w : World} {K : PySem.W.Frag} {mg : Str → Option Value} {base : Heap}
theorem ok_besideX {f : Addr} {fd : FuncData} (F : Fun K "crossings_beside" "crossings_beside" sBesideX f fd) (T : TB mg) (C : TC mg) : FnOk P w K mg base CX0 1 f fd ["lines", "many"] spBesideX := by
  refine F.ok scBesideX (fun vs H Q E h => ?_) (fun cdv A outer s H vs Q E hr h => ?_)
  · obtain ⟨t, n, as, ps, rfl, _⟩ := h
    rfl
  · obtain ⟨t, n, as, ps, rfl, ht, hP, hA, hn, hpl, k⟩ := h
    have nd := scBesideX.nd
    obtain ⟨t4, ht4⟩ := C.places
    refine ⟨_, pss_cons (ps_setLc (i := 2) (own := [("_", 5)]) (g := gName 5) (tt := tYes) (te := tLst tNil) rfl nd rfl rfl (sw_true rfl rfl rfl (by decide +kernel)) (pi_range1 (by rfl) T.range (pa_cons (pv 1) pa_nil)) (blkOk_by (N := nBesideX) (sc := defScope sBesideX) (by decide +kernel))
        (fun _ _ _ _ _ => pg_name (i := 5) nd rfl (Or.inl rfl)) (fun _ _ _ _ _ => pts_nil) (fun _ _ _ _ _ => pe_lst pa_nil))
      (pss_cons (ps_for PassesOwn.never rfl (pi_tup (pv 0)) (pg_tup rfl (pgs_cons (pg_name (i := 3) nd rfl (Or.inl rfl)) (pgs_cons (pg_name (i := 4) nd rfl (Or.inl rfl)) pgs_nil)))
        (pss_cons (ps_expr (pe_bm PySem.F.plainAttrs_list PySem.F.slot_list_append PySem.F.type_list_append mt_append (pe_ix ix_list (pv 2) (pe_op op_fdiv (pv 3) (pe_glob (v := .int 4) rfl ht4 ⟨_, rfl⟩)) (fun _ _ => rfl)) (pa_cons (pe_op op_fdiv (pv 4) (pe_glob (v := .int 4) rfl ht4 ⟨_, rfl⟩)) pa_nil)))
        (pss_one (ps_expr (pe_bm PySem.F.plainAttrs_list PySem.F.slot_list_append PySem.F.type_list_append mt_append (pe_ix ix_list (pv 2) (pe_op op_fdiv (pv 4) (pe_glob (v := .int 4) rfl ht4 ⟨_, rfl⟩)) (fun _ _ => rfl)) (pa_cons (pe_op op_fdiv (pv 3) (pe_glob (v := .int 4) rfl ht4 ⟨_, rfl⟩)) pa_nil))))))
      (pss_one (ps_ret (pv 2)))), ?_⟩
    have hal : as.length = ps.length := hP.len
    have nl : (refs as).length = as.length := List.length_map _
    refine ⟨_, rfl, n, rfl, by omega, by omega, fun D hD => ?_⟩
    refine lc_it (walk_range (lo := 0) (n := ((n : Nat) : Int).toNat)) (fun i H6 => ∃ bl : List Addr, BSt H H6 D bl (fun _ => []) ∧ bl.length = i) ⟨[], ⟨Same.new hD, upd_same, fun i a h => absurd h (by simp), fun a h => absurd h (by simp), .nil, by simp⟩, rfl⟩ (fun _ _ _ _ => trivial) ?_ ?_
    · rintro i x H6 H7 hi ⟨bl, hB, hl⟩ ⟨rfl, rfl⟩
      refine ⟨rfl, yes ⟨Nat.zero_le _, fun l hl' => ⟨_, (Same.new hl') _ _ hB.b, small1000 ?_, bl ++ [l], ?_, ?_⟩⟩⟩
      · rw [List.length_map]
        omega
      · have s1 := Same.new (o := .lst []) hl'
        have h0 : H l = none := hB.same.free hl'
        have nlD : l ≠ D := (ne_of_none hB.b hl').symm
        have nlb : l ∉ bl := fun m => by
          obtain ⟨j, hj, e⟩ := List.mem_iff_getElem.mp m
          have q := hB.at_ j l (by rw [List.getElem?_eq_getElem hj, e])
          rw [hl'] at q
          cases q
        refine ⟨fun b u e => ?_, by rw [upd_same, refs_app]; rfl, fun j a h => ?_, fun a m => ?_, nodup_app hB.nd nlb, fun m => ?_⟩
        · rw [upd_ne (ne_of_none e hD)]
          exact s1 _ _ (hB.same _ _ e)
        · by_cases hj : j < bl.length
          · rw [List.getElem?_append_left hj] at h
            have q := hB.at_ j a h
            rw [upd_ne (fun z => hB.nb (by rw [← z]; exact List.mem_of_getElem? h))]
            exact s1 _ _ q
          · rw [List.getElem?_append_right (by omega)] at h
            have ea : a = l := by
              have := List.mem_of_getElem? h
              exact List.mem_singleton.mp this
            rw [ea, upd_ne nlD, upd_same]
            rfl
        · rcases List.mem_append.mp m with m | m
          · exact hB.new a m
          · rw [List.mem_singleton.mp m]
            exact h0
        · rcases List.mem_append.mp m with m | m
          · exact hB.nb m
          · exact nlD (List.mem_singleton.mp m).symm
      · rw [List.length_append, hl]
        rfl
    · rintro H6 ⟨bl, hB, hl⟩
      have hl : bl.length = n := by rw [hl]; omega
      refine ⟨_, rfl, t, rfl, ⟨_, SqT.of (hB.same _ _ ht)⟩, for_tup (K := K) (a := t) (xs := refs as) (fun i σ H7 => ∃ (f : Nat → List Nat) (v2 v3 : Option V), σ = [some (.ref t), some (.int (n : Nat)), some (.ref D), v2, v3, none] ∧ BSt H H7 D bl f ∧ Beside (ps.take i) f ∧ ∀ j, (f j).length ≤ 2 * i)
        ⟨fun _ => [], none, none, rfl, hB, beside_nil, fun _ => Nat.zero_le _⟩ (fun i σ H7 _ ⟨f, _, _, _, h, _⟩ => SqT.of (h.same _ _ ht)) ?_ ?_⟩
      · rintro i x σ H7 hx ⟨f, v2, v3, rfl, hB7, hbs, hfl⟩
        obtain ⟨a, ha⟩ : ∃ a, as[i]? = some a := by
          rw [List.getElem?_map] at hx
          cases e : as[i]? with
          | none =>
            rw [e] at hx
            cases hx
          | some a => exact ⟨a, rfl⟩
        rw [List.getElem?_map, ha] at hx
        cases hx
        obtain ⟨p, hp, pa⟩ := hP.got ha
        have hi : i < ps.length := by
          have := (List.getElem?_eq_some_iff.mp ha).1
          omega
        obtain ⟨q1, q2⟩ := hA p (List.mem_of_getElem? hp)
        have g1 : p.1 / 4 < bl.length := by omega
        have g2 : p.2 / 4 < bl.length := by omega
        obtain ⟨b1, hb1⟩ : ∃ b, bl[p.1 / 4]? = some b := ⟨_, List.getElem?_eq_getElem g1⟩
        obtain ⟨b2, hb2⟩ : ∃ b, bl[p.2 / 4]? = some b := ⟨_, List.getElem?_eq_getElem g2⟩
        have pa7 := hB7.same _ _ pa
        refine ⟨a, _, rfl, SqT.of pa7, rfl, _, _, rfl, _, _, rfl, rfl, ?_⟩
        have c1 := hB7.at_ _ _ hb1
        refine ⟨_, rfl, _, rfl, _, _, rfl, rfl, ⟨by decide, by decide⟩, D, _, _, .ref b1, rfl, rfl, SqL.of hB7.b, (by show atI _ (((p.1 : Nat) : Int) / 4) = _; rw [fdiv4]; exact ref_at hb1), .inl ⟨rfl, _, SqL.of c1⟩, _, rfl, _, _, rfl, rfl, ⟨by decide, by decide⟩, b1, _, _, rfl, rfl, c1, small1000 ?_, ?_⟩
        · rw [List.length_map]
          have := hfl (p.1 / 4)
          omega
        have hB8 : BSt H (upd H7 b1 (.lst (nats (f (p.1 / 4)) ++ [V.int (((p.2 : Nat) : Int) / 4)]))) D bl (addTo f (p.1 / 4) (p.2 / 4)) := by
          rw [fdiv4]
          exact hB7.add hb1
        have c2 := hB8.at_ _ _ hb2
        refine ⟨_, rfl, _, rfl, _, _, rfl, rfl, ⟨by decide, by decide⟩, D, _, _, .ref b2, rfl, rfl, SqL.of hB8.b, (by show atI _ (((p.2 : Nat) : Int) / 4) = _; rw [fdiv4]; exact ref_at hb2), .inl ⟨rfl, _, SqL.of c2⟩, _, rfl, _, _, rfl, rfl, ⟨by decide, by decide⟩, b2, _, _, rfl, rfl, c2, small1000 ?_, ?_⟩
        · rw [List.length_map]
          have := hfl (p.2 / 4)
          unfold addTo
          split
          · rw [List.length_append, List.length_singleton]
            omega
          · omega
        have hB9 : BSt H (upd (upd H7 b1 (.lst (nats (f (p.1 / 4)) ++ [V.int (((p.2 : Nat) : Int) / 4)]))) b2 (.lst (nats (addTo f (p.1 / 4) (p.2 / 4) (p.2 / 4)) ++ [V.int (((p.1 : Nat) : Int) / 4)]))) D bl (addTo (addTo f (p.1 / 4) (p.2 / 4)) (p.2 / 4) (p.1 / 4)) := by
          rw [fdiv4 p.1]
          exact hB8.add hb2
        refine ⟨_, _, _, rfl, hB9, ?_, fun j => ?_⟩
        · rw [take_ends (H := H) hp]
          exact beside_add p hbs
        · have := hfl j
          unfold addTo
          split <;> split <;> (try simp only [List.length_append, List.length_singleton]) <;> omega
      · rintro σ H7 ⟨f, v2, v3, rfl, hB7, hbs, hfl⟩
        rw [nl, hP.len, List.take_length] at hbs
        exact ⟨_, rfl, k _ D bl f hB7 hD hl hbs⟩
end
end One
end P_R1

section P_R2
set_option linter.all false
set_option maxRecDepth 100000
set_option maxHeartbeats 8000000
namespace One
open PySem PySem.Spec PyProof.Rows L2
abbrev sReached : Stmt := top 25
abbrev nReached : List Str := ["beside", "start", "told", "waiting", "other"]
theorem scReached : FnScope nReached ["beside", "start"] (defScope sReached) := ⟨rfl, rfl, rfl, by decide +kernel, rfl, by decide +kernel, by decide +kernel⟩
/-- lists of numbers in a list -/
structure LL (H : Hp) (B : Addr) (bl : List Addr) (f : Nat → List Nat) : Prop where
  b : H B = some (.lst (refs bl))
  at_ : ∀ i a, bl[i]? = some a → H a = some (.lst (nats (f i)))
theorem LL.keep {H H' : Hp} {B : Addr} {bl : List Addr} {f : Nat → List Nat} (s : LL H B bl f) (k : Same H H') : LL H' B bl f := ⟨k _ _ s.b, fun i a h => k _ _ (s.at_ i a h)⟩
theorem BSt.ll {H0 H : Hp} {B : Addr} {bl : List Addr} {f : Nat → List Nat} (s : BSt H0 H B bl f) : LL H B bl f := ⟨s.b, s.at_⟩
/-- to which numbers one comes from s, told as a new list of truths -/
def spReached : Sp := fun vs H Q _ => ∃ (B : Addr) (bl : List Addr) (f : Nat → List Nat) (n s : Nat), vs = [.ref B, .int (s : Nat)] ∧ LL H B bl f ∧ bl.length = n ∧ s < n ∧ n ≤ 200 ∧ (∀ i j, i < n → j ∈ f i → j < n) ∧
  ∀ (H' : Hp) (R4 : Addr) (r : List Bool), Same H H' → H R4 = none → H' R4 = some (.lst (r.map V.bl)) → Dfs s n f r [] (fun _ => False) → Q (.ref R4) H'
section
variable {P : Program} {w : World} {K : PySem.W.Frag} {mg : Str → Option Value} {base : Heap}
theorem ok_reached {f : Addr} {fd : FuncData} (F : Fun K "reached" "reached" sReached f fd) (T : TB mg) : FnOk P w K mg base CX0 1 f fd ["beside", "start"] spReached := by
  refine F.ok scReached (fun vs H Q E h => ?_) (fun cdv A outer s H vs Q E hr h => ?_)
  · obtain ⟨B, bl, g, n, st, rfl, _⟩ := h
    rfl
  · obtain ⟨B, bl, g, n, st, rfl, hL, hl, hs, hn, flt, k⟩ := h
    have nd := scReached.nd
    refine ⟨_, pss_cons (ps_set (i := 2) nd rfl (Or.inl rfl) (pe_op op_rep (pe_lst (pa_cons pe_bl pa_nil)) (pe_callB call_len_seq (by rfl) T.len PySem.boot_len (pa_cons (pv 0) pa_nil))))
      (pss_cons (ps_asg pe_bl (pg_sub (pv 2) (pv 1) set_list))
      (C8.pss_cut (ps_set (i := 3) nd rfl (Or.inl rfl) (pe_lst (pa_cons (pv 1) pa_nil)))
      (pss_cons (ps_while PassesOwn.never (pt_truth (pv 3) (by intro _; rfl))
        (pss_one (ps_for PassesOwn.never rfl (pi_list (pe_ix ix_list (pv 0) (pe_bm0 PySem.F.plainAttrs_list PySem.F.slot_list_pop PySem.F.type_list_pop mt_pop (pv 3)) (fun _ _ => rfl))) (pg_name (i := 4) nd rfl (Or.inl rfl))
          (pss_one (ps_if (pt_not (pt_val (pe_ix ix_list (pv 2) (pv 4) (fun _ _ => rfl)))) (pss_cons (ps_asg pe_bl (pg_sub (pv 2) (pv 4) set_list))
            (pss_one (ps_expr (pe_bm PySem.F.plainAttrs_list PySem.F.slot_list_append PySem.F.type_list_append mt_append (pv 3) (pa_cons (pv 4) pa_nil))))) pss_nil)))))
      (pss_one (ps_ret (pv 2)))))), ?_⟩
    have nlb : (((refs bl).length : Nat)) = n := by rw [List.length_map]; exact hl
    refine ⟨by show 1 ≤ sizeLine; decide, fun l1 hl1 => ⟨_, rfl, B, _, rfl, .inl (SqL.of ((Same.new hl1) _ _ hL.b)), ?_⟩⟩
    have s1 := Same.new (o := .lst [V.bl false]) hl1
    refine ⟨l1, _, _, rfl, rfl, upd_same, by omega, by omega, (by rw [nlb]; show 1 * _ ≤ _; exact Nat.le_of_lt (small1000 (by omega))), fun R4 hR4 => ?_⟩
    have s2 := Same.new (o := .lst (List.replicate (((refs bl).length : Nat) : Int).toNat [V.bl false]).flatten) hR4
    have eR : (List.replicate (((refs bl).length : Nat) : Int).toNat [V.bl false]).flatten = (List.replicate n false).map V.bl := by
      rw [nlb, show ((n : Nat) : Int).toNat = n by omega, List.map_replicate]
      exact flat_rep _ n
    have hR0 : H R4 = none := s1.free hR4
    have s12 := s1.trans s2
    refine ⟨_, rfl, _, rfl, R4, _, _, st, rfl, rfl, upd_same, ix_nat (by rw [eR, List.length_map, List.length_replicate]; exact hs), ?_⟩
    rw [eR]
    rw [eR] at s12
    have sa : Same H (upd (upd (upd H l1 (.lst [V.bl false])) R4 (.lst ((List.replicate n false).map V.bl))) R4 (.lst (((List.replicate n false).map V.bl).set st (V.bl true)))) := fun b u e => by
      rw [upd_ne (ne_of_none e hR0)]
      exact s12 _ _ e
    have setR : ∀ (r : List Bool) (j : Nat), (r.map V.bl).set j (V.bl true) = (r.set j true).map V.bl := fun r j => (List.map_set).symm
    refine ⟨fun σ H9 => ∃ (W : Addr) (r : List Bool) (w : List Nat) (v4 : Option V), (H W = none ∧ W ≠ R4) ∧ σ = [some (.ref B), some (.int (st : Nat)), some (.ref R4), some (.ref W), v4] ∧ Same H H9 ∧ H9 R4 = some (.lst (r.map V.bl)) ∧ H9 W = some (.lst (nats w)) ∧ Dfs st n g r w (fun _ => False) ∧ w.length + r.count false ≤ n, ⟨_, rfl, ⟨by show 1 ≤ sizeLine; decide, fun W hW => ?_⟩⟩, ?_⟩
    · have s3 := Same.new (o := .lst [V.int (st : Nat)]) hW
      have hW0 : H W = none := sa.free hW
      have nWR : W ≠ R4 := (ne_of_none upd_same hW).symm
      refine ⟨W, (List.replicate n false).set st true, [st], none, ⟨hW0, nWR⟩, rfl, sa.trans s3, ?_, upd_same, dfs_start g hs, ?_⟩
      · rw [upd_ne (Ne.symm nWR), upd_same, setR]
      · have := count_set (r := List.replicate n false) (j := st) (by rw [List.getElem?_replicate, if_pos hs])
        rw [List.count_replicate_self] at this
        show 1 + _ ≤ n
        omega
    · rintro σ0 H0 ⟨W, r0, w0, v4', ⟨hW0, nWR⟩, rfl, sH0, hR0', hw0, hd0, hm0⟩
      unfold tSeq
      refine while_by (fun σ H9 => ∃ (r : List Bool) (w : List Nat) (v4 : Option V), σ = [some (.ref B), some (.int (st : Nat)), some (.ref R4), some (.ref W), v4] ∧ Same H H9 ∧ H9 R4 = some (.lst (r.map V.bl)) ∧ H9 W = some (.lst (nats w)) ∧ Dfs st n g r w (fun _ => False) ∧ w.length + r.count false ≤ n)
        (fun σ H9 => 2 * noAt H9 R4 + lenAt H9 W) ⟨r0, w0, v4', rfl, sH0, hR0', hw0, hd0, hm0⟩ ?_ ?_
      · rintro σ H9 ⟨r, w, v4, rfl, sH, hR, hw, hd, hm⟩
        refine ⟨_, rfl, _, .inl ⟨_, SqL.of hw, rfl⟩, ?_⟩
        rcases List.eq_nil_or_concat w with rfl | ⟨w', c, rfl⟩
        · refine iteF ?_
          exact ⟨_, rfl, k _ R4 r sH hR0 hR hd⟩
        · rw [List.concat_eq_append] at hw hd hm ⊢
          have hne : (!(nats (w' ++ [c])).isEmpty) = true := by
            rw [nats_app]
            cases nats w' <;> rfl
          rw [hne]
          refine iteT ?_
          have hlast : (nats (w' ++ [c]))[(nats (w' ++ [c])).length - 1]? = some (V.int (c : Nat)) := by
            rw [nats_app, List.length_append]
            show (nats w' ++ [V.int (c : Nat)])[(nats w').length + 1 - 1]? = _
            rw [Nat.add_sub_cancel, List.getElem?_append_right (Nat.le_refl _), Nat.sub_self]
            rfl
          have hdrop : (nats (w' ++ [c])).dropLast = nats w' := by
            rw [nats_app]
            exact List.dropLast_concat
          have sH1 : Same H (upd H9 W (.lst (nats w'))) := fun b u e => by
            rw [upd_ne (ne_of_none e hW0)]
            exact sH _ _ e
          have hL1 := hL.keep sH1
          refine ⟨_, rfl, _, rfl, .inl ⟨rfl, _, SqL.of hw⟩, W, _, _, rfl, rfl, hw, hlast, ?_⟩
          rw [hdrop]
          have hRc : R r c := hd.wt c (List.mem_append.mpr (.inr (List.mem_singleton.mpr rfl)))
          have hcn : c < n := by
            have := (List.getElem?_eq_some_iff.mp hRc).1
            rw [hd.len] at this
            exact this
          have hR1 : (upd H9 W (.lst (nats w'))) R4 = some (.lst (r.map V.bl)) := by
            rw [upd_ne (Ne.symm nWR)]
            exact hR
          obtain ⟨b, hb⟩ : ∃ b, bl[c]? = some b := ⟨_, List.getElem?_eq_getElem (by omega)⟩
          have hbf := hL.at_ _ _ hb
          rw [List.length_append, List.length_singleton] at hm
          have hmu : 2 * noAt H9 R4 + lenAt H9 W = 2 * r.count false + (w'.length + 1) := by
            rw [noAt_of hR, lenAt_of hw, List.length_append, List.length_singleton]
          refine ⟨B, _, _, .ref b, rfl, rfl, SqL.of hL1.b, ref_at hb, b, rfl, ⟨_, SqL.of (sH1 _ _ hbf)⟩, for_list (K := K) (a := b) (xs := nats (g c)) (fun m σ Hm => ∃ (r2 : List Bool) (w2 : List Nat) (v4 : Option V), σ = [some (.ref B), some (.int (st : Nat)), some (.ref R4), some (.ref W), v4] ∧
              Same H Hm ∧ Hm R4 = some (.lst (r2.map V.bl)) ∧ Hm W = some (.lst (nats w2)) ∧ Dfs st n g r2 w2 (· = c) ∧ R r2 c ∧ w2.length + r2.count false + 1 ≤ n ∧ 2 * r2.count false + w2.length + 1 ≤ 2 * r.count false + (w'.length + 1) ∧ ∀ j ∈ (g c).take m, R r2 j)
            ⟨r, w', v4, rfl, sH1, hR1, upd_same, dfs_pop hd, hRc, by omega, by omega, fun j hj => absurd hj (by simp)⟩ (fun m σ Hm _ ⟨_, _, _, _, h, _⟩ => SqL.of (h _ _ hbf)) ?_ ?_⟩
          · rintro m x σ Hm hx ⟨r2, w2, v4, rfl, sH2, hR2, hw2, hd2, hRc2, hm1, hm2, hdone⟩
            obtain ⟨j, hj⟩ : ∃ j, (g c)[m]? = some j := by
              rw [List.getElem?_map] at hx
              cases e : (g c)[m]? with
              | none =>
                rw [e] at hx
                cases hx
              | some a => exact ⟨a, rfl⟩
            rw [List.getElem?_map, hj] at hx
            cases hx
            have hjf : j ∈ g c := List.mem_of_getElem? hj
            have hjn : j < n := flt c j hcn hjf
            have hjr : j < r2.length := by rw [hd2.len]; exact hjn
            obtain ⟨b2, hb2⟩ : ∃ b, r2[j]? = some b := ⟨_, List.getElem?_eq_getElem hjr⟩
            have etake : (g c).take (m + 1) = (g c).take m ++ [j] := by
              rw [List.take_succ, hj]
              rfl
            refine ⟨_, rfl, _, rfl, R4, _, _, .bl b2, rfl, rfl, SqL.of hR2, at_of (j := j) rfl (by rw [List.getElem?_map, hb2]; rfl), b2, rfl, ?_⟩
            cases b2 with
            | true =>
              refine iteF ⟨r2, w2, _, rfl, sH2, hR2, hw2, hd2, hRc2, hm1, hm2, fun i hi => ?_⟩
              rw [etake] at hi
              rcases List.mem_append.mp hi with hi | hi
              · exact hdone i hi
              · rw [List.mem_singleton.mp hi]
                exact hb2
            | false =>
              have hcnt := count_set hb2
              refine iteT ⟨_, rfl, _, rfl, R4, _, _, j, rfl, rfl, hR2, ix_nat (by rw [List.length_map]; exact hjr), ?_⟩
              have hw3 : (upd Hm R4 (.lst ((r2.map V.bl).set j (V.bl true)))) W = some (.lst (nats w2)) := by
                rw [upd_ne nWR]
                exact hw2
              refine ⟨_, rfl, .inl ⟨rfl, _, SqL.of hw3⟩, _, rfl, W, _, _, rfl, rfl, hw3, small1000 (by rw [List.length_map]; omega), ?_⟩
              refine ⟨r2.set j true, w2 ++ [j], _, rfl, (fun b u e => ?_), ?_, ?_, dfs_mark hd2 hRc2 hjf hjn, R_set hRc2, ?_, ?_, fun i hi => ?_⟩
              · rw [upd_ne (ne_of_none e hW0), upd_ne (ne_of_none e hR0)]
                exact sH2 _ _ e
              · rw [upd_ne (Ne.symm nWR), upd_same, setR]
              · rw [upd_same, nats_app]
                rfl
              · rw [List.length_append, List.length_singleton]
                omega
              · rw [List.length_append, List.length_singleton]
                omega
              · rw [etake] at hi
                rcases List.mem_append.mp hi with hi | hi
                · exact R_set (hdone i hi)
                · rw [List.mem_singleton.mp hi]
                  exact R_new hjr
          · rintro σ Hm ⟨r2, w2, v4, rfl, sH2, hR2, hw2, hd2, hRc2, hm1, hm2, hdone⟩
            rw [List.length_map, List.take_length] at hdone
            refine ⟨⟨r2, w2, _, rfl, sH2, hR2, hw2, dfs_finish hd2 hdone, by omega⟩, ?_⟩
            show 2 * noAt Hm R4 + lenAt Hm W < 2 * noAt H9 R4 + lenAt H9 W
            rw [hmu, noAt_of hR2, lenAt_of hw2]
            omega
      · intro σ H1 Q1 Q2 hq h
        obtain ⟨v, e, kk, ht, q⟩ := h
        exact ⟨v, e, kk, ht, hq _ _ q⟩
end
end One
end P_R2

section P_E4
set_option linter.all false
set_option maxRecDepth 100000
set_option maxHeartbeats 4000000
namespace One
open PySem PySem.Spec PyProof.Rows L2
section
variable {P : Program} {w : World} {K : PySem.W.Frag} {mg : Str → Option Value} {base : Heap}
theorem ok_iswhole {f fR fB : Addr} {fd fdR fdB : FuncData} (F : Fun K "is_whole" "is_whole" sIsWhole f fd) (T : TB mg) (DR : Cal K mg "reached" fR fdR ["beside", "start"]) (GR : FnOk P w K mg base CX0 1 fR fdR ["beside", "start"] spReached)
    (DB : Cal K mg "crossings_beside" fB fdB ["lines", "many"]) (GB : FnOk P w K mg base CX0 1 fB fdB ["lines", "many"] spBesideX) : FnOk P w K mg base CX0 2 f fd ["lines"] spIsWhole := by
  refine F.ok scIsWhole (fun vs H Q E h => ?_) (fun cdv A outer s H vs Q E hr h => ?_)
  · obtain ⟨t, n, as, ps, rfl, _⟩ := h
    rfl
  · obtain ⟨t, n, as, ps, rfl, ht, hP, hA, hn, k⟩ := h
    refine ⟨_, pss_one (ps_ret (pe_callB (cr_all rfl) (by rfl) T.all boot_all (pa_cons (pe_call GR hr rfl DR.g DR.kp DR.b .nil pass0 (pa_cons (pe_call GB hr rfl DB.g DB.kp DB.b .nil pass0 (pa_cons (pv 0) (pa_cons (pe_op op_fdiv (pe_callB call_len_seq (by rfl) T.len PySem.boot_len (pa_cons (pv 0) pa_nil)) pe_int) pa_nil))) (pa_cons pe_int pa_nil))) pa_nil))), ?_⟩
    have hal : as.length = 2 * n := by rw [hP.len, hA.len]
    have nl : (refs as).length = as.length := List.length_map _
    have e2 : (((refs as).length : Nat) : Int) / 2 = (n : Nat) := by rw [nl, hal]; omega
    refine ⟨_, rfl, _, rfl, t, _, rfl, .inr (SqT.of ht), _, _, rfl, rfl, ⟨by decide, by decide⟩, t, n, as, ps, (by show [V.ref t, V.int ((((refs as).length : Nat) : Int) / 2)] = _; rw [e2]), ht, hP, hA.lt, by omega, (by rw [hA.len]; omega), fun H1 D bl g hB hD hl hbs => ?_⟩
    refine ⟨D, bl, g, n, 0, rfl, hB.ll, hl, hA.pos, by omega, fun i j hi hj => ?_, fun H2 R4 r s2 hR0 hR hd => ?_⟩
    · obtain ⟨p, hp, q⟩ := (hbs i j).mp hj
      obtain ⟨q1, q2⟩ := hA.lt p hp
      rcases q with ⟨_, q⟩ | ⟨_, q⟩ <;> omega
    · exact ⟨R4, r, rfl, SqL.of hR, k _ _ (hB.same.trans s2) (dfs_whole hbs hd)⟩
end
end One
end P_E4

section P_E5
set_option linter.all false
set_option maxRecDepth 100000
set_option maxHeartbeats 4000000
namespace One
open PySem PySem.Spec PyProof.Rows L2
/-! ### enumerate of a tuple -/
theorem enum_newT (tt : Addr) (xs : Array Value) (sz : Nat) (dc : Option Addr) (sl : Array (Option Value)) :
    Meets (Builtin.«enumerate.__new__» ⟨[.type "enumerate", .ref tt], []⟩) (fun _ R s => s.heap.get? tt = some ⟨.type "tuple", dc, .seq xs sz, sl⟩ ∧
      R (.ok (.ret (.ref (s.heap.push { cls := .type "tuple_iterator", data := .fields #[.ref tt, .int 0 0] }).objs.size)))
        { s with heap := (s.heap.push { cls := .type "tuple_iterator", data := .fields #[.ref tt, .int 0 0] }).push { cls := .type "enumerate", data := .fields #[.none, .bool false, .ref s.heap.objs.size, rawInt 0, .none, .none] } }) :=
  .of_wp fun prog w A R s q => by
    obtain ⟨hp, g, d, tk, os⟩ := s
    obtain ⟨hl, q⟩ := q
    have su := sub_enumerate
    have hT : Heap.IsTuple (Shared.heap ⟨hp, g, d, tk, os⟩) tt xs := ⟨_, hl, rfl, sz, rfl⟩
    wp_walk using AutoSeq1.wpAny_loadPart' hl
    refine wpAny_stack_any fun stk => wpAny_pure ?_
    split
    · rename_i cl _ _ _ _ _
      cases (cl == Value.type "enumerate") <;> (wp_walk using AutoSeq1.wpAny_loadPart' hl, wpAny_pyIter_tuple hT; exact ⟨_, rfl, q⟩)
    · wp_walk using AutoSeq1.wpAny_loadPart' hl, wpAny_pyIter_tuple hT
      exact ⟨_, rfl, q⟩
section
variable {prog : Program} {w : World} {A : Around} {E : Value → Shared → Prop} {s : Shared}
theorem call_enumT {tt : Addr} {xs : Array Value} {Q : Value → Shared → Prop} (hL : s.heap.IsTuple tt xs)
    (k : ∀ g, IsEnum g (s.heap.objs.size + 1) s.heap.objs.size 0 .none → g.IsTupleIter s.heap.objs.size tt 0 → (∀ b o, s.heap.get? b = some o → g.get? b = some o) → Q (.ref (s.heap.objs.size + 1)) { s with heap := g }) :
    wpAny (model prog w) A (call (.type "enumerate") [.ref tt]) Q E s := by
  obtain ⟨⟨cl, dc, da, sl⟩, hl, hcl, sz, hda⟩ := hL
  dsimp only at hcl hda
  subst hcl hda
  refine callType_new F.called_enumerate (by decide) (F.typeCall_enumerate_1 _) (F.newCall_enumerate_1 _) (fun ob => F.args_object_init_2 ob _) F.entry_enumerate_new (enum_newT tt xs sz dc sl) ⟨hl, ?_⟩
  have e1 : (s.heap.push { cls := .type "tuple_iterator", data := .fields #[.ref tt, .int 0 0] }).objs.size = s.heap.objs.size + 1 := Heap.size_push ..
  show _ ∧ _
  rw [e1]
  have e2 : IsEnum ((s.heap.push { cls := .type "tuple_iterator", data := .fields #[.ref tt, .int 0 0] }).push { cls := .type "enumerate", data := .fields #[.none, .bool false, .ref s.heap.objs.size, rawInt 0, .none, .none] }) (s.heap.objs.size + 1) s.heap.objs.size 0 .none := by
    have z := Heap.get?_push_size (s.heap.push { cls := .type "tuple_iterator", data := .fields #[.ref tt, .int 0 0] }) (o := { cls := .type "enumerate", data := .fields #[.none, .bool false, .ref s.heap.objs.size, rawInt 0, .none, .none] }) rfl
    rw [e1] at z
    exact z
  exact ⟨⟨_, e2, rfl⟩, k _ e2 ⟨_, Heap.get?_push_of_some _ (Heap.get?_push_size _ rfl), rfl, rfl⟩ fun b o x => Heap.get?_push_of_some _ (Heap.get?_push_of_some _ x)⟩
end
/-- the tuple at a, each item in a new pair with its number -/
def IteT (K : PySem.W.Frag) (a : Addr) : It :=
  ⟨fun i H => ∃ (xs : List V) (x : V), SqT K H a xs ∧ xs[i]? = some x, fun i H v H' => ∃ T x, v = .ref T ∧ H T = none ∧ H' = upd H T (.tup [.int (i : Nat), x]) ∧ ∀ xs, SqT K H a xs → xs[i]? = some x, fun i H => ∃ xs : List V, SqT K H a xs ∧ xs.length ≤ i⟩
theorem turn_enumT {P : Program} {w : World} {K : PySem.W.Frag} {elts : List Expr} {kk : Nat} {tpos : Pos} (a e it : Addr) (hat : a ≠ it) (hae : a ≠ e) :
    Turn P w K (.Tuple elts kk tpos) (IteT K a) [e, it] e (fun i h => (∃ old, IsEnum h e it ((i : Nat) : Int) old) ∧ h.IsTupleIter it a i ∧ e ≠ it) where
  mem := List.mem_cons_self
  obj := fun i h st b hb => by
    obtain ⟨⟨old, he⟩, ⟨o, ho, _, hd⟩, _⟩ := st
    rcases List.mem_cons.mp hb with z | z
    · rw [z]
      exact ⟨_, he, fun v q => nomatch q⟩
    · exact ⟨o, by rw [List.mem_singleton.mp z]; exact ho, fun v q => by rw [hd] at q; cases q⟩
  keep := fun i h h' ⟨⟨old, he⟩, hi, hne⟩ k => ⟨⟨old, k e (by simp) _ he⟩, hi.at fun o e => k it (by simp) o e, hne⟩
  item := by
    intro X e1 e2 e3 hc i pins s σ H E I hf ⟨⟨old, he⟩, hit, hne⟩ ⟨xs, x, hq, hx⟩
    subst e1 e2 e3
    obtain ⟨its, rv, p, hz⟩ := I.tuple hq
    obtain ⟨u, hu, ru⟩ := rv.get hx
    have hel : e < s.heap.objs.size := Heap.lt_size he
    have hil : it < s.heap.objs.size := by
      obtain ⟨_, q, _⟩ := hit
      exact Heap.lt_size q
    have p' : s.heap.IsTuple a its.toArray := p
    have hlt : i < its.toArray.size := by
      rw [List.size_toArray]
      exact (List.getElem?_eq_some_iff.mp hu).1
    refine wpAny_pyNext_enum_itemD (fp := [it, a]) (Draws.tuple (A := X.A.in1) (show X.A.in1.handled = none from I.ok.hd hc) it a hat its.toArray) he ⟨hit, p'⟩ hlt hne (by simp [hne, Ne.symm hae]) fun x2 g tk hx2 ho hst hT hsz hk => ?_
    have ex : x2 = u := by
      have z : its.toArray[i]? = some x2 := hx2
      rw [List.getElem?_toArray, hu] at z
      exact (Option.some.inj z).symm
    subst ex
    refine ⟨_, rfl, wpAny_letOwnedTupleGo_enum (s := { s with heap := g, toks := tk + 1 }) ho fun g2 he2 sb => ?_⟩
    have hT2 : g2.get? s.heap.objs.size = some { cls := .type "tuple", data := .seq #[.int i tk, x2] } := (sb.2 _ (Nat.ne_of_gt hel)).trans hT
    have made : ObjOk X.prog X.w (upd H s.heap.objs.size (.tup [.int (i : Nat), x])) g2 s.heap.objs.size (.tup [.int (i : Nat), x]) :=
      ⟨two_le, [.int i tk, x2], .cons ⟨_, rfl⟩ (.cons ru .nil), ⟨_, hT2, rfl, _, rfl⟩⟩
    have I1 : Inv X pins σ (upd H s.heap.objs.size (.tup [.int (i : Nat), x])) { s with heap := g2, toks := tk + 1 } :=
      I.turnedNew (ch := [e, it]) (fun b ob hb q => (sb.2 b fun z => hb (by rw [z]; exact List.mem_cons_self)).trans (hk b ob (fun z => hb (by rw [z]; exact List.mem_cons_self)) (fun z => hb (by rw [z]; simp)) q)) hf (Nat.le_refl _) made
    have e0 : ((i + 1 : Nat) : Int) = (i : Int) + 1 := by omega
    refine ⟨.ref s.heap.objs.size, _, I1, rfl, ⟨_, x, rfl, I.hok.fresh (Nat.le_refl _), rfl, fun ys hy => by rw [I.tuple_inj hy hq]; exact hx⟩, ⟨⟨x2, by rw [e0]; exact he2⟩, hst.1.at fun o q => (sb.2 it (Ne.symm hne)).trans q, hne⟩, fun b hb => ?_⟩
    have lt : b < s.heap.objs.size := by
      rcases List.mem_cons.mp hb with z | z
      · rw [z]
        exact hel
      · rw [List.mem_singleton.mp z]
        exact hil
    exact (upd_ne (Nat.ne_of_lt lt)).trans (hf b hb).1
  done := by
    intro X e1 e2 e3 hc i pins s σ H E I hf ⟨⟨old, he⟩, hit, hne⟩ ⟨xs, hq, hx⟩
    subst e1 e2 e3
    obtain ⟨its, rv, p, hz⟩ := I.tuple hq
    obtain ⟨f0, f1, f2, f3, f4, f5⟩ := hf it (by simp)
    have hn : its.toArray.size ≤ i := by
      rw [List.size_toArray, ← rv.length]
      exact hx
    unfold pyNext
    have hT : s.TypeIs (.ref e) "enumerate" := ⟨_, he, rfl⟩
    refine wpAny_bind (wpAny_attempt (wpAny_callSpecial?_slot (name := Str.ofString "__next__") hT F.slot_enumerate_next (wpAny_call_entry F.slot_enumerate_next hT F.entry_enumerate_next ?_ (F.args_enumerate_next_1 _))))
    show wpAny _ _ (field (.ref e) 2 >>= _) _ _ _
    refine wpAny_bind (wpAny_field he rfl (x := .ref it) rfl (wpAny_bind (wpAny_nextOf_tuple_end (I.ok.hd hc) hit (show s.heap.IsTuple a its.toArray from p) (Array.getElem?_eq_none hn) fun g x hg ⟨o, ho, hco⟩ => ?_)))
    exact wpAny_bind (wpAny_isInstance (T := "StopIteration") (b := true) ⟨o, ho, hco⟩ isSubtype_stop (wpAny_pure ⟨rfl, I.turned (t' := s.toks) (fun b o hb e => hg b o hb e) f0 f1 f3 f4 f5⟩))
  self := fun A i s Q E ⟨⟨_, he⟩, _⟩ q => wpAny_pyIter_enum he q
def iEnumT (K : PySem.W.Frag) (ta : TA) : TI := fun σ H R => ta σ H fun vs H1 => ∃ a xs, vs = [.ref a] ∧ SqT K H1 a xs ∧ R (IteT K a) H1
theorem pi_enumT {X : Cx} {e : Expr} {ta : TA} {p pos tpos : Pos} {elts : List Expr} {kk : Nat} (hg : Gl X "enumerate") (hm : X.mg "enumerate" = none) (ha : PA X [e] ta) (hs : starEach [e] X.env = [(false, eval e X.env)] := by rfl) :
    PI X (.Tuple elts kk tpos) (.Call (.Name "enumerate" p) [e] [] pos) (iEnumT X.K ta) := by
  refine ⟨fun pins s σ H R I q0 => Call_ (ld_blt I hg hm boot_enumerate (PyProof.Rows.callWith_type1 (thn (ha.run pos pins s σ H _ I q0) fun us s1 ⟨vs, H1, I1, r1, a, xs, ex, hq, q⟩ => ?_) hs rfl))⟩
  subst ex
  cases r1 with
  | cons r rr =>
    cases rr
    cases r
    obtain ⟨its, rv, p', hz⟩ := I1.tuple hq
    have hal : a < s1.heap.objs.size := by
      obtain ⟨o, ho, _⟩ := p'
      exact Heap.lt_size ho
    refine call_enumT (show s1.heap.IsTuple a its.toArray from p') fun g he hit hk => wpAny_pyIter_enum he ?_
    have I2 : Inv X pins σ H1 { s1 with heap := g } := I1.kept (t' := s1.toks) hk
    refine ⟨s1.heap.objs.size + 1, [s1.heap.objs.size + 1, s1.heap.objs.size], _, _, H1, rfl, I2, turn_enumT a (s1.heap.objs.size + 1) s1.heap.objs.size (Nat.ne_of_lt hal) (Nat.ne_of_lt (Nat.lt_succ_of_lt hal)), ⟨⟨.none, he⟩, hit, Nat.succ_ne_self _⟩, fun b hb => ?_, q⟩
    have le : s1.heap.objs.size ≤ b := by
      rcases List.mem_cons.mp hb with z | z
      · rw [z]
        exact Nat.le_add_right _ _
      · rw [List.mem_singleton.mp z]
        exact Nat.le_refl _
    exact I1.fpOk le (I1.hok.fresh le)
theorem walk_enumT {K : PySem.W.Frag} {a : Addr} {xs : List V} : Walk (IteT K a) xs.length (fun H => SqT K H a xs) (YPair (fun i => some (.int (i : Nat))) (fun i => xs[i]?)) := by
  refine ⟨fun i _ hi q => ⟨xs, xs[i], q, List.getElem?_eq_getElem hi⟩, fun _ q => ⟨xs, q, Nat.le_refl _⟩, fun i H v H' _ q ⟨T, x, h1, h2, h3, h4⟩ => ⟨T, .int (i : Nat), x, h1, h2, h3, rfl, h4 xs q⟩⟩
end One
end P_E5

section P_M4
set_option linter.all false
namespace One
/-! ### the look at a yard, line by line -/
def leB (p q : Nat × Nat) : Bool := decide (p.1 < q.1) || (decide (p.1 = q.1) && decide (p.2 ≤ q.2))
def notUp (p : Nat × Nat) : Option (Nat × Nat) → Bool
  | none => false
  | some q => leB p q
/-- the number of the first thing that can't be: none is what is no line -/
def goF : Nat → List Nat → Option (Nat × Nat) → List (Option (Nat × Nat)) → Option Nat
  | _, _, _, [] => none
  | k, _, _, none :: _ => some k
  | k, met, ah, some p :: r => if notUp p ah || met.contains p.1 || met.contains p.2 then some k else goF (k + 1) (met ++ [p.1, p.2]) (some p) r
theorem goF_pairs : ∀ (os : List (Option (Nat × Nat))) (k : Nat) (met : List Nat) (ah : Option (Nat × Nat)), goF k met ah os = none → os = (os.filterMap id).map some
  | [], _, _, _, _ => rfl
  | none :: r, k, met, ah, h => by cases h
  | some p :: r, k, met, ah, h => by
    unfold goF at h
    split at h
    · cases h
    · have := goF_pairs r _ _ _ h
      simp only [List.filterMap_cons, id, List.map_cons]
      rw [← this]
theorem goF_good : ∀ (ps : List (Nat × Nat)) (k : Nat) (met : List Nat) (ah : Option (Nat × Nat)), (∀ q, ah = some q → ∀ p ∈ ps, ltP q p) → ps.Pairwise ltP → (met ++ ends ps).Nodup → goF k met ah (ps.map some) = none
  | [], _, _, _, _, _, _ => rfl
  | p :: r, k, met, ah, h1, h2, h3 => by
    obtain ⟨hp, hr⟩ := List.pairwise_cons.mp h2
    have h3 : (met ++ (p.1 :: p.2 :: ends r)).Nodup := h3
    have n1 : ¬ p.1 ∈ met := fun m => (List.nodup_append.mp h3).2.2 _ m p.1 (by simp) rfl
    have n2 : ¬ p.2 ∈ met := fun m => (List.nodup_append.mp h3).2.2 _ m p.2 (by simp) rfl
    have up : notUp p ah = false := by
      cases e : ah with
      | none => rfl
      | some q =>
        have := h1 q e p (List.mem_cons.mpr (.inl rfl))
        unfold ltP at this
        unfold notUp leB
        simp only [Bool.or_eq_false_iff, Bool.and_eq_false_iff, decide_eq_false_iff_not]
        omega
    show (if notUp p ah || met.contains p.1 || met.contains p.2 then some k else goF (k + 1) (met ++ [p.1, p.2]) (some p) (r.map some)) = none
    rw [if_neg (by simp [up, n1, n2])]
    refine goF_good r _ _ _ (fun q e x hx => ?_) hr ?_
    · cases e
      exact hp x hx
    · rw [List.append_assoc]
      exact h3
theorem yard_good {n : Nat} {L : List (Nat × Nat)} (y : Yard n L) : goF 0 [] none (L.map some) = none := goF_good L 0 [] none (fun _ e => by cases e) y.up (by simpa using y.lines.nd)
end One
end P_M4

section P_E6
set_option linter.all false
set_option maxRecDepth 100000
set_option maxHeartbeats 8000000
namespace One
open PySem PySem.Spec PyProof.Rows L2
abbrev sFault : Stmt := top 31
abbrev nFault : List Str := ["thing", "many_ends", "taken", "ahead", "number", "line"]
theorem scFault : FnScope nFault ["thing"] (defScope sFault) := ⟨rfl, rfl, rfl, by decide +kernel, rfl, by decide +kernel, by decide +kernel⟩
/-- things that stand in a tuple, and what lines they are -/
inductive IL (H : Hp) (n : Nat) : List V → List (Option (Nat × Nat)) → Prop
  | nil : IL H n [] []
  | line {a p xs os} : PAt H a p → p.1 < p.2 → p.2 < n → IL H n xs os → IL H n (.ref a :: xs) (some p :: os)
  | flat {x T xs os} : TV H x T → isTup T = false → IL H n xs os → IL H n (x :: xs) (none :: os)
  | tup {a ys xs os} : H a = some (.tup ys) → (∀ y ∈ ys, ∃ T, TV H y T) → lineB ys n = false → IL H n xs os → IL H n (.ref a :: xs) (none :: os)
theorem IL.len {H : Hp} {n : Nat} {xs : List V} {os : List (Option (Nat × Nat))} (h : IL H n xs os) : xs.length = os.length := by
  induction h with
  | nil => rfl
  | line _ _ _ _ ih => simp [ih]
  | flat _ _ _ ih => simp [ih]
  | tup _ _ _ _ ih => simp [ih]
theorem IL.pairs {H : Hp} {n : Nat} : ∀ {ps : List (Nat × Nat)} {xs : List V}, IL H n xs (ps.map some) → ∃ as, xs = refs as ∧ PL H as ps ∧ ∀ p ∈ ps, p.1 < p.2 ∧ p.2 < n
  | [], _, .nil => ⟨[], rfl, .nil, fun p h => absurd h (by simp)⟩
  | p :: r, _, .line h1 h2 h3 t => by
    obtain ⟨as, e, h4, h5⟩ := IL.pairs t
    exact ⟨_ :: as, by rw [e]; rfl, .cons h1 h4, fun q hq => (List.mem_cons.mp hq).elim (fun e => e ▸ ⟨h2, h3⟩) (h5 q)⟩
theorem TV.mono {H H' : Hp} {v : V} {T : String} (h : TV H v T) (k : Same H H') : TV H' v T := by
  cases h with
  | non => exact .non
  | bl b => exact .bl b
  | int i => exact .int i
  | str x => exact .str x
  | tup e => exact .tup (k _ _ e)
  | lst e => exact .lst (k _ _ e)
  | dct e => exact .dct (k _ _ e)
theorem IL.mono {H H' : Hp} {n : Nat} {xs : List V} {os : List (Option (Nat × Nat))} (h : IL H n xs os) (k : Same H H') : IL H' n xs os := by
  induction h with
  | nil => exact .nil
  | line h1 h2 h3 _ ih => exact .line (k _ _ h1) h2 h3 ih
  | flat h1 h2 _ ih => exact .flat (h1.mono k) h2 ih
  | tup h1 h2 h3 _ ih => exact .tup (k _ _ h1) (fun y m => let ⟨T, t⟩ := h2 y m; ⟨T, t.mono k⟩) h3 ih
theorem IL.split {H : Hp} {n : Nat} {xs : List V} {os : List (Option (Nat × Nat))} (h : IL H n xs os) : ∀ {i : Nat} {x : V}, xs[i]? = some x → ∃ o, os[i]? = some o ∧ IL H n [x] [o] := by
  induction h with
  | nil => intro i x e; simp at e
  | line h1 h2 h3 _ ih =>
    intro i x e
    cases i with
    | zero =>
      have e := Option.some.inj e
      subst e
      exact ⟨_, rfl, .line h1 h2 h3 .nil⟩
    | succ i => exact ih (i := i) (by simpa using e)
  | flat h1 h2 _ ih =>
    intro i x e
    cases i with
    | zero =>
      have e := Option.some.inj e
      subst e
      exact ⟨_, rfl, .flat h1 h2 .nil⟩
    | succ i => exact ih (i := i) (by simpa using e)
  | tup h1 h2 h3 _ ih =>
    intro i x e
    cases i with
    | zero =>
      have e := Option.some.inj e
      subst e
      exact ⟨_, rfl, .tup h1 h2 h3 .nil⟩
    | succ i => exact ih (i := i) (by simpa using e)
/-- the line that stood ahead -/
def AheadAt (H : Hp) (a : Addr) : Option (Nat × Nat) → Prop
  | none => H a = some (.tup [])
  | some q => PAt H a q
theorem le_none (p : Nat × Nat) : Ob.lexAt (fun j => decide (([(p.1 : Int), (p.2 : Int)] : List Int).getD j 0 = ([] : List Int).getD j 0)) (fun j => decide (([(p.1 : Int), (p.2 : Int)] : List Int).getD j 0 ≤ ([] : List Int).getD j 0)) (decide (([(p.1 : Int), (p.2 : Int)] : List Int).length ≤ ([] : List Int).length)) 0 (min ([(p.1 : Int), (p.2 : Int)] : List Int).length ([] : List Int).length) = false := rfl
theorem le_some (p q : Nat × Nat) : Ob.lexAt (fun j => decide (([(p.1 : Int), (p.2 : Int)] : List Int).getD j 0 = ([(q.1 : Int), (q.2 : Int)] : List Int).getD j 0)) (fun j => decide (([(p.1 : Int), (p.2 : Int)] : List Int).getD j 0 ≤ ([(q.1 : Int), (q.2 : Int)] : List Int).getD j 0)) (decide (([(p.1 : Int), (p.2 : Int)] : List Int).length ≤ ([(q.1 : Int), (q.2 : Int)] : List Int).length)) 0 (min ([(p.1 : Int), (p.2 : Int)] : List Int).length ([(q.1 : Int), (q.2 : Int)] : List Int).length) = leB p q := by
  show (if decide ((p.1 : Int) = (q.1 : Int)) = true then (if decide ((p.2 : Int) = (q.2 : Int)) = true then true else decide ((p.2 : Int) ≤ (q.2 : Int))) else decide ((p.1 : Int) ≤ (q.1 : Int))) = leB p q
  unfold leB
  rw [Bool.eq_iff_iff]
  simp only [decide_eq_true_eq, Bool.or_eq_true, Bool.and_eq_true]
  constructor
  · intro h
    split at h
    · split at h
      · omega
      · simp only [decide_eq_true_eq] at h
        omega
    · simp only [decide_eq_true_eq] at h
      omega
  · intro h
    split
    · split
      · rfl
      · simp only [decide_eq_true_eq]
        omega
    · simp only [decide_eq_true_eq]
      omega
def spFault : Sp := fun vs H Q _ => ∃ v : V, vs = [v] ∧
  (((∃ T, TV H v T ∧ isTup T = false) ∨ ∃ (t : Addr) (xs : List V), v = .ref t ∧ H t = some (.tup xs) ∧ canBe (xs.length : Nat) = false) ∧ (∀ (H' : Hp) (p : Addr), Same H H' → H' p = some (.tup []) → Q (.ref p) H') ∨
  ∃ (t : Addr) (xs : List V) (os : List (Option (Nat × Nat))), v = .ref t ∧ H t = some (.tup xs) ∧ canBe (xs.length : Nat) = true ∧ IL H (2 * xs.length) xs os ∧
    (∀ k, goF 0 [] none os = some k → ∀ (H' : Hp) (p : Addr), Same H H' → H' p = some (.tup [.int (k : Nat)]) → Q (.ref p) H') ∧
    (goF 0 [] none os = none → ∀ ps, os = ps.map some → (Whole (xs.length / 2) ps → ∀ H', Same H H' → Q .non H') ∧ (¬ Whole (xs.length / 2) ps → ∀ (H' : Hp) (p : Addr), Same H H' → H' p = some (.tup [.int (xs.length : Nat)]) → Q (.ref p) H')))
section
variable {P : Program} {w : World} {K : PySem.W.Frag} {mg : Str → Option Value} {base : Heap}
theorem ok_fault {f fB fL fW : Addr} {fd fdB fdL fdW : FuncData} (F : Fun K "yard_fault" "yard_fault" sFault f fd) (T : TB mg) (B : Cal K mg "can_be_many_lines" fB fdB ["many"]) (GB : FnOk P w K mg base CX0 1 fB fdB ["many"] spCanBe)
    (L : Cal K mg "is_line" fL fdL ["thing", "many_ends"]) (GL : FnOk P w K mg base CX0 3 fL fdL ["thing", "many_ends"] spIsLine) (W : Cal K mg "is_whole" fW fdW ["lines"]) (GW : FnOk P w K mg base CX0 2 fW fdW ["lines"] spIsWhole) :
    FnOk P w K mg base CX0 4 f fd ["thing"] spFault := by
  refine F.ok scFault (fun vs H Q E h => ?_) (fun cdv A outer s H vs Q E hr h => ?_)
  · obtain ⟨v, rfl, _⟩ := h
    rfl
  · obtain ⟨v, rfl, h⟩ := h
    have nd := scFault.nd
    have hu := hu_of hr
    have hu0 : (A.deeper (envOfC "yard_fault" (defScope sFault) s.heap.objs.size f cdv)).units < cLine := Nat.lt_of_succ_lt hu
    have hr1 : Room 1 _ := hr.mono (by decide)
    have hrW : Room 2 _ := hr.mono (by decide)
    refine ⟨_, pss_cons (ps_if (pt_mid (PW.pt (pw_or (pt_not (pt_val (pe_callB call_isi (by rfl) T.isinstance boot_isinstance (pa_cons (pv 0) (pa_cons (pe_bltn (v := .ty "tuple") (by rfl) T.tuple boot_tuple rfl) pa_nil)))))
        (pw_or1 (pt_not (pt_val (pe_call GB hr1 rfl B.g B.kp B.b .nil pass0 (pa_cons (pe_callB call_len_seq (by rfl) T.len PySem.boot_len (pa_cons (pv 0) pa_nil)) pa_nil)))))))) (pss_one (ps_ret (pe_tup pa_nil))) pss_nil)
      (pss_cons (ps_set (i := 1) nd rfl (Or.inl rfl) (pe_op op_mul pe_int (pe_callB call_len_seq (by rfl) T.len PySem.boot_len (pa_cons (pv 0) pa_nil))))
      (pss_cons (ps_set (i := 2) nd rfl (Or.inl rfl) (pe_op op_rep (pe_lst (pa_cons pe_bl pa_nil)) (pv 1)))
      (pss_cons (ps_set (i := 3) nd rfl (Or.inl rfl) (pe_tup pa_nil))
      (pss_cons (ps_for PassesOwn.never rfl (pi_enumT (by rfl) T.enumerate (pa_cons (pv 0) pa_nil)) (pg_tup rfl (pgs_cons (pg_name (i := 4) nd rfl (Or.inl rfl)) (pgs_cons (pg_name (i := 5) nd rfl (Or.inl rfl)) pgs_nil)))
        (pss_cons (ps_if (pt_mid (PW.pt (pw_or (pt_not (pt_val (pe_call GL hr rfl L.g L.kp L.b .nil pass0 (pa_cons (pv 5) (pa_cons (pv 1) pa_nil)))))
            (pw_or (pt_cmpR (op_leT hu0) (pv 5) (pv 3) (nomark _)) (pw_or (pt_val (pe_ix ix_list (pv 2) (pe_ix ix_tup (pv 5) pe_int (fun _ _ => rfl)) (fun _ _ => rfl))) (pw_or1 (pt_val (pe_ix ix_list (pv 2) (pe_ix ix_tup (pv 5) pe_int (fun _ _ => rfl)) (fun _ _ => rfl)))))))))
            (pss_one (ps_ret (pe_tup (pa_cons (pv 4) pa_nil)))) pss_nil)
        (pss_cons (ps_asg2 pe_bl (pg_sub (pv 2) (pe_ix ix_tup (pv 5) pe_int (fun _ _ => rfl)) set_list) (pg_sub (pv 2) (pe_ix ix_tup (pv 5) pe_int (fun _ _ => rfl)) set_list))
        (pss_one (ps_set (i := 3) nd rfl (Or.inl rfl) (pv 5))))))
      (pss_one (ps_ret (pe_ifExp (pt_val (pe_call GW hrW rfl W.g W.kp W.b .nil pass0 (pa_cons (pv 0) pa_nil))) pe_non (pe_tup (pa_cons (pe_callB call_len_seq (by rfl) T.len PySem.boot_len (pa_cons (pv 0) pa_nil)) pa_nil))))))))), ?_⟩
    rcases h with ⟨h, k⟩ | ⟨t, xs, os, rfl, ht, hc, hI, k1, k2⟩
    · refine ⟨fun b H' => b = true ∧ Same H H', ?_, ?_⟩
      · rcases h with ⟨ty, hv, hT⟩ | ⟨t, xs, rfl, ht, hc⟩
        · refine ⟨_, rfl, v, _, _, _, _, rfl, .ty _, hv.tyx, hv.kTup, _, rfl, ?_⟩
          rw [hT]
          exact iteT ⟨rfl, Same.refl H⟩
        · refine ⟨_, rfl, _, _, _, _, _, rfl, .ty _, (TV.tup ht).tyx, (TV.tup ht).kTup, _, rfl, ?_⟩
          refine iteF ⟨_, rfl, t, _, rfl, .inr (SqT.of ht), _, rfl, fun H' s' => ⟨_, rfl, ?_⟩⟩
          rw [hc]
          exact ⟨rfl, s'⟩
      · rintro b H' ⟨rfl, s'⟩
        exact iteT ⟨Nat.zero_le _, fun p hp => k _ p (s'.trans (Same.new hp)) upd_same⟩
    · have hcb : 2 ≤ xs.length ∧ xs.length ≤ 80 ∧ xs.length % 2 = 0 := by
        unfold canBe at hc
        simp only [Bool.and_eq_true, decide_eq_true_eq] at hc
        omega
      refine ⟨fun b H' => b = false ∧ Same H H', ?_, ?_⟩
      · refine ⟨_, rfl, _, _, _, _, _, rfl, .ty _, (TV.tup ht).tyx, (TV.tup ht).kTup, _, rfl, ?_⟩
        refine iteF ⟨_, rfl, t, _, rfl, .inr (SqT.of ht), _, rfl, fun H' s' => ⟨_, rfl, ?_⟩⟩
        rw [hc]
        exact ⟨rfl, s'⟩
      · rintro b H1 ⟨rfl, s1⟩
        have ht1 := s1 _ _ ht
        have e2 : (2 : Int) * (xs.length : Nat) = ((2 * xs.length : Nat) : Int) := by omega
        refine iteF ⟨_, rfl, t, _, rfl, .inr (SqT.of ht1), _, _, rfl, rfl, .inl ⟨by decide, by decide⟩, ?_⟩
        refine ⟨by show 1 ≤ sizeLine; decide, fun l1 hl1 => ⟨_, rfl, l1, ((2 * xs.length : Nat) : Int), _, rfl, (by show V.int ((2 : Int) * (xs.length : Nat)) = _; rw [e2]), upd_same, by omega, by omega, (by show 1 * _ ≤ _; exact Nat.le_of_lt (small1000 (by omega))), fun tk htk => ?_⟩⟩
        have eR : (List.replicate ((2 * xs.length : Nat) : Int).toNat [V.bl false]).flatten = (List.replicate (2 * xs.length) false).map V.bl := by
          rw [show ((2 * xs.length : Nat) : Int).toNat = 2 * xs.length by omega, List.map_replicate]
          exact flat_rep _ _
        have s2 := Same.new (o := .lst [V.bl false]) hl1
        have s3 := Same.new (o := .lst (List.replicate ((2 * xs.length : Nat) : Int).toNat [V.bl false]).flatten) htk
        refine ⟨Nat.zero_le _, fun a0 ha0 => ?_⟩
        have s4 := Same.new (o := .tup []) ha0
        have sA := s1.trans (s2.trans (s3.trans s4))
        have htk0 : H tk = none := (s1.trans s2).free htk
        have ntk : ∀ b o, H b = some o → b ≠ tk := fun b o e => ne_of_none e htk0
        refine ⟨_, rfl, t, _, rfl, SqT.of (sA _ _ ht), for_it (walk_enumT (K := K) (a := t) (xs := xs)) (fun i σ H2 => ∃ (ah : Addr) (bs : List Bool) (met : List Nat) (o : Option (Nat × Nat)) (v4 v5 : Option V),
            σ = [some (.ref t), some (.int ((2 : Int) * (xs.length : Nat))), some (.ref tk), some (.ref ah), v4, v5] ∧ Same H H2 ∧ H2 tk = some (.lst (bs.map V.bl)) ∧ bs.length = 2 * xs.length ∧ (∀ e, e < 2 * xs.length → bs[e]? = some (met.contains e)) ∧ AheadAt H2 ah o ∧ goF i met o (os.drop i) = goF 0 [] none os)
          ⟨a0, List.replicate (2 * xs.length) false, [], none, none, none, rfl, sA, ?_, List.length_replicate, fun e he => by rw [List.getElem?_replicate, if_pos he]; rfl, upd_same, rfl⟩ (fun i σ H2 _ ⟨_, _, _, _, _, _, _, s', _⟩ => SqT.of (s' _ _ ht)) ?_ ?_⟩
        · rw [← eR]
          exact s4 _ _ upd_same
        · rintro i x σ H2 H3 hi ⟨ah, bs, met, o, v4, v5, rfl, s5, htk2, hbl, hbs, hah, hgo⟩ ⟨T, x', y', rfl, hT, rfl, ex, ey⟩
          cases ex
          have s6 := Same.new (o := .tup [V.int (i : Nat), y']) hT
          obtain ⟨oi, hoi, hI1⟩ := hI.split ey
          have hdrop : os.drop i = oi :: os.drop (i + 1) := by
            obtain ⟨hlt, e⟩ := List.getElem?_eq_some_iff.mp hoi
            rw [List.drop_eq_getElem_cons hlt, e]
          rw [hdrop] at hgo
          refine ⟨T, _, rfl, SqT.of upd_same, rfl, _, _, rfl, _, _, rfl, rfl, ?_⟩
          have htk3 := s6 _ _ htk2
          have nn : ((2 : Int) * (xs.length : Nat)) = ((2 * xs.length : Nat) : Int) := e2
          have bad : goF i met o (oi :: os.drop (i + 1)) = some i → ∀ (H4 : Hp), Same H H4 → tRet (tTup (tCons (tVar 4) tNil)) { nx := fun _ H' => Q .non H', rt := Q } [some (.ref t), some (.int ((2 : Int) * (xs.length : Nat))), some (.ref tk), some (.ref ah), some (.int (i : Nat)), some y'] H4 := by
            intro hb H4 s7
            refine ⟨_, rfl, by show 1 ≤ sizeLine; decide, fun p hp => ?_⟩
            exact k1 i (hgo.symm.trans hb) _ p (s7.trans (Same.new hp)) upd_same
          have hI3 := (hI1.mono s5).mono s6
          cases oi with
          | none =>
            refine ⟨fun b H4 => b = true ∧ Same (upd H2 T (.tup [V.int (i : Nat), y'])) H4, ?_, ?_⟩
            · have key : ∀ Q' : Bool → Hp → Prop, Q' false (upd H2 T (.tup [V.int (i : Nat), y'])) → spIsLine [y', .int ((2 : Int) * (xs.length : Nat))] (upd H2 T (.tup [V.int (i : Nat), y'])) (fun v H' => ∃ c, v = .bl c ∧ Q' c H') E0 := by
                intro Q' q
                cases hI3 with
                | flat h1 h2 _ => exact ⟨_, _, rfl, .inl ⟨_, h1, h2, false, rfl, q⟩⟩
                | tup h1 h2 h3 _ =>
                  refine ⟨_, _, rfl, .inr ⟨_, _, rfl, h1, h2, false, ?_, q⟩⟩
                  rw [nn, h3]
              refine ⟨_, rfl, _, rfl, ?_⟩
              exact key _ (iteT ⟨rfl, Same.refl _⟩)
            · rintro b H4 ⟨rfl, s7⟩
              exact iteT (bad rfl H4 (s5.trans (s6.trans s7)))
          | some p =>
            cases hI3 with
            | @line a _ _ _ pa hlt hn _ =>
              have q1 : p.1 < 2 * xs.length := by omega
              have g1 := hbs p.1 q1
              have g2 := hbs p.2 hn
              have at1 : atI (bs.map V.bl) ((p.1 : Nat) : Int) = some (V.bl (met.contains p.1)) := at_of (j := p.1) rfl (by rw [List.getElem?_map, g1]; rfl)
              have at2 : atI (bs.map V.bl) ((p.2 : Nat) : Int) = some (V.bl (met.contains p.2)) := at_of (j := p.2) rfl (by rw [List.getElem?_map, g2]; rfl)
              refine ⟨fun b H4 => b = (notUp p o || met.contains p.1 || met.contains p.2) ∧ H4 = upd H2 T (.tup [V.int (i : Nat), V.ref a]), ?_, ?_⟩
              · have hline : lineB [V.int (p.1 : Nat), V.int (p.2 : Nat)] ((2 : Int) * (xs.length : Nat)) = true := by
                  show (decide (0 ≤ ((p.1 : Nat) : Int)) && decide (((p.1 : Nat) : Int) < (2 : Int) * (xs.length : Nat)) && (decide (0 ≤ ((p.2 : Nat) : Int)) && decide (((p.2 : Nat) : Int) < (2 : Int) * (xs.length : Nat))) && decide (((p.1 : Nat) : Int) < ((p.2 : Nat) : Int))) = true
                  simp only [Bool.and_eq_true, decide_eq_true_eq]
                  omega
                refine ⟨_, rfl, _, rfl, _, _, rfl, .inr ⟨a, _, rfl, pa, fun y hy => ?_, _, rfl, ?_⟩⟩
                · simp only [List.mem_cons, List.not_mem_nil, or_false] at hy
                  rcases hy with rfl | rfl <;> exact ⟨_, .int _⟩
                rw [hline]
                refine iteF ⟨_, rfl, _, rfl, a, ah, [(p.1 : Int), (p.2 : Int)], (match o with | none => [] | some q => [(q.1 : Int), (q.2 : Int)]), rfl, rfl, SqT.of pa, ?_, _, rfl, ?_⟩
                · cases o with
                  | none => exact SqT.of (s6 _ _ hah)
                  | some q => exact SqT.of (s6 _ _ hah)
                have ele : ∀ (R : Bool → Prop), R (notUp p o) → R (Ob.lexAt (fun j => decide (([(p.1 : Int), (p.2 : Int)] : List Int).getD j 0 = ((match o with | none => [] | some q => [(q.1 : Int), (q.2 : Int)]) : List Int).getD j 0)) (fun j => decide (([(p.1 : Int), (p.2 : Int)] : List Int).getD j 0 ≤ ((match o with | none => [] | some q => [(q.1 : Int), (q.2 : Int)]) : List Int).getD j 0)) (decide (([(p.1 : Int), (p.2 : Int)] : List Int).length ≤ ((match o with | none => [] | some q => [(q.1 : Int), (q.2 : Int)]) : List Int).length)) 0 (min ([(p.1 : Int), (p.2 : Int)] : List Int).length ((match o with | none => [] | some q => [(q.1 : Int), (q.2 : Int)]) : List Int).length)) := by
                  intro R r
                  cases o with
                  | none => exact r
                  | some q =>
                    have := le_some p q
                    rw [this]
                    exact r
                refine ele (fun c => if c = true then _ else _) ?_
                refine ite2 (fun hu => ?_) (fun hu => ?_)
                · exact ⟨by rw [hu]; rfl, rfl⟩
                · have hu := Bool.eq_false_iff.mpr hu
                  refine ⟨_, rfl, _, rfl, a, _, _, _, rfl, rfl, SqT.of pa, rfl, tk, _, _, _, rfl, rfl, SqL.of htk3, at1, _, rfl, ?_⟩
                  refine ite2 (fun h1 => ?_) (fun h1 => ?_)
                  · exact ⟨by rw [hu, h1]; rfl, rfl⟩
                  · have h1 := Bool.eq_false_iff.mpr h1
                    refine ⟨_, rfl, _, rfl, a, _, _, _, rfl, rfl, SqT.of pa, rfl, tk, _, _, _, rfl, rfl, SqL.of htk3, at2, _, rfl, ?_, rfl⟩
                    rw [hu, h1]
                    rfl
              · rintro b H4 ⟨rfl, rfl⟩
                refine ite2 (fun hb => ?_) (fun hb => ?_)
                · refine bad ?_ _ (s5.trans s6)
                  show (if (notUp p o || met.contains p.1 || met.contains p.2) = true then some i else _) = some i
                  rw [if_pos hb]
                · have hgo2 : goF (i + 1) (met ++ [p.1, p.2]) (some p) (os.drop (i + 1)) = goF 0 [] none os := by
                    rw [← hgo]
                    show _ = (if (notUp p o || met.contains p.1 || met.contains p.2) = true then some i else _)
                    rw [if_neg hb]
                  have setB : ∀ (r : List Bool) (j : Nat), (r.map V.bl).set j (V.bl true) = (r.set j true).map V.bl := fun r j => (List.map_set).symm
                  have ntt : tk ≠ T := ne_of_none htk2 hT
                  refine ⟨_, rfl, _, rfl, a, _, _, _, rfl, rfl, SqT.of pa, rfl, tk, _, _, p.1, rfl, rfl, htk3, ix_nat (by rw [List.length_map, hbl]; exact q1), ?_⟩
                  rw [setB]
                  have w1 : ∀ b u, H b = some u → (upd (upd H2 T (.tup [V.int (i : Nat), V.ref a])) tk (.lst ((bs.set p.1 true).map V.bl))) b = some u := fun b u e => (upd_ne (ntk _ _ e)).trans (s6 _ _ (s5 _ _ e))
                  have kt : ∀ b zs, (upd H2 T (.tup [V.int (i : Nat), V.ref a])) b = some (.tup zs) → b ≠ tk := fun b zs e => ne_of e htk3 (by intro z; cases z)
                  have pa4 : PAt (upd (upd H2 T (.tup [V.int (i : Nat), V.ref a])) tk (.lst ((bs.set p.1 true).map V.bl))) a p := (upd_ne (kt _ _ pa)).trans pa
                  refine ⟨_, rfl, _, rfl, a, _, _, _, rfl, rfl, SqT.of pa4, rfl, tk, _, _, p.2, rfl, rfl, upd_same, ix_nat (by rw [List.length_map, List.length_set, hbl]; exact hn), ?_⟩
                  rw [setB]
                  refine ⟨_, rfl, a, (bs.set p.1 true).set p.2 true, met ++ [p.1, p.2], some p, _, _, rfl, fun b u e => (upd_ne (ntk _ _ e)).trans (w1 b u e), upd_same, by rw [List.length_set, List.length_set]; exact hbl, fun e he => ?_, (upd_ne (kt _ _ pa)).trans pa4, hgo2⟩
                  have cm : (met ++ [p.1, p.2]).contains e = (met.contains e || decide (e = p.1) || decide (e = p.2)) := by
                    rw [Bool.eq_iff_iff]
                    simp [or_assoc]
                  rw [cm]
                  by_cases e2' : p.2 = e
                  · subst e2'
                    rw [List.getElem?_set_self (by rw [List.length_set, hbl]; exact he)]
                    simp
                  · rw [List.getElem?_set_ne e2']
                    by_cases e1' : p.1 = e
                    · subst e1'
                      rw [List.getElem?_set_self (by rw [hbl]; exact he)]
                      simp
                    · rw [List.getElem?_set_ne e1', hbs e he, decide_eq_false (fun z => e1' z.symm), decide_eq_false (fun z => e2' z.symm), Bool.or_false, Bool.or_false]
        · rintro σ H2 ⟨ah, bs, met, o, v4, v5, rfl, s5, htk2, hbl, hbs, hah, hgo⟩
          rw [hI.len, List.drop_length] at hgo
          have hno : goF 0 [] none os = none := hgo.symm
          have hos := goF_pairs os 0 [] none hno
          generalize os.filterMap id = ps at hos
          subst hos
          obtain ⟨k3, k4⟩ := k2 hno ps rfl
          obtain ⟨as, rfl, hP, hlt⟩ := hI.pairs
          have hla : as.length = ps.length := hP.len
          have nl : (refs as).length = as.length := List.length_map _
          refine ⟨_, rfl, t, (refs as).length / 2, as, ps, rfl, s5 _ _ ht, hP.mono (sameT s5), ⟨by omega, by omega, fun p hp => ?_⟩, by omega, fun H4 b s6 hb => ⟨b, rfl, ?_⟩⟩
          · have := hlt p hp
            omega
          cases b with
          | true => exact iteT (k3 (hb.mp rfl) _ (s5.trans s6))
          | false =>
            have ht4 := s6 _ _ (s5 _ _ ht)
            refine iteF ⟨_, rfl, t, _, rfl, .inr (SqT.of ht4), by show 1 ≤ sizeLine; decide, fun p hp => ?_⟩
            exact k4 (fun hw => by cases hb.mpr hw) _ p (s5.trans (s6.trans (Same.new hp))) upd_same
end
end One
end P_E6

section P_M5
set_option linter.all false
/-! Far ends; sewing the newest crossing out again. -/
namespace One
/-- strictly sorted lists with the same items are the same -/
theorem sorted_ext {α : Type} {lt : α → α → Prop} (irr : ∀ a, ¬ lt a a) (tr : ∀ a b c, lt a b → lt b c → lt a c) : ∀ {L M : List α}, L.Pairwise lt → M.Pairwise lt → (∀ x, x ∈ L ↔ x ∈ M) → L = M
  | [], [], _, _, _ => rfl
  | [], b :: M, _, _, h => absurd ((h b).mpr (List.mem_cons_self ..)) (by simp)
  | a :: L, [], _, _, h => absurd ((h a).mp (List.mem_cons_self ..)) (by simp)
  | a :: L, b :: M, hL, hM, h => by
    obtain ⟨h1, h2⟩ := List.pairwise_cons.mp hL
    obtain ⟨h3, h4⟩ := List.pairwise_cons.mp hM
    have e : a = b := by
      rcases List.mem_cons.mp ((h a).mp (List.mem_cons_self ..)) with e | m
      · exact e
      · rcases List.mem_cons.mp ((h b).mpr (List.mem_cons_self ..)) with e | m'
        · exact e.symm
        · exact absurd (tr _ _ _ (h1 b m') (h3 a m)) (irr a)
    subst e
    refine congrArg (a :: ·) (sorted_ext irr tr h2 h4 fun x => ⟨fun m => ?_, fun m => ?_⟩)
    · rcases List.mem_cons.mp ((h x).mp (List.mem_cons_of_mem _ m)) with e | m'
      · subst e
        exact absurd (h1 x m) (irr x)
      · exact m'
    · rcases List.mem_cons.mp ((h x).mpr (List.mem_cons_of_mem _ m)) with e | m'
      · subst e
        exact absurd (h3 x m) (irr x)
      · exact m'
theorem ltP_irr (a : Nat × Nat) : ¬ ltP a a := fun h => by
  unfold ltP at h
  omega
theorem ltP_tr (a b c : Nat × Nat) (h : ltP a b) (k : ltP b c) : ltP a c := by
  unfold ltP at *
  omega
theorem Yard.eq {n m : Nat} {L M : List (Nat × Nat)} (y : Yard n L) (z : Yard m M) (h : ∀ x, x ∈ L ↔ x ∈ M) : L = M := sorted_ext ltP_irr ltP_tr y.up z.up h
/-- the far end -/
def far : List (Nat × Nat) → Nat → Nat
  | [], _ => 0
  | p :: r, e => if e = p.1 then p.2 else if e = p.2 then p.1 else far r e
theorem far_out : ∀ {ps : List (Nat × Nat)} {e : Nat}, e ∉ ends ps → far ps e = 0
  | [], _, _ => rfl
  | p :: r, e, h => by
    have h : e ∉ p.1 :: p.2 :: ends r := h
    simp only [List.mem_cons, not_or] at h
    unfold far
    rw [if_neg h.1, if_neg h.2.1, far_out h.2.2]
theorem far_of : ∀ {ps : List (Nat × Nat)}, (ends ps).Nodup → ∀ {p : Nat × Nat}, p ∈ ps → far ps p.1 = p.2 ∧ far ps p.2 = p.1
  | q :: r, h, p, m => by
    have h : (q.1 :: q.2 :: ends r).Nodup := h
    obtain ⟨h1, h2⟩ := List.nodup_cons.mp h
    obtain ⟨h3, h4⟩ := List.nodup_cons.mp h2
    unfold far
    rcases List.mem_cons.mp m with e | m
    · subst e
      refine ⟨if_pos rfl, ?_⟩
      rw [if_neg (fun e => h1 (List.mem_cons.mpr (.inl e.symm))), if_pos rfl]
    · have m1 : p.1 ∈ ends r := mem_ends.mpr ⟨p, m, .inl rfl⟩
      have m2 : p.2 ∈ ends r := mem_ends.mpr ⟨p, m, .inr rfl⟩
      obtain ⟨i1, i2⟩ := far_of h4 m
      have n1 : p.1 ≠ q.1 := fun e => h1 (List.mem_cons.mpr (.inr (e ▸ m1)))
      have n2 : p.1 ≠ q.2 := fun e => h3 (e ▸ m1)
      have n3 : p.2 ≠ q.1 := fun e => h1 (List.mem_cons.mpr (.inr (e ▸ m2)))
      have n4 : p.2 ≠ q.2 := fun e => h3 (e ▸ m2)
      rw [if_neg n1, if_neg n2, if_neg n3, if_neg n4]
      exact ⟨i1, i2⟩
theorem far_line {ps : List (Nat × Nat)} (h : (ends ps).Nodup) {e : Nat} (m : e ∈ ends ps) : ((e, far ps e) ∈ ps ∨ (far ps e, e) ∈ ps) ∧ far ps (far ps e) = e := by
  obtain ⟨p, hp, z | z⟩ := mem_ends.mp m
  · obtain ⟨i1, i2⟩ := far_of h hp
    rw [z, i1, i2]
    exact ⟨.inl hp, rfl⟩
  · obtain ⟨i1, i2⟩ := far_of h hp
    rw [z, i2, i1]
    exact ⟨.inr hp, rfl⟩
theorem far_snoc {p : Nat × Nat} : ∀ {ps : List (Nat × Nat)}, (ends (ps ++ [p])).Nodup → ∀ e, far (ps ++ [p]) e = if e = p.1 then p.2 else if e = p.2 then p.1 else far ps e
  | ps, h, e => by
    have hp : p ∈ ps ++ [p] := List.mem_append_right _ (List.mem_cons_self ..)
    obtain ⟨i1, i2⟩ := far_of h hp
    by_cases e1 : e = p.1
    · rw [if_pos e1, e1, i1]
    · rw [if_neg e1]
      by_cases e2 : e = p.2
      · rw [if_pos e2, e2, i2]
      · rw [if_neg e2]
        have go : ∀ (l : List (Nat × Nat)), far (l ++ [p]) e = far l e := by
          intro l
          induction l with
          | nil =>
            show (if e = p.1 then p.2 else if e = p.2 then p.1 else far [] e) = far [] e
            rw [if_neg e1, if_neg e2]
          | cons q r ih =>
            show (if e = q.1 then q.2 else if e = q.2 then q.1 else far (r ++ [p]) e) = (if e = q.1 then q.2 else if e = q.2 then q.1 else far r e)
            rw [ih]
        exact go ps
theorem pigeon : ∀ (m : Nat) (l : List Nat), l.Nodup → (∀ x ∈ l, x < m) → l.length ≤ m
  | 0, [], _, _ => Nat.le_refl _
  | 0, a :: l, _, h => absurd (h a (List.mem_cons_self ..)) (by omega)
  | m + 1, l, nd, h => by
    by_cases hm : m ∈ l
    · have e := List.length_erase_of_mem hm
      have ih := pigeon m (l.erase m) (nd.erase m) fun x hx => by
        have q := (nd.mem_erase_iff).mp hx
        have := h x q.2
        have := q.1
        omega
      omega
    · have ih := pigeon m l nd fun x hx => by
        have := h x hx
        have : x ≠ m := fun e => hm (e ▸ hx)
        omega
      omega
/-- every end below 4n stands in lines of n crossings -/
theorem ends_full {n : Nat} {ps : List (Nat × Nat)} (L : Lines n ps) {e : Nat} (h : e < 4 * n) : e ∈ ends ps := by
  by_cases m : e ∈ ends ps
  · exact m
  · exfalso
    have hl : (ends ps).length = 4 * n := by rw [ends_length, L.len]; omega
    have nd : (e :: ends ps).Nodup := List.nodup_cons.mpr ⟨m, L.nd⟩
    have := pigeon (4 * n) (e :: ends ps) nd fun x hx => by
      rcases List.mem_cons.mp hx with z | z
      · rw [z]; exact h
      · exact L.lt x z
    rw [List.length_cons, hl] at this
    omega
theorem far_lt {n : Nat} {ps : List (Nat × Nat)} (L : Lines n ps) {e : Nat} (h : e < 4 * n) : far ps e < 4 * n := by
  obtain ⟨z | z, _⟩ := far_line L.nd (ends_full L h)
  · exact L.lt _ (mem_ends.mpr ⟨_, z, .inr rfl⟩)
  · exact L.lt _ (mem_ends.mpr ⟨_, z, .inl rfl⟩)
/-- the lines told from the far ends -/
def linesOf (F : Nat → Nat) (m : Nat) : List (Nat × Nat) := (List.range m).filterMap fun e => if e < F e then some (e, F e) else none
theorem linesOf_snoc (F : Nat → Nat) (m : Nat) : linesOf F (m + 1) = linesOf F m ++ (if m < F m then [(m, F m)] else []) := by
  unfold linesOf
  rw [List.range_succ, List.filterMap_append]
  by_cases h : m < F m
  · simp [h]
  · simp [h]
theorem linesOf_mem {F : Nat → Nat} {m : Nat} {p : Nat × Nat} : p ∈ linesOf F m ↔ p.1 < m ∧ F p.1 = p.2 ∧ p.1 < p.2 := by
  unfold linesOf
  rw [List.mem_filterMap]
  constructor
  · rintro ⟨e, he, h⟩
    split at h
    · cases h
      exact ⟨List.mem_range.mp he, rfl, by assumption⟩
    · cases h
  · rintro ⟨h1, h2, h3⟩
    refine ⟨p.1, List.mem_range.mpr h1, ?_⟩
    rw [h2, if_pos h3]
theorem linesOf_up (F : Nat → Nat) : ∀ m, (linesOf F m).Pairwise ltP
  | 0 => .nil
  | m + 1 => by
    rw [linesOf_snoc]
    refine List.pairwise_append.mpr ⟨linesOf_up F m, ?_, fun a ha b hb => ?_⟩
    · split
      · exact List.pairwise_singleton _ _
      · exact .nil
    · split at hb
      · rw [List.mem_singleton.mp hb]
        exact .inl (linesOf_mem.mp ha).1
      · cases hb
theorem yard_linesOf {n : Nat} {ps : List (Nat × Nat)} (y : Yard n ps) : linesOf (far ps) (4 * n) = ps := by
  refine sorted_ext ltP_irr ltP_tr (linesOf_up _ _) y.up fun p => ⟨fun h => ?_, fun h => ?_⟩
  · obtain ⟨h1, h2, h3⟩ := linesOf_mem.mp h
    obtain ⟨z | z, _⟩ := far_line y.lines.nd (ends_full y.lines h1)
    · rw [h2] at z
      exact z
    · rw [h2] at z
      have := y.low _ z
      simp only at this
      omega
  · have h1 := y.lines.lt _ (mem_ends.mpr ⟨p, h, .inl rfl⟩)
    exact linesOf_mem.mpr ⟨h1, (far_of y.lines.nd h).1, y.low p h⟩
end One
end P_M5

section P_M6
set_option linter.all false
namespace One
/-- what lies behind b, seen through crossing c sewn out at way w; k turns at most -/
def backK (F : Nat → Nat) (c w : Nat) : Nat → Nat → Option Nat
  | 0, b => if b / 4 = c then none else some b
  | k + 1, b => if b / 4 = c then backK F c w k (F (b ^^^ (w + 1))) else some b
theorem xor_two : ∀ n, n < 64 → (4 * n) ^^^ 2 = 4 * n + 2 ∧ (4 * n + 1) ^^^ 2 = 4 * n + 3 ∧ (4 * n + 2) ^^^ 2 = 4 * n ∧ (4 * n + 3) ^^^ 2 = 4 * n + 1 := by
  have h : ∀ n : Fin 64, (4 * (n : Nat)) ^^^ 2 = 4 * (n : Nat) + 2 ∧ (4 * (n : Nat) + 1) ^^^ 2 = 4 * (n : Nat) + 3 ∧ (4 * (n : Nat) + 2) ^^^ 2 = 4 * (n : Nat) ∧ (4 * (n : Nat) + 3) ^^^ 2 = 4 * (n : Nat) + 1 := by decide +kernel
  exact fun n hn => h ⟨n, hn⟩
theorem backK_out {F : Nat → Nat} {c w k b : Nat} (h : b / 4 ≠ c) : backK F c w k b = some b := by
  cases k <;> exact if_neg h
theorem backK_in {F : Nat → Nat} {c w k b : Nat} (h : b / 4 = c) : backK F c w (k + 1) b = backK F c w k (F (b ^^^ (w + 1))) := if_pos h
theorem put_yard {n : Nat} {ps T : List (Nat × Nat)} {i j : Nat} {a b : Nat × Nat} (y : Yard n ps) (ha : ps[i]? = some a) (hb : ps[j]? = some b) (hp : T.Perm (putOn n ps i j a b)) (hs : T.Pairwise leP) : Yard (n + 1) T := by
  refine yard_of_sorted (Nat.succ_pos _) (put_lines y.lines ha hb) (put_whole y.pos y.lines y.whole ha hb) (fun p m => ?_) hp hs
  have lt : ∀ q ∈ ps, q.1 < 4 * n ∧ q.2 < 4 * n := fun q hq => ⟨y.lines.lt _ (mem_ends.mpr ⟨q, hq, .inl rfl⟩), y.lines.lt _ (mem_ends.mpr ⟨q, hq, .inr rfl⟩)⟩
  obtain ⟨a1, a2⟩ := lt a (List.mem_of_getElem? ha)
  obtain ⟨b1, b2⟩ := lt b (List.mem_of_getElem? hb)
  rcases List.mem_append.mp m with m | m
  · exact Nat.le_of_lt (y.low p (mem_keep _ _ _ _ m))
  · unfold fresh at m
    split at m
    · simp only [List.mem_cons, List.not_mem_nil, or_false] at m
      rcases m with rfl | rfl | rfl <;> simp only <;> omega
    · simp only [List.mem_cons, List.not_mem_nil, or_false] at m
      rcases m with rfl | rfl | rfl | rfl <;> simp only <;> omega
theorem sew_back {n : Nat} {ps T : List (Nat × Nat)} {i j : Nat} {a b : Nat × Nat} (L : Lines n ps) (ha : ps[i]? = some a) (hb : ps[j]? = some b) (hp : T.Perm (putOn n ps i j a b)) (hn : n < 64) :
    (∀ e, e < 4 * n → backK (far T) n 1 2 (far T e) = some (far ps e)) ∧ (far T (4 * n) ≠ (4 * n) ^^^ 2 ∧ far T (4 * n + 1) ≠ (4 * n + 1) ^^^ 2 ∧ far T (4 * n + 2) ≠ (4 * n + 2) ^^^ 2 ∧ far T (4 * n + 3) ≠ (4 * n + 3) ^^^ 2) := by
  have LT : Lines (n + 1) T := (put_lines L ha hb).perm hp.symm
  obtain ⟨x0, x1, x2, x3⟩ := xor_two n hn
  have lt : ∀ q ∈ ps, q.1 < 4 * n ∧ q.2 < 4 * n := fun q hq => ⟨L.lt _ (mem_ends.mpr ⟨q, hq, .inl rfl⟩), L.lt _ (mem_ends.mpr ⟨q, hq, .inr rfl⟩)⟩
  have ma := List.mem_of_getElem? ha
  have mb := List.mem_of_getElem? hb
  obtain ⟨a1, a2⟩ := lt a ma
  obtain ⟨b1, b2⟩ := lt b mb
  have d0 : (4 * n) / 4 = n := by omega
  have d1 : (4 * n + 1) / 4 = n := by omega
  have d2 : (4 * n + 2) / 4 = n := by omega
  have d3 : (4 * n + 3) / 4 = n := by omega
  have out : ∀ {b k}, b < 4 * n → backK (far T) n 1 k b = some b := fun h => backK_out (by omega)
  have isT : ∀ {p}, p ∈ putOn n ps i j a b → far T p.1 = p.2 ∧ far T p.2 = p.1 := fun m => far_of LT.nd (hp.mem_iff.mpr m)
  have kept : ∀ p ∈ keepIx (notIJ i j) 0 ps, ∀ e, e = p.1 ∨ e = p.2 → backK (far T) n 1 2 (far T e) = some (far ps e) := fun p m e he => by
    have mp := mem_keep _ _ _ _ m
    obtain ⟨t1, t2⟩ := isT (p := p) (List.mem_append_left _ m)
    obtain ⟨o1, o2⟩ := far_of L.nd mp
    obtain ⟨l1, l2⟩ := lt p mp
    rcases he with rfl | rfl
    · rw [t1, o1]; exact out l2
    · rw [t2, o2]; exact out l1
  by_cases hij : i = j
  · subst hij
    have eab : b = a := Option.some.inj (hb.symm.trans ha)
    subst eab
    have fr : fresh n i i b b = [(b.1, 4 * n), (4 * n + 1, 4 * n + 2), (b.2, 4 * n + 3)] := if_pos rfl
    have mem : ∀ q ∈ fresh n i i b b, far T q.1 = q.2 ∧ far T q.2 = q.1 := fun q m => isT (List.mem_append_right _ m)
    rw [fr] at mem
    obtain ⟨p1, p2⟩ := mem (b.1, 4 * n) (by simp)
    obtain ⟨p3, p4⟩ := mem (4 * n + 1, 4 * n + 2) (by simp)
    obtain ⟨p5, p6⟩ := mem (b.2, 4 * n + 3) (by simp)
    simp only at p1 p2 p3 p4 p5 p6
    obtain ⟨g1, g2⟩ := far_of L.nd mb
    refine ⟨fun e he => ?_, ?_, ?_, ?_, ?_⟩
    · obtain ⟨p, m, z⟩ := mem_ends.mp (ends_full L he)
      rcases List.mem_cons.mp ((keep_one ha).mem_iff.mp m) with e1 | m
      · subst e1
        rcases z with rfl | rfl
        · rw [p1, g1, backK_in d0, x0, p4, backK_in d1, x1, p6]
          exact out b2
        · rw [p5, g2, backK_in d3, x3, p3, backK_in d2, x2, p2]
          exact out b1
      · exact kept p m e z
    · rw [p2, x0]; omega
    · rw [p3, x1]; omega
    · rw [p4, x2]; omega
    · rw [p6, x3]; omega
  · have fr : fresh n i j a b = [(a.1, 4 * n), (a.2, 4 * n + 2), (b.1, 4 * n + 1), (b.2, 4 * n + 3)] := if_neg hij
    have mem : ∀ q ∈ fresh n i j a b, far T q.1 = q.2 ∧ far T q.2 = q.1 := fun q m => isT (List.mem_append_right _ m)
    rw [fr] at mem
    obtain ⟨p1, p2⟩ := mem (a.1, 4 * n) (by simp)
    obtain ⟨p3, p4⟩ := mem (a.2, 4 * n + 2) (by simp)
    obtain ⟨p5, p6⟩ := mem (b.1, 4 * n + 1) (by simp)
    obtain ⟨p7, p8⟩ := mem (b.2, 4 * n + 3) (by simp)
    simp only at p1 p2 p3 p4 p5 p6 p7 p8
    obtain ⟨g1, g2⟩ := far_of L.nd ma
    obtain ⟨g3, g4⟩ := far_of L.nd mb
    refine ⟨fun e he => ?_, ?_, ?_, ?_, ?_⟩
    · obtain ⟨p, m, z⟩ := mem_ends.mp (ends_full L he)
      rcases List.mem_cons.mp ((keep_two hij ha hb).mem_iff.mp m) with e1 | m
      · subst e1
        rcases z with rfl | rfl
        · rw [p1, g1, backK_in d0, x0, p4]
          exact out a2
        · rw [p3, g2, backK_in d2, x2, p2]
          exact out a1
      · rcases List.mem_cons.mp m with e1 | m
        · subst e1
          rcases z with rfl | rfl
          · rw [p5, g3, backK_in d1, x1, p8]
            exact out b2
          · rw [p7, g4, backK_in d3, x3, p6]
            exact out b1
        · exact kept p m e z
    · rw [p2, x0]; omega
    · rw [p6, x1]; omega
    · rw [p4, x2]; omega
    · rw [p8, x3]; omega
end One
end P_M6

section P_F1
set_option linter.all false
set_option maxRecDepth 100000
set_option maxHeartbeats 8000000
namespace One
open PySem PySem.Spec PyProof.Rows L2
abbrev sFars : Stmt := top 37
abbrev sMate : Stmt := top 38
abbrev nFars : List Str := ["lines", "fars", "low", "high"]
theorem scFars : FnScope nFars ["lines"] (defScope sFars) := ⟨rfl, rfl, rfl, by decide +kernel, rfl, by decide +kernel, by decide +kernel⟩
theorem scMate : FnScope ["end", "way"] ["end", "way"] (defScope sMate) := ⟨rfl, rfl, rfl, by decide +kernel, rfl, by decide +kernel, by decide +kernel⟩
/-- the far ends of m crossings, as a list -/
def farL (F : Nat → Nat) (m : Nat) : List V := nats ((List.range (4 * m)).map F)
theorem farL_at {F : Nat → Nat} {m e : Nat} (h : e < 4 * m) : (farL F m)[e]? = some (V.int (F e : Nat)) := by
  unfold farL nats
  rw [List.getElem?_map, List.getElem?_map, List.getElem?_range h]
  rfl
theorem farL_len (F : Nat → Nat) (m : Nat) : (farL F m).length = 4 * m := by
  unfold farL nats
  rw [List.length_map, List.length_map, List.length_range]
def upOf (c e : Nat) : Nat := if c < e / 4 then e - 4 else e
def spFars : Sp := fun vs H Q _ => ∃ (t : Addr) (n : Nat) (as : List Addr) (ps : List (Nat × Nat)), vs = [.ref t] ∧ H t = some (.tup (refs as)) ∧ PL H as ps ∧ Lines n ps ∧ n ≤ 100 ∧ ∀ (H' : Hp) (L : Addr), Same H H' → H L = none → H' L = some (.lst (farL (far ps) n)) → Q (.ref L) H'
def spMate : Sp := fun vs H Q _ => ∃ e w : Nat, vs = [.int (e : Nat), .int (w : Nat)] ∧ Q (.int ((e ^^^ (w + 1) : Nat))) H
def spUp : Sp := fun vs H Q _ => ∃ e c : Nat, vs = [.int (e : Nat), .int (c : Nat)] ∧ Q (.int (upOf c e : Nat)) H
section
variable {P : Program} {w : World} {K : PySem.W.Frag} {mg : Str → Option Value} {base : Heap}
theorem ok_mate {f : Addr} {fd : FuncData} (F : Fun K "mate" "mate" sMate f fd) : FnOk P w K mg base CX0 1 f fd ["end", "way"] spMate := by
  refine F.ok scMate (fun vs H Q E h => ?_) (fun cdv A outer s H vs Q E hr h => ?_)
  · obtain ⟨e, w, rfl, _⟩ := h
    rfl
  · obtain ⟨e, w, rfl, k⟩ := h
    refine ⟨_, pss_one (ps_ret (pe_op op_xor (pv 0) (pe_op op_add (pv 1) pe_int))), ?_⟩
    refine ⟨_, rfl, _, rfl, _, _, rfl, rfl, _, _, rfl, rfl, ?_⟩
    show Q (.int (Builtin.bitXor ((e : Nat) : Int) (((w : Nat) : Int) + 1))) H
    have : Builtin.bitXor ((e : Nat) : Int) (((w : Nat) : Int) + 1) = ((e ^^^ (w + 1) : Nat) : Int) := by
      rw [Bits.bitXor_pp (by omega) (by omega)]
      have : (((w : Nat) : Int) + 1).toNat = w + 1 := by omega
      rw [this]
      rfl
    rw [this]
    exact k
end
end One
end P_F1

section P_F2
set_option linter.all false
set_option maxRecDepth 100000
set_option maxHeartbeats 8000000
namespace One
open PySem PySem.Spec PyProof.Rows L2
section
variable {P : Program} {w : World} {K : PySem.W.Frag} {mg : Str → Option Value} {base : Heap}
theorem nats_set (r : List Nat) (j x : Nat) : (nats r).set j (V.int (x : Nat)) = nats (r.set j x) := (List.map_set).symm
theorem ok_fars {f : Addr} {fd : FuncData} (F : Fun K "fars_of_lines" "fars_of_lines" sFars f fd) (T : TB mg) : FnOk P w K mg base CX0 1 f fd ["lines"] spFars := by
  refine F.ok scFars (fun vs H Q E h => ?_) (fun cdv A outer s H vs Q E hr h => ?_)
  · obtain ⟨t, n, as, ps, rfl, _⟩ := h
    rfl
  · obtain ⟨t, n, as, ps, rfl, ht, hP, L, hn, k⟩ := h
    have nd := scFars.nd
    have hal : as.length = 2 * n := by rw [hP.len, L.len]
    have nl : (refs as).length = as.length := List.length_map _
    refine ⟨_, pss_cons (ps_set (i := 1) nd rfl (Or.inl rfl) (pe_op op_rep (pe_lst (pa_cons pe_int pa_nil)) (pe_op op_mul pe_int (pe_callB call_len_seq (by rfl) T.len PySem.boot_len (pa_cons (pv 0) pa_nil)))))
      (pss_cons (ps_for PassesOwn.never rfl (pi_tup (pv 0)) (pg_tup rfl (pgs_cons (pg_name (i := 2) nd rfl (Or.inl rfl)) (pgs_cons (pg_name (i := 3) nd rfl (Or.inl rfl)) pgs_nil)))
        (pss_cons (ps_asg (pv 3) (pg_sub (pv 1) (pv 2) set_list)) (pss_one (ps_asg (pv 2) (pg_sub (pv 1) (pv 3) set_list)))))
      (pss_one (ps_ret (pv 1)))), ?_⟩
    have e4 : (2 : Int) * (((refs as).length : Nat) : Int) = ((4 * n : Nat) : Int) := by rw [nl, hal]; omega
    refine ⟨by show 1 ≤ sizeLine; decide, fun l1 hl1 => ?_⟩
    have s1 := Same.new (o := .lst [V.int 0]) hl1
    refine ⟨_, rfl, t, _, rfl, .inr (SqT.of (s1 _ _ ht)), _, _, rfl, rfl, .inl ⟨by decide, by decide⟩, l1, ((4 * n : Nat) : Int), _, rfl, (by show V.int ((2 : Int) * (((refs as).length : Nat) : Int)) = _; rw [e4]), upd_same, by omega, by omega, (by show 1 * _ ≤ _; exact Nat.le_of_lt (small1000 (by omega))), fun R hR => ?_⟩
    have eR : (List.replicate ((4 * n : Nat) : Int).toNat [V.int 0]).flatten = nats (List.replicate (4 * n) 0) := by
      rw [show ((4 * n : Nat) : Int).toNat = 4 * n by omega]
      show _ = (List.replicate (4 * n) 0).map _
      rw [List.map_replicate]
      exact flat_rep _ _
    have hR0 : H R = none := s1.free hR
    have s2 := Same.new (o := .lst (List.replicate ((4 * n : Nat) : Int).toNat [V.int 0]).flatten) hR
    have nR : ∀ b o, H b = some o → b ≠ R := fun b o e => ne_of_none e hR0
    refine ⟨_, rfl, t, rfl, ⟨_, SqT.of ((s1.trans s2) _ _ ht)⟩, for_tup (K := K) (a := t) (xs := refs as) (fun i σ H7 => ∃ (r : List Nat) (v2 v3 : Option V), σ = [some (.ref t), some (.ref R), v2, v3] ∧ Same H H7 ∧ H7 R = some (.lst (nats r)) ∧ r.length = 4 * n ∧ ∀ e, e < 4 * n → r[e]? = some (far (ps.take i) e))
      ⟨List.replicate (4 * n) 0, none, none, rfl, s1.trans s2, by rw [upd_same, eR], List.length_replicate, fun e he => by rw [List.getElem?_replicate, if_pos he]; rfl⟩ (fun i σ H7 _ ⟨_, _, _, _, h, _⟩ => SqT.of (h _ _ ht)) ?_ ?_⟩
    · rintro i x σ H7 hx ⟨r, v2, v3, rfl, s7, hR7, hrl, hr7⟩
      obtain ⟨a, ha⟩ : ∃ a, as[i]? = some a := by
        rw [List.getElem?_map] at hx
        cases e : as[i]? with
        | none =>
          rw [e] at hx
          cases hx
        | some a => exact ⟨a, rfl⟩
      rw [List.getElem?_map, ha] at hx
      cases hx
      obtain ⟨p, hp, pa⟩ := hP.got ha
      have mp := List.mem_of_getElem? hp
      have q1 := L.lt _ (mem_ends.mpr ⟨p, mp, .inl rfl⟩)
      have q2 := L.lt _ (mem_ends.mpr ⟨p, mp, .inr rfl⟩)
      have pa7 := s7 _ _ pa
      have etk := take_ends (H := H) hp
      have ndt : (ends (ps.take i ++ [p])).Nodup := by
        rw [← etk]
        have := L.nd
        rw [← List.take_append_drop (i + 1) ps, ends_append] at this
        exact (List.nodup_append.mp this).1
      refine ⟨a, _, rfl, SqT.of pa7, rfl, _, _, rfl, _, _, rfl, rfl, ?_⟩
      refine ⟨_, rfl, _, rfl, _, rfl, R, _, _, p.1, rfl, rfl, hR7, ix_nat (by rw [List.length_map, hrl]; exact q1), ?_⟩
      rw [nats_set]
      refine ⟨_, rfl, _, rfl, _, rfl, R, _, _, p.2, rfl, rfl, upd_same, ix_nat (by rw [List.length_map, List.length_set, hrl]; exact q2), ?_⟩
      rw [nats_set]
      refine ⟨(r.set p.1 p.2).set p.2 p.1, _, _, rfl, fun b o e => ?_, upd_same, by rw [List.length_set, List.length_set, hrl], fun e he => ?_⟩
      · rw [upd_ne (nR _ _ e), upd_ne (nR _ _ e)]
        exact s7 _ _ e
      · rw [etk, far_snoc ndt]
        have hne := nodup_pair L.nd p mp
        by_cases e2 : p.2 = e
        · subst e2
          rw [List.getElem?_set_self (by rw [List.length_set, hrl]; exact q2), if_neg (Ne.symm hne), if_pos rfl]
        · rw [List.getElem?_set_ne e2]
          by_cases e1 : p.1 = e
          · subst e1
            rw [List.getElem?_set_self (by rw [hrl]; exact q1), if_pos rfl]
          · rw [List.getElem?_set_ne e1, if_neg (Ne.symm e1), if_neg (Ne.symm e2)]
            exact hr7 e he
    · rintro σ H7 ⟨r, v2, v3, rfl, s7, hR7, hrl, hr7⟩
      refine ⟨_, rfl, k _ R s7 hR0 ?_⟩
      rw [nl, hP.len, List.take_length] at hr7
      rw [hR7]
      congr 2
      show nats r = nats _
      congr 1
      refine List.ext_getElem? fun e => ?_
      by_cases he : e < 4 * n
      · rw [hr7 e he, List.getElem?_map, List.getElem?_range he]
        rfl
      · rw [List.getElem?_eq_none (by omega), List.getElem?_eq_none (by rw [List.length_map, List.length_range]; omega)]
end
end One
end P_F2

section P_M8
set_option linter.all false
/-! Sewing out any crossing, at any way, where nothing closes: what lies behind an end. -/
namespace One
theorem mate_block {e w : Nat} (hw : w < 3) : (e ^^^ (w + 1)) / 4 = e / 4 := by
  have h := Nat.xor_div_two_pow (a := e) (b := w + 1) (n := 2)
  rw [show (2 : Nat) ^ 2 = 4 from rfl] at h
  rw [h, show (w + 1) / 4 = 0 by omega, Nat.xor_zero]
theorem mate_mate (e w : Nat) : (e ^^^ (w + 1)) ^^^ (w + 1) = e := by rw [Nat.xor_assoc, Nat.xor_self, Nat.xor_zero]
theorem mate_ne (e w : Nat) : e ^^^ (w + 1) ≠ e := fun h => by
  have h2 : e ^^^ (e ^^^ (w + 1)) = e ^^^ e := by rw [h]
  rw [← Nat.xor_assoc, Nat.xor_self, Nat.zero_xor] at h2
  omega
/-- far ends of lines: no end is its own far end, far of far is the end -/
structure Inv2 (F : Nat → Nat) (m : Nat) : Prop where
  lt : ∀ e, e < 4 * m → F e < 4 * m
  inv : ∀ e, e < 4 * m → F (F e) = e
  ne : ∀ e, e < 4 * m → F e ≠ e
theorem far_inv {n : Nat} {ps : List (Nat × Nat)} (L : Lines n ps) : Inv2 (far ps) n := by
  refine ⟨fun e he => far_lt L he, fun e he => (far_line L.nd (ends_full L he)).2, fun e he h => ?_⟩
  obtain ⟨z | z, _⟩ := far_line L.nd (ends_full L he)
  · rw [h] at z
    exact nodup_pair L.nd _ z rfl
  · rw [h] at z
    exact nodup_pair L.nd _ z rfl
/-- nothing closes at crossing c, way w -/
def Open (F : Nat → Nat) (c w : Nat) : Prop := ∀ e, e / 4 = c → F e ≠ e ^^^ (w + 1)
section
variable {F : Nat → Nat} {m c w : Nat}
/-- the walk behind an end ends within two turns -/
theorem back_some (I : Inv2 F m) (hc : c < m) (hw : w < 3) (O : Open F c w) {e : Nat} (he : e < 4 * m) (ho : e / 4 ≠ c) : ∃ g, backK F c w 2 (F e) = some g ∧ g < 4 * m ∧ g / 4 ≠ c := by
  by_cases h0 : F e / 4 = c
  · rw [backK_in h0]
    have m0 : (F e ^^^ (w + 1)) / 4 = c := (mate_block hw).trans h0
    have l0 : F e ^^^ (w + 1) < 4 * m := by omega
    by_cases h1 : F (F e ^^^ (w + 1)) / 4 = c
    · rw [backK_in h1]
      have m1 : (F (F e ^^^ (w + 1)) ^^^ (w + 1)) / 4 = c := (mate_block hw).trans h1
      have l1 : F (F e ^^^ (w + 1)) ^^^ (w + 1) < 4 * m := by omega
      have h2 : F (F (F e ^^^ (w + 1)) ^^^ (w + 1)) / 4 ≠ c := by
        intro h2
        -- four ends of c: x, its mate, y, its mate, and where the last leads
        generalize hx : F e = x at *
        generalize hx' : x ^^^ (w + 1) = x' at *
        generalize hy : F x' = y at *
        generalize hy' : y ^^^ (w + 1) = y' at *
        generalize hz : F y' = z at *
        have fx : F x = e := by rw [← hx]; exact I.inv e he
        have fy : F y = x' := by rw [← hy]; exact I.inv x' l0
        have fz : F z = y' := by rw [← hz]; exact I.inv y' l1
        have mx : x' ^^^ (w + 1) = x := by rw [← hx']; exact mate_mate x w
        have my : y' ^^^ (w + 1) = y := by rw [← hy']; exact mate_mate y w
        have a1 : y ≠ x := fun q => O x' m0 (by rw [hy, mx]; exact q)
        have a2 : y ≠ x' := fun q => I.ne x' l0 (hy.trans q)
        have b1 : z ≠ y := fun q => O y' m1 (by rw [hz, my]; exact q)
        have b2 : z ≠ y' := fun q => I.ne y' l1 (hz.trans q)
        have b3 : z ≠ x := fun q => by
          rw [q, fx] at fz
          rw [fz] at ho
          exact ho m1
        have b4 : z ≠ x' := fun q => by
          rw [q, hy] at fz
          exact mate_ne y w (hy'.trans fz.symm)
        have d1 : x' ≠ x := fun q => mate_ne x w (hx'.trans q)
        have d2 : y' ≠ y := fun q => mate_ne y w (hy'.trans q)
        have d3 : y' ≠ x := fun q => by
          rw [q] at my
          exact a2 (my.symm.trans hx')
        have d4 : y' ≠ x' := fun q => by
          rw [q] at my
          exact a1 (my.symm.trans mx)
        omega
      rw [show backK F c w 0 (F (F (F e ^^^ (w + 1)) ^^^ (w + 1))) = some (F (F (F e ^^^ (w + 1)) ^^^ (w + 1))) from backK_out h2]
      exact ⟨_, rfl, I.lt _ l1, h2⟩
    · rw [backK_out h1]
      exact ⟨_, rfl, I.lt _ l0, h1⟩
  · rw [backK_out h0]
    exact ⟨_, rfl, I.lt _ he, h0⟩
end
end One
end P_M8

section P_M19
set_option linter.all false
/-! Rounds: going on from end to end. -/
namespace One
def iter (f : Nat → Nat) : Nat → Nat → Nat
  | 0, s => s
  | k + 1, s => f (iter f k s)
theorem iter_add (f : Nat → Nat) : ∀ i j s, iter f (i + j) s = iter f i (iter f j s)
  | 0, j, s => by rw [Nat.zero_add]; rfl
  | i + 1, j, s => by
    rw [show i + 1 + j = (i + j) + 1 by omega]
    show f (iter f (i + j) s) = f (iter f i (iter f j s))
    rw [iter_add f i j s]
/-- a going on among the numbers below m -/
structure Goes (f : Nat → Nat) (m : Nat) : Prop where
  lt : ∀ e, e < m → f e < m
  inj : ∀ e g, e < m → g < m → f e = f g → e = g
section
variable {f : Nat → Nat} {m : Nat}
theorem Goes.iter_lt (G : Goes f m) {s : Nat} (hs : s < m) : ∀ k, iter f k s < m
  | 0 => hs
  | k + 1 => G.lt _ (G.iter_lt hs k)
theorem Goes.iter_inj (G : Goes f m) {a b : Nat} (ha : a < m) (hb : b < m) : ∀ k, iter f k a = iter f k b → a = b
  | 0, h => h
  | k + 1, h => G.iter_inj ha hb k (G.inj _ _ (G.iter_lt ha k) (G.iter_lt hb k) h)
/-- back at the start behind k steps, and not ahead of that -/
structure Per (f : Nat → Nat) (s k : Nat) : Prop where
  pos : 0 < k
  back : iter f k s = s
  first : ∀ i, 0 < i → i < k → iter f i s ≠ s
def rnd (f : Nat → Nat) (s k : Nat) : List Nat := (List.range k).map fun i => iter f i s
theorem rnd_len (f : Nat → Nat) (s k : Nat) : (rnd f s k).length = k := by
  unfold rnd
  rw [List.length_map, List.length_range]
theorem rnd_snoc (f : Nat → Nat) (s k : Nat) : rnd f s (k + 1) = rnd f s k ++ [iter f k s] := by
  unfold rnd
  rw [List.range_succ, List.map_append]
  rfl
theorem mem_rnd {f : Nat → Nat} {s k x : Nat} : x ∈ rnd f s k ↔ ∃ i, i < k ∧ iter f i s = x := by
  unfold rnd
  rw [List.mem_map]
  exact ⟨fun ⟨i, h, e⟩ => ⟨i, List.mem_range.mp h, e⟩, fun ⟨i, h, e⟩ => ⟨i, List.mem_range.mpr h, e⟩⟩
theorem Goes.apart (G : Goes f m) {s k : Nat} (hs : s < m) (first : ∀ i, 0 < i → i < k → iter f i s ≠ s) {i j : Nat} (hij : i < j) (hj : j < k) : iter f i s ≠ iter f j s := fun h => by
  have e : iter f j s = iter f i (iter f (j - i) s) := by rw [← iter_add, show i + (j - i) = j by omega]
  rw [e] at h
  exact first (j - i) (by omega) (by omega) (G.iter_inj hs (G.iter_lt hs _) i h).symm
theorem Goes.nodup (G : Goes f m) {s : Nat} (hs : s < m) : ∀ k, (∀ i, 0 < i → i < k → iter f i s ≠ s) → (rnd f s k).Nodup
  | 0, _ => List.nodup_nil
  | k + 1, first => by
    rw [rnd_snoc]
    refine List.nodup_append.mpr ⟨G.nodup hs k fun i h0 h1 => first i h0 (by omega), by simp, fun a ha b hb e => ?_⟩
    obtain ⟨i, hi, rfl⟩ := mem_rnd.mp ha
    rw [List.mem_singleton.mp hb] at e
    exact G.apart hs first hi (Nat.lt_succ_self k) e
theorem Goes.per (G : Goes f m) {s : Nat} (hs : s < m) : ∃ k, Per f s k ∧ k ≤ m := by
  have ex : ∃ k, 0 < k ∧ k ≤ m ∧ iter f k s = s := by
    refine Classical.byContradiction fun no => ?_
    have first : ∀ i, 0 < i → i < m + 1 → iter f i s ≠ s := fun i h0 h1 e => no ⟨i, h0, by omega, e⟩
    have nd := G.nodup hs (m + 1) first
    have := pigeon m _ nd fun x hx => by
      obtain ⟨i, _, rfl⟩ := mem_rnd.mp hx
      exact G.iter_lt hs i
    rw [rnd_len] at this
    omega
  have least : ∀ k, (0 < k ∧ k ≤ m ∧ iter f k s = s) → ∃ k, Per f s k ∧ k ≤ m := by
    intro k
    induction k using Nat.strongRecOn with
    | ind k ih =>
      intro ⟨h0, h1, h2⟩
      by_cases h : ∃ i, 0 < i ∧ i < k ∧ iter f i s = s
      · obtain ⟨i, a, b, c⟩ := h
        exact ih i b ⟨a, by omega, c⟩
      · exact ⟨k, ⟨h0, h2, fun i a b c => h ⟨i, a, b, c⟩⟩, h1⟩
  obtain ⟨k, h⟩ := ex
  exact least k h
theorem Per.one {s k j : Nat} (a : Per f s k) (b : Per f s j) : k = j := by
  rcases Nat.lt_trichotomy k j with h | h | h
  · exact absurd a.back (b.first k a.pos h)
  · exact h
  · exact absurd b.back (a.first j b.pos h)
/-- any steps are steps of the round -/
theorem Per.mod {s k : Nat} (a : Per f s k) : ∀ i, iter f i s ∈ rnd f s k := by
  have turn : ∀ q r, iter f (q * k + r) s = iter f r s := by
    intro q r
    induction q with
    | zero => rw [Nat.zero_mul, Nat.zero_add]
    | succ q ih =>
      rw [show (q + 1) * k + r = (q * k + r) + k by rw [Nat.succ_mul]; omega, iter_add, a.back]
      exact ih
  intro i
  refine mem_rnd.mpr ⟨i % k, Nat.mod_lt _ a.pos, ?_⟩
  have := turn (i / k) (i % k)
  rw [← this, Nat.mul_comm, Nat.div_add_mod]
/-- two rounds with one end are of the same ends -/
theorem Per.same (G : Goes f m) {s t k j x : Nat} (hs : s < m) (ht : t < m) (a : Per f s k) (b : Per f t j) (hx : x ∈ rnd f s k) (hy : x ∈ rnd f t j) : ∀ z, z ∈ rnd f s k → z ∈ rnd f t j := by
  obtain ⟨i, hi, e1⟩ := mem_rnd.mp hx
  obtain ⟨l, hl, e2⟩ := mem_rnd.mp hy
  intro z hz
  obtain ⟨p, hp, rfl⟩ := mem_rnd.mp hz
  -- from x go on k - i steps to s, then p more
  have e : iter f p s = iter f (p + (k - i) + l) t := by
    rw [iter_add f (p + (k - i)) l t, e2, ← e1, ← iter_add, show p + (k - i) + i = p + k by omega, iter_add, a.back]
  rw [e]
  exact b.mod _
end
/-! ### by far ends and ways -/
section
variable {F W : Nat → Nat} {n : Nat}
/-- the end from which one goes on next -/
def nextE (F W : Nat → Nat) (e : Nat) : Nat := F e ^^^ (W (F e / 4) + 1)
theorem next_goes (I : Inv2 F n) (hW : ∀ c, c < n → W c < 3) : Goes (nextE F W) (4 * n) := by
  have blk : ∀ e, e < 4 * n → (F e ^^^ (W (F e / 4) + 1)) / 4 = F e / 4 ∧ F e < 4 * n := fun e he => by
    have h := I.lt e he
    exact ⟨mate_block (hW _ (by omega)), h⟩
  refine ⟨fun e he => ?_, fun e g he hg h => ?_⟩
  · obtain ⟨a, b⟩ := blk e he
    unfold nextE
    omega
  · obtain ⟨a, b⟩ := blk e he
    obtain ⟨c, d⟩ := blk g hg
    unfold nextE at h
    have q : F e / 4 = F g / 4 := by rw [← a, ← c, h]
    rw [q] at h
    have h2 : (F e ^^^ (W (F g / 4) + 1)) ^^^ (W (F g / 4) + 1) = (F g ^^^ (W (F g / 4) + 1)) ^^^ (W (F g / 4) + 1) := by rw [h]
    rw [mate_mate, mate_mate] at h2
    rw [← I.inv e he, ← I.inv g hg, h2]
/-- the far of what comes next goes on to the far -/
theorem next_far (I : Inv2 F n) (hW : ∀ c, c < n → W c < 3) {e : Nat} (he : e < 4 * n) : nextE F W (F (nextE F W e)) = F e := by
  have h := I.lt e he
  have blk : (F e ^^^ (W (F e / 4) + 1)) / 4 = F e / 4 := mate_block (hW _ (by omega))
  have l1 : nextE F W e < 4 * n := (next_goes I hW).lt e he
  have : F (F (nextE F W e)) = nextE F W e := I.inv _ l1
  show F (F (nextE F W e)) ^^^ (W (F (F (nextE F W e)) / 4) + 1) = F e
  rw [this]
  show (F e ^^^ (W (F e / 4) + 1)) ^^^ (W ((F e ^^^ (W (F e / 4) + 1)) / 4) + 1) = F e
  rw [blk, mate_mate]
theorem iter_far (I : Inv2 F n) (hW : ∀ c, c < n → W c < 3) {s : Nat} (hs : s < 4 * n) : ∀ i, iter (nextE F W) i (F (iter (nextE F W) i s)) = F s
  | 0 => rfl
  | i + 1 => by
    have G := next_goes I hW
    rw [show i + 1 = i + 1 from rfl, iter_add (nextE F W) i 1]
    show iter (nextE F W) i (nextE F W (F (nextE F W (iter (nextE F W) i s)))) = F s
    rw [next_far I hW (G.iter_lt hs i)]
    exact iter_far I hW hs i
/-- no end of a round has its line gone the other way, too -/
theorem no_far (I : Inv2 F n) (hW : ∀ c, c < n → W c < 3) {s : Nat} (hs : s < 4 * n) (i : Nat) : iter (nextE F W) i s ≠ F s := by
  have G := next_goes I hW
  intro h
  have split : ∃ j, i = 2 * j ∨ i = 2 * j + 1 := ⟨i / 2, by omega⟩
  obtain ⟨j, rfl | rfl⟩ := split
  · -- x, the j-th, is its own far
    have e := iter_far I hW hs j
    have l := G.iter_lt hs j
    rw [show 2 * j = j + j by omega, iter_add] at h
    have : iter (nextE F W) j s = F (iter (nextE F W) j s) := G.iter_inj l (I.lt _ l) j (h.trans e.symm)
    exact I.ne _ l this.symm
  · -- the mate of one is itself
    have e := iter_far I hW hs (j + 1)
    have l := G.iter_lt hs j
    have l1 := G.iter_lt hs (j + 1)
    have h' : iter (nextE F W) (2 * j + 1) s = iter (nextE F W) (j + 1) (F (iter (nextE F W) (j + 1) s)) := h.trans e.symm
    rw [show 2 * j + 1 = (j + 1) + j by omega, iter_add] at h'
    have q : iter (nextE F W) j s = F (iter (nextE F W) (j + 1) s) := G.iter_inj l (I.lt _ l1) (j + 1) h'
    have q2 : F (iter (nextE F W) j s) = iter (nextE F W) (j + 1) s := by rw [q, I.inv _ l1]
    have : nextE F W (iter (nextE F W) j s) = F (iter (nextE F W) j s) := q2.symm
    unfold nextE at this
    exact mate_ne _ _ this
/-- the far ends of a round's ends are the ends of a round -/
theorem far_round (I : Inv2 F n) (hW : ∀ c, c < n → W c < 3) {s k : Nat} (hs : s < 4 * n) (a : Per (nextE F W) s k) : Per (nextE F W) (F s) k ∧ ∀ z, z ∈ rnd (nextE F W) (F s) k ↔ ∃ x ∈ rnd (nextE F W) s k, F x = z := by
  have G := next_goes I hW
  have hF := I.lt s hs
  have key : ∀ i, i ≤ k → iter (nextE F W) i (F s) = F (iter (nextE F W) (k - i) s) := fun i hi => by
    have e := iter_far I hW (G.iter_lt hs (k - i)) i
    rw [← iter_add, show i + (k - i) = k by omega, a.back] at e
    exact e
  have P : Per (nextE F W) (F s) k := by
    refine ⟨a.pos, ?_, fun i h0 h1 e => ?_⟩
    · rw [key k (Nat.le_refl _), Nat.sub_self]
      rfl
    · rw [key i (by omega)] at e
      have : F (F (iter (nextE F W) (k - i) s)) = F (F s) := by rw [e]
      rw [I.inv _ (G.iter_lt hs _), I.inv _ hs] at this
      exact a.first (k - i) (by omega) (by omega) this
  refine ⟨P, fun z => ⟨fun h => ?_, fun ⟨x, hx, e⟩ => ?_⟩⟩
  · obtain ⟨i, hi, rfl⟩ := mem_rnd.mp h
    exact ⟨_, a.mod (k - i), (key i (by omega)).symm⟩
  · obtain ⟨i, hi, rfl⟩ := mem_rnd.mp hx
    subst e
    by_cases h0 : i = 0
    · subst h0
      exact mem_rnd.mpr ⟨0, a.pos, rfl⟩
    · have := key (k - i) (by omega)
      rw [show k - (k - i) = i by omega] at this
      rw [← this]
      exact P.mod _
/-- the rounds: each begun at the least end of its lines, rising, each line in just one -/
structure Rounds (F W : Nat → Nat) (n : Nat) (rs : List (Nat × Nat)) : Prop where
  per : ∀ p ∈ rs, p.1 < 4 * n ∧ Per (nextE F W) p.1 p.2
  least : ∀ p ∈ rs, ∀ x ∈ rnd (nextE F W) p.1 p.2, p.1 ≤ x ∧ p.1 ≤ F x
  up : rs.Pairwise fun p q => p.1 < q.1
  all : ∀ e, e < 4 * n → ∃ p ∈ rs, e ∈ rnd (nextE F W) p.1 p.2 ∨ F e ∈ rnd (nextE F W) p.1 p.2
  one : rs.Pairwise fun p q => ∀ x, x ∈ rnd (nextE F W) p.1 p.2 → x ∉ rnd (nextE F W) q.1 q.2 ∧ F x ∉ rnd (nextE F W) q.1 q.2
end
end One
end P_M19

section P_M20
set_option linter.all false
/-! Rounds, told one behind another. -/
namespace One
section
variable {F W : Nat → Nat} {n : Nat}
def Gone (F W : Nat → Nat) (rs : List (Nat × Nat)) (e : Nat) : Prop := ∃ p ∈ rs, e ∈ rnd (nextE F W) p.1 p.2 ∨ F e ∈ rnd (nextE F W) p.1 p.2
/-- the rounds that have lines of the first i ends -/
structure RTo (F W : Nat → Nat) (n i : Nat) (rs : List (Nat × Nat)) : Prop where
  per : ∀ p ∈ rs, p.1 < 4 * n ∧ Per (nextE F W) p.1 p.2
  low : ∀ p ∈ rs, p.1 < i
  least : ∀ p ∈ rs, ∀ x ∈ rnd (nextE F W) p.1 p.2, p.1 ≤ x ∧ p.1 ≤ F x
  up : rs.Pairwise fun p q => p.1 < q.1
  all : ∀ e, e < i → Gone F W rs e
  one : rs.Pairwise fun p q => ∀ x, x ∈ rnd (nextE F W) p.1 p.2 → x ∉ rnd (nextE F W) q.1 q.2 ∧ F x ∉ rnd (nextE F W) q.1 q.2
theorem rto_nil : RTo F W n 0 [] := ⟨fun p h => absurd h (by simp), fun p h => absurd h (by simp), fun p h => absurd h (by simp), .nil, fun e h => absurd h (by omega), .nil⟩
theorem rnd_lt (I : Inv2 F n) (hW : ∀ c, c < n → W c < 3) {s k x : Nat} (hs : s < 4 * n) (h : x ∈ rnd (nextE F W) s k) : x < 4 * n := by
  obtain ⟨i, _, rfl⟩ := mem_rnd.mp h
  exact (next_goes I hW).iter_lt hs i
theorem self_rnd {f : Nat → Nat} {s k : Nat} (a : Per f s k) : s ∈ rnd f s k := mem_rnd.mpr ⟨0, a.pos, rfl⟩
theorem gone_far (I : Inv2 F n) {rs : List (Nat × Nat)} {e : Nat} (he : e < 4 * n) : Gone F W rs (F e) ↔ Gone F W rs e := by
  have h := I.inv e he
  constructor
  · rintro ⟨p, hp, a | a⟩
    · exact ⟨p, hp, .inr a⟩
    · rw [h] at a
      exact ⟨p, hp, .inl a⟩
  · rintro ⟨p, hp, a | a⟩
    · exact ⟨p, hp, .inr (by rw [h]; exact a)⟩
    · exact ⟨p, hp, .inl a⟩
theorem gone_back (I : Inv2 F n) (hW : ∀ c, c < n → W c < 3) {rs : List (Nat × Nat)} (per : ∀ p ∈ rs, p.1 < 4 * n ∧ Per (nextE F W) p.1 p.2) {s k x : Nat} (hs : s < 4 * n) (a : Per (nextE F W) s k) (hx : x ∈ rnd (nextE F W) s k) (g : Gone F W rs x) : Gone F W rs s := by
  have G := next_goes I hW
  obtain ⟨p, hp, h | h⟩ := g
  · obtain ⟨pl, pp⟩ := per p hp
    exact ⟨p, hp, .inl (Per.same G hs pl a pp hx h s (self_rnd a))⟩
  · obtain ⟨pl, pp⟩ := per p hp
    obtain ⟨b, hb⟩ := far_round I hW hs a
    exact ⟨p, hp, .inr (Per.same G (I.lt s hs) pl b pp ((hb _).mpr ⟨x, hx, rfl⟩) h _ (self_rnd b))⟩
theorem RTo.skip {i : Nat} {rs : List (Nat × Nat)} (R : RTo F W n i rs) (g : Gone F W rs i) : RTo F W n (i + 1) rs :=
  ⟨R.per, fun p h => Nat.lt_succ_of_lt (R.low p h), R.least, R.up, fun e h => by
    by_cases q : e = i
    · rw [q]; exact g
    · exact R.all e (by omega), R.one⟩
theorem RTo.more (I : Inv2 F n) (hW : ∀ c, c < n → W c < 3) {i k : Nat} {rs : List (Nat × Nat)} (R : RTo F W n i rs) (hi : i < 4 * n) (g : ¬ Gone F W rs i) (a : Per (nextE F W) i k) : RTo F W n (i + 1) (rs ++ [(i, k)]) := by
  refine ⟨fun p hp => ?_, fun p hp => ?_, fun p hp x hx => ?_, ?_, fun e he => ?_, ?_⟩
  · rcases List.mem_append.mp hp with h | h
    · exact R.per p h
    · rw [List.mem_singleton.mp h]
      exact ⟨hi, a⟩
  · rcases List.mem_append.mp hp with h | h
    · exact Nat.lt_succ_of_lt (R.low p h)
    · rw [List.mem_singleton.mp h]
      exact Nat.lt_succ_self i
  · rcases List.mem_append.mp hp with h | h
    · exact R.least p h x hx
    · rw [List.mem_singleton.mp h] at hx ⊢
      have xl := rnd_lt I hW hi hx
      refine ⟨Nat.le_of_not_lt fun z => g (gone_back I hW R.per hi a hx (R.all x z)), Nat.le_of_not_lt fun z => g (gone_back I hW R.per hi a hx ((gone_far I xl).mp (R.all (F x) z)))⟩
  · refine List.pairwise_append.mpr ⟨R.up, List.pairwise_singleton _ _, fun p hp q hq => ?_⟩
    rw [List.mem_singleton.mp hq]
    exact R.low p hp
  · by_cases q : e = i
    · rw [q]
      exact ⟨(i, k), List.mem_append_right _ (List.mem_singleton.mpr rfl), .inl (self_rnd a)⟩
    · obtain ⟨p, hp, h⟩ := R.all e (by omega)
      exact ⟨p, List.mem_append_left _ hp, h⟩
  · refine List.pairwise_append.mpr ⟨R.one, List.pairwise_singleton _ _, fun p hp q hq x hx => ?_⟩
    rw [List.mem_singleton.mp hq]
    obtain ⟨pl, pp⟩ := R.per p hp
    have xl := rnd_lt I hW pl hx
    refine ⟨fun h => g (gone_back I hW R.per hi a h ⟨p, hp, .inl hx⟩), fun h => g (gone_back I hW R.per hi a h ⟨p, hp, .inr ?_⟩)⟩
    rw [I.inv x xl]
    exact hx
theorem RTo.done {rs : List (Nat × Nat)} (R : RTo F W n (4 * n) rs) : Rounds F W n rs := ⟨R.per, R.least, R.up, R.all, R.one⟩
theorem Rounds.first (I : Inv2 F n) (hW : ∀ c, c < n → W c < 3) {rs : List (Nat × Nat)} (R : Rounds F W n rs) {s k : Nat} (hs : s < 4 * n) (a : Per (nextE F W) s k) : (s, k) ∈ rs ↔ ∀ x ∈ rnd (nextE F W) s k, s ≤ x ∧ s ≤ F x := by
  have G := next_goes I hW
  refine ⟨fun h => R.least _ h, fun h => ?_⟩
  obtain ⟨p, hp, q | q⟩ := R.all s hs
  all_goals obtain ⟨pl, pp⟩ := R.per p hp
  · have e1 := (R.least p hp s q).1
    have e2 := (h p.1 (Per.same G pl hs pp a q (self_rnd a) _ (self_rnd pp))).1
    obtain ⟨p1, p2⟩ := p
    have : p1 = s := Nat.le_antisymm e1 e2
    subst this
    have : p2 = k := Per.one pp a
    subst this
    exact hp
  · obtain ⟨b, hb⟩ := far_round I hW hs a
    have e1 := (R.least p hp (F s) q).2
    rw [I.inv s hs] at e1
    obtain ⟨x, hx, e⟩ := (hb _).mp (Per.same G pl (I.lt s hs) pp b q (self_rnd b) _ (self_rnd pp))
    have e2 := (h x hx).2
    rw [e] at e2
    obtain ⟨p1, p2⟩ := p
    have : p1 = s := Nat.le_antisymm e1 e2
    subst this
    have : p2 = k := Per.one pp a
    subst this
    exact hp
/-- there is just one telling -/
theorem Rounds.eq (I : Inv2 F n) (hW : ∀ c, c < n → W c < 3) {rs qs : List (Nat × Nat)} (R : Rounds F W n rs) (S : Rounds F W n qs) : rs = qs := by
  refine sorted_ext (lt := fun p q : Nat × Nat => p.1 < q.1) (fun a => Nat.lt_irrefl _) (fun a b c => Nat.lt_trans) R.up S.up fun p => ⟨fun h => ?_, fun h => ?_⟩
  · obtain ⟨pl, pp⟩ := R.per p h
    exact (S.first I hW pl pp).mpr ((R.first I hW pl pp).mp h)
  · obtain ⟨pl, pp⟩ := S.per p h
    exact (R.first I hW pl pp).mpr ((S.first I hW pl pp).mp h)
end
end One
end P_M20

section P_Y1
set_option linter.all false
set_option maxRecDepth 100000
set_option maxHeartbeats 8000000
namespace One
open PySem PySem.Spec PyProof.Rows L2
abbrev sEA : Stmt := top 47
abbrev sRF : Stmt := top 46
abbrev sRB : Stmt := top 45
abbrev nEA : List Str := ["fars", "setting", "end", "come_to"]
abbrev nRF : List Str := ["fars", "setting", "start", "ends", "end"]
abbrev nRB : List Str := ["fars", "setting", "rounds", "gone", "start", "ends", "end"]
theorem scEA : FnScope nEA ["fars", "setting", "end"] (defScope sEA) := ⟨rfl, rfl, rfl, by decide +kernel, rfl, by decide +kernel, by decide +kernel⟩
theorem scRF : FnScope nRF ["fars", "setting", "start"] (defScope sRF) := ⟨rfl, rfl, rfl, by decide +kernel, rfl, by decide +kernel, by decide +kernel⟩
theorem scRB : FnScope nRB ["fars", "setting"] (defScope sRB) := ⟨rfl, rfl, rfl, by decide +kernel, rfl, by decide +kernel, by decide +kernel⟩
/-- a setting of n crossings at t -/
structure SetAt (H : Hp) (t : Addr) (n : Nat) (ws : List Nat) : Prop where
  len : ws.length = n
  lt : ∀ x ∈ ws, x < 3
  here : H t = some (.tup (nats ws))
theorem SetAt.mono {H H' : Hp} {t : Addr} {n : Nat} {ws : List Nat} (h : SetAt H t n ws) (k : ∀ b xs, H b = some (.tup xs) → H' b = some (.tup xs)) : SetAt H' t n ws := ⟨h.len, h.lt, k _ _ h.here⟩
/-- the way at each crossing -/
def wayL (ws : List Nat) : Nat → Nat := fun c => ws.getD c 0
theorem SetAt.ways {H : Hp} {t : Addr} {n : Nat} {ws : List Nat} (h : SetAt H t n ws) : ∀ c, c < n → wayL ws c < 3 := fun c hc => by
  have hl : c < ws.length := by rw [h.len]; exact hc
  unfold wayL
  rw [List.getD_eq_getElem?_getD, List.getElem?_eq_getElem hl]
  exact h.lt _ (List.getElem_mem hl)
theorem SetAt.at_ {H : Hp} {t : Addr} {n : Nat} {ws : List Nat} (h : SetAt H t n ws) {c : Nat} (hc : c < n) : ws[c]? = some (wayL ws c) := by
  have hl : c < ws.length := by rw [h.len]; exact hc
  unfold wayL
  rw [List.getD_eq_getElem?_getD, List.getElem?_eq_getElem hl]
  rfl
def spEA : Sp := fun vs H Q _ => ∃ (L t : Addr) (F : Nat → Nat) (n e : Nat) (ws : List Nat), vs = [.ref L, .ref t, .int (e : Nat)] ∧ H L = some (.lst (farL F n)) ∧ SetAt H t n ws ∧ Inv2 F n ∧ e < 4 * n ∧ Q (.int (nextE F (wayL ws) e : Nat)) H
def spRF : Sp := fun vs H Q _ => ∃ (L t : Addr) (F : Nat → Nat) (n s : Nat) (ws : List Nat), vs = [.ref L, .ref t, .int (s : Nat)] ∧ H L = some (.lst (farL F n)) ∧ SetAt H t n ws ∧ Inv2 F n ∧ n ≤ 100 ∧ s < 4 * n ∧
  ∀ (H' : Hp) (u : Addr) (k : Nat), Same H H' → Per (nextE F (wayL ws)) s k → H' u = some (.tup (nats (rnd (nextE F (wayL ws)) s k))) → Q (.ref u) H'
/-- rounds in tuples -/
inductive RsAt (f : Nat → Nat) (H : Hp) : List Addr → List (Nat × Nat) → Prop
  | nil : RsAt f H [] []
  | cons {a p as ps} : H a = some (.tup (nats (rnd f p.1 p.2))) → RsAt f H as ps → RsAt f H (a :: as) (p :: ps)
theorem RsAt.len {f : Nat → Nat} {H : Hp} {as : List Addr} {ps : List (Nat × Nat)} (h : RsAt f H as ps) : as.length = ps.length := by
  induction h with
  | nil => rfl
  | cons _ _ ih => simp [ih]
theorem RsAt.mono {f : Nat → Nat} {H H' : Hp} {as : List Addr} {ps : List (Nat × Nat)} (h : RsAt f H as ps) (k : ∀ b xs, H b = some (.tup xs) → H' b = some (.tup xs)) : RsAt f H' as ps := by
  induction h with
  | nil => exact .nil
  | cons h1 _ ih => exact .cons (k _ _ h1) ih
theorem RsAt.app {f : Nat → Nat} {H : Hp} {as bs : List Addr} {ps qs : List (Nat × Nat)} (h : RsAt f H as ps) (k : RsAt f H bs qs) : RsAt f H (as ++ bs) (ps ++ qs) := by
  induction h with
  | nil => exact k
  | cons h1 _ ih => exact .cons h1 ih
def spRB : Sp := fun vs H Q _ => ∃ (L t : Addr) (F : Nat → Nat) (n : Nat) (ws : List Nat), vs = [.ref L, .ref t] ∧ H L = some (.lst (farL F n)) ∧ SetAt H t n ws ∧ Inv2 F n ∧ n ≤ 100 ∧
  ∀ (H' : Hp) (u : Addr) (as : List Addr) (rs : List (Nat × Nat)), Same H H' → H' u = some (.tup (refs as)) → RsAt (nextE F (wayL ws)) H' as rs → Rounds F (wayL ws) n rs → Q (.ref u) H'
section
variable {P : Program} {w : World} {K : PySem.W.Frag} {mg : Str → Option Value} {base : Heap}
theorem ok_ea {f fM : Addr} {fd fdM : FuncData} (F : Fun K "end_after" "end_after" sEA f fd) (C : TC mg) (Ma : Cal K mg "mate" fM fdM ["end", "way"]) (GM : FnOk P w K mg base CX0 1 fM fdM ["end", "way"] spMate) : FnOk P w K mg base CX0 2 f fd ["fars", "setting", "end"] spEA := by
  refine F.ok scEA (fun vs H Q E h => ?_) (fun cdv A outer s H vs Q E hr h => ?_)
  · obtain ⟨L, t, F, n, e, ws, rfl, _⟩ := h
    rfl
  · obtain ⟨L, t, F, n, e, ws, rfl, hL, hS, I, he, k⟩ := h
    have nd := scEA.nd
    have hr1 : Room 1 _ := hr
    obtain ⟨t4, ht4⟩ := C.places
    refine ⟨_, pss_cons (ps_set (i := 3) nd rfl (Or.inl rfl) (pe_ix ix_list (pv 0) (pv 2) (fun _ _ => rfl)))
      (pss_one (ps_ret (pe_call GM hr1 rfl Ma.g Ma.kp Ma.b .nil pass0 (pa_cons (pv 3) (pa_cons (pe_ix ix_tup (pv 1) (pe_op op_fdiv (pv 3) (pe_glob (v := .int 4) rfl ht4 ⟨_, rfl⟩)) (fun _ _ => rfl)) pa_nil))))), ?_⟩
    have hF := I.lt e he
    have e4 : ((F e : Nat) : Int) / 4 = ((F e / 4 : Nat) : Int) := by omega
    refine ⟨_, rfl, _, rfl, L, _, _, V.int (F e : Nat), rfl, rfl, SqL.of hL, at_of (j := e) rfl (farL_at he), ?_⟩
    refine ⟨_, rfl, _, rfl, _, rfl, _, _, rfl, rfl, ⟨by decide, by decide⟩, t, _, _, V.int (wayL ws (F e / 4) : Nat), rfl, rfl, SqT.of hS.here, at_of (j := F e / 4) e4 (nats_at (hS.at_ (by omega))), F e, wayL ws (F e / 4), rfl, k⟩
theorem ok_rf {f fE : Addr} {fd fdE : FuncData} (F : Fun K "round_from" "round_from" sRF f fd) (T : TB mg) (Ea : Cal K mg "end_after" fE fdE ["fars", "setting", "end"]) (GE : FnOk P w K mg base CX0 2 fE fdE ["fars", "setting", "end"] spEA) : FnOk P w K mg base CX0 3 f fd ["fars", "setting", "start"] spRF := by
  refine F.ok scRF (fun vs H Q E h => ?_) (fun cdv A outer s H vs Q E hr h => ?_)
  · obtain ⟨L, t, F, n, s, ws, rfl, _⟩ := h
    rfl
  · obtain ⟨L, t, F, n, st, ws, rfl, hL, hS, I, hn, hs, k⟩ := h
    have nd := scRF.nd
    have hr2 : Room 2 _ := hr
    have G := next_goes I hS.ways
    obtain ⟨kk, per, hk⟩ := G.per hs
    have kpos := per.pos
    refine ⟨_, pss_cons (ps_set (i := 3) nd rfl (Or.inl rfl) (pe_lst (pa_cons (pv 2) pa_nil)))
      (C8.pss_cut (ps_set (i := 4) nd rfl (Or.inl rfl) (pe_call GE hr2 rfl Ea.g Ea.kp Ea.b .nil pass0 (pa_cons (pv 0) (pa_cons (pv 1) (pa_cons (pv 2) pa_nil)))))
      (pss_cons (ps_while PassesOwn.never (pt_cmpR op_ne (pv 4) (pv 2) (nomark _))
        (pss_cons (ps_expr (pe_bm PySem.F.plainAttrs_list PySem.F.slot_list_append PySem.F.type_list_append mt_append (pv 3) (pa_cons (pv 4) pa_nil)))
      (pss_one (ps_set (i := 4) nd rfl (Or.inl rfl) (pe_call GE hr2 rfl Ea.g Ea.kp Ea.b .nil pass0 (pa_cons (pv 0) (pa_cons (pv 1) (pa_cons (pv 4) pa_nil))))))))
      (pss_one (ps_ret (pe_tupleOf (by rfl) T.tuple (pv 3)))))), ?_⟩
    refine ⟨_, rfl, (by show 1 ≤ sizeLine; decide), fun D hD => ?_⟩
    have sD := Same.new (o := .lst [V.int (st : Nat)]) hD
    refine ⟨fun σ H2 => σ = [some (.ref L), some (.ref t), some (.int (st : Nat)), some (.ref D), some (.int (iter (nextE F (wayL ws)) 1 st : Nat))] ∧ H2 D = some (.lst (nats (rnd (nextE F (wayL ws)) st 1))) ∧ Same H H2, ?_, ?_⟩
    · exact ⟨_, rfl, _, rfl, _, rfl, L, t, F, n, st, ws, rfl, sD _ _ hL, hS.mono (sameT sD), I, hs, rfl, upd_same, sD⟩
    · rintro σ0 H0 ⟨rfl, h0, s0⟩
      unfold tSeq
      refine while_by (fun σ H2 => ∃ i, i < kk ∧ σ = [some (.ref L), some (.ref t), some (.int (st : Nat)), some (.ref D), some (.int (iter (nextE F (wayL ws)) (i + 1) st : Nat))] ∧ H2 D = some (.lst (nats (rnd (nextE F (wayL ws)) st (i + 1)))) ∧ Same H H2)
        (fun σ H2 => kk - (match H2 D with
          | some (.lst xs) => xs.length
          | _ => 0)) ⟨0, kpos, rfl, h0, s0⟩ ?_ ?_
      · rintro σ H2 ⟨i, hi, rfl, h2, s2⟩
        have mu : (match H2 D with
          | some (.lst xs) => xs.length
          | _ => 0) = i + 1 := by
          rw [h2]
          show (nats _).length = _
          rw [List.length_map, rnd_len]
        refine ⟨_, rfl, _, rfl, rfl, _, rfl, ?_⟩
        by_cases hb : iter (nextE F (wayL ws)) (i + 1) st = st
        · have e1 : kk = i + 1 := by
            rcases Nat.lt_or_ge (i + 1) kk with h | h
            · exact absurd hb (per.first (i + 1) (by omega) h)
            · omega
          rw [show (!decide (V.int (iter (nextE F (wayL ws)) (i + 1) st : Nat) = V.int (st : Nat))) = false by rw [hb, decide_eq_true rfl]; rfl]
          refine iteF ⟨_, rfl, .inl ⟨D, _, rfl, SqL.of h2, fun u hu => ?_⟩⟩
          have su := Same.new (o := .tup (nats (rnd (nextE F (wayL ws)) st (i + 1)))) hu
          exact k _ u kk (s2.trans su) per (by rw [upd_same, e1])
        · have hlt : i + 1 < kk := by
            rcases Nat.lt_or_ge (i + 1) kk with h | h
            · exact h
            · have : kk = i + 1 := by omega
              rw [← this] at hb
              exact absurd per.back hb
          have ne : ¬ (V.int (iter (nextE F (wayL ws)) (i + 1) st : Nat) = V.int (st : Nat)) := fun z => hb (by have := V.int.inj z; omega)
          rw [show (!decide (V.int (iter (nextE F (wayL ws)) (i + 1) st : Nat) = V.int (st : Nat))) = true by rw [decide_eq_false ne]; rfl]
          refine iteT ⟨_, rfl, .inl ⟨rfl, _, SqL.of h2⟩, _, rfl, D, _, _, rfl, rfl, h2, small1000 (by rw [List.length_map, rnd_len]; omega), ?_⟩
          have s3 : Same H (upd H2 D (.lst (nats (rnd (nextE F (wayL ws)) st (i + 1)) ++ [V.int (iter (nextE F (wayL ws)) (i + 1) st : Nat)]))) := fun b o e => by
            rw [upd_ne (ne_of_none e hD)]
            exact s2 _ _ e
          have h3 : (upd H2 D (.lst (nats (rnd (nextE F (wayL ws)) st (i + 1)) ++ [V.int (iter (nextE F (wayL ws)) (i + 1) st : Nat)]))) D = some (.lst (nats (rnd (nextE F (wayL ws)) st (i + 1 + 1)))) := by
            rw [upd_same, rnd_snoc _ _ (i + 1), nats_app (rnd _ _ (i + 1))]
            rfl
          refine ⟨_, rfl, _, rfl, _, rfl, L, t, F, n, _, ws, rfl, s3 _ _ hL, hS.mono (sameT s3), I, G.iter_lt hs (i + 1), ⟨i + 1, hlt, rfl, h3, s3⟩, ?_⟩
          rw [mu, h3]
          show kk - (nats _).length < _
          rw [List.length_map, rnd_len]
          omega
      · intro σ H1 Q1 Q2 hq h
        obtain ⟨v, e1, v2, e2, e3, kk', h5, q⟩ := h
        exact ⟨v, e1, v2, e2, e3, kk', h5, hq _ _ q⟩
end
end One
end P_Y1

section P_Y2
set_option linter.all false
set_option maxRecDepth 100000
set_option maxHeartbeats 8000000
namespace One
open PySem PySem.Spec PyProof.Rows L2
/-- what is told as gone -/
def GoneL (F W : Nat → Nat) (n : Nat) (rs : List (Nat × Nat)) (xs : List Nat) (g : List Bool) : Prop := g.length = 4 * n ∧ ∀ e, e < 4 * n → (g[e]? = some true ↔ Gone F W rs e ∨ ∃ x ∈ xs, e = x ∨ e = F x)
theorem GoneL.step {F W : Nat → Nat} {n x : Nat} {rs : List (Nat × Nat)} {xs : List Nat} {g : List Bool} (h : GoneL F W n rs xs g) (hx : x < 4 * n) (hF : F x < 4 * n) : GoneL F W n rs (xs ++ [x]) ((g.set x true).set (F x) true) := by
  obtain ⟨l, k⟩ := h
  refine ⟨by rw [List.length_set, List.length_set, l], fun e he => ?_⟩
  have hs : ((g.set x true).set (F x) true)[e]? = some true ↔ e = F x ∨ e = x ∨ g[e]? = some true := by
    by_cases h1 : F x = e
    · subst h1
      rw [List.getElem?_set_self (by rw [List.length_set, l]; exact hF)]
      simp
    · rw [List.getElem?_set_ne h1]
      by_cases h2 : x = e
      · subst h2
        rw [List.getElem?_set_self (by rw [l]; exact hx)]
        simp
      · rw [List.getElem?_set_ne h2]
        refine ⟨fun q => .inr (.inr q), fun q => ?_⟩
        rcases q with q | q | q
        · exact absurd q.symm h1
        · exact absurd q.symm h2
        · exact q
  rw [hs, k e he]
  constructor
  · rintro (q | q | q | ⟨y, hy, q⟩)
    · exact .inr ⟨x, by simp, .inr q⟩
    · exact .inr ⟨x, by simp, .inl q⟩
    · exact .inl q
    · exact .inr ⟨y, by simp [hy], q⟩
  · rintro (q | ⟨y, hy, q⟩)
    · exact .inr (.inr (.inl q))
    · rcases List.mem_append.mp hy with hy | hy
      · exact .inr (.inr (.inr ⟨y, hy, q⟩))
      · rw [List.mem_singleton.mp hy] at q
        rcases q with q | q
        · exact .inr (.inl q)
        · exact .inl q
theorem GoneL.done {F W : Nat → Nat} {n i k : Nat} {rs : List (Nat × Nat)} {g : List Bool} (I : Inv2 F n) (hW : ∀ c, c < n → W c < 3) (hi : i < 4 * n) (h : GoneL F W n rs (rnd (nextE F W) i k) g) : GoneL F W n (rs ++ [(i, k)]) [] g := by
  obtain ⟨l, q⟩ := h
  refine ⟨l, fun e he => (q e he).trans ?_⟩
  constructor
  · rintro (⟨p, hp, z⟩ | ⟨x, hx, z⟩)
    · exact .inl ⟨p, List.mem_append_left _ hp, z⟩
    · refine .inl ⟨(i, k), List.mem_append_right _ (List.mem_singleton.mpr rfl), ?_⟩
      rcases z with rfl | rfl
      · exact .inl hx
      · exact .inr (by
          show F (F x) ∈ _
          rw [I.inv x (rnd_lt I hW hi hx)]
          exact hx)
  · rintro (⟨p, hp, z⟩ | ⟨x, hx, _⟩)
    · rcases List.mem_append.mp hp with hp | hp
      · exact .inl ⟨p, hp, z⟩
      · rw [List.mem_singleton.mp hp] at z
        rcases z with z | z
        · exact .inr ⟨e, z, .inl rfl⟩
        · exact .inr ⟨F e, z, .inr (I.inv e he).symm⟩
    · exact absurd hx (by simp)
theorem bl_at {g : List Bool} {e : Nat} {b : Bool} (h : g[e]? = some b) : (g.map V.bl)[e]? = some (V.bl b) := by
  rw [List.getElem?_map, h]
  rfl
theorem bl_set (g : List Bool) (j : Nat) : (g.map V.bl).set j (V.bl true) = (g.set j true).map V.bl := (List.map_set).symm
section
variable {P : Program} {w : World} {K : PySem.W.Frag} {mg : Str → Option Value} {base : Heap}
theorem ok_rb {f fR : Addr} {fd fdR : FuncData} (F : Fun K "rounds_by_fars" "rounds_by_fars" sRB f fd) (T : TB mg) (Rf : Cal K mg "round_from" fR fdR ["fars", "setting", "start"]) (GR : FnOk P w K mg base CX0 3 fR fdR ["fars", "setting", "start"] spRF) : FnOk P w K mg base CX0 4 f fd ["fars", "setting"] spRB := by
  refine F.ok scRB (fun vs H Q E h => ?_) (fun cdv A outer s H vs Q E hr h => ?_)
  · obtain ⟨L, t, F, n, ws, rfl, _⟩ := h
    rfl
  · obtain ⟨L, t, F, n, ws, rfl, hL, hS, I, hn, k⟩ := h
    have nd := scRB.nd
    have hr3 : Room 3 _ := hr
    have hW := hS.ways
    refine ⟨_, pss_cons (ps_set (i := 2) nd rfl (Or.inl rfl) (pe_lst pa_nil))
      (pss_cons (ps_set (i := 3) nd rfl (Or.inl rfl) (pe_op op_rep (pe_lst (pa_cons pe_bl pa_nil)) (pe_callB call_len_seq (by rfl) T.len PySem.boot_len (pa_cons (pv 0) pa_nil))))
      (pss_cons (ps_for PassesOwn.never rfl (pi_range1 (by rfl) T.range (pa_cons (pe_callB call_len_seq (by rfl) T.len PySem.boot_len (pa_cons (pv 0) pa_nil)) pa_nil)) (pg_name (i := 4) nd rfl (Or.inl rfl))
        (pss_one (ps_if (pt_not (pt_val (pe_ix ix_list (pv 3) (pv 4) (fun _ _ => rfl)))) (pss_cons (ps_set (i := 5) nd rfl (Or.inl rfl) (pe_call GR hr3 rfl Rf.g Rf.kp Rf.b .nil pass0 (pa_cons (pv 0) (pa_cons (pv 1) (pa_cons (pv 4) pa_nil)))))
      (pss_cons (ps_for PassesOwn.never rfl (pi_tup (pv 5)) (pg_name (i := 6) nd rfl (Or.inl rfl))
        (pss_one (ps_asg2 pe_bl (pg_sub (pv 3) (pv 6) set_list) (pg_sub (pv 3) (pe_ix ix_list (pv 0) (pv 6) (fun _ _ => rfl)) set_list))))
      (pss_one (ps_expr (pe_bm PySem.F.plainAttrs_list PySem.F.slot_list_append PySem.F.type_list_append mt_append (pv 2) (pa_cons (pv 5) pa_nil)))))) pss_nil)))
      (pss_one (ps_ret (pe_tupleOf (by rfl) T.tuple (pv 2)))))), ?_⟩
    refine ⟨Nat.zero_le _, fun R hR => ?_⟩
    have s1 := Same.new (o := .lst []) hR
    refine ⟨by show 1 ≤ sizeLine; decide, fun l1 hl1 => ⟨_, rfl, L, _, rfl, .inl (SqL.of ((Same.new hl1) _ _ (s1 _ _ hL))), ?_⟩⟩
    have s2 := s1.trans (Same.new (o := .lst [V.bl false]) hl1)
    have lF : (farL F n).length = 4 * n := farL_len F n
    refine ⟨l1, _, _, rfl, rfl, upd_same, by omega, by omega, (by rw [lF]; show 1 * _ ≤ _; exact Nat.le_of_lt (small1000 (by omega))), fun Gn hGn => ?_⟩
    have eR : (List.replicate (((farL F n).length : Nat) : Int).toNat [V.bl false]).flatten = (List.replicate (4 * n) false).map V.bl := by
      rw [lF, show ((4 * n : Nat) : Int).toNat = 4 * n by omega, List.map_replicate]
      exact flat_rep _ _
    have s3 := s2.trans (Same.new (o := .lst (List.replicate (((farL F n).length : Nat) : Int).toNat [V.bl false]).flatten) hGn)
    have hG0 : H Gn = none := s2.free hGn
    have hRl : (upd (upd H R (.lst [])) l1 (.lst [V.bl false])) R = some (.lst []) := (Same.new hl1) _ _ upd_same
    have nRG : R ≠ Gn := ne_of_none hRl hGn
    have hR3 := (Same.new (o := .lst (List.replicate (((farL F n).length : Nat) : Int).toNat [V.bl false]).flatten) hGn) _ _ hRl
    have hG3 : (upd (upd (upd H R (.lst [])) l1 (.lst [V.bl false])) Gn (.lst (List.replicate (((farL F n).length : Nat) : Int).toNat [V.bl false]).flatten)) Gn = some (.lst ((List.replicate (4 * n) false).map V.bl)) := by rw [upd_same, eR]
    generalize upd (upd (upd H R (.lst [])) l1 (.lst [V.bl false])) Gn (.lst (List.replicate (((farL F n).length : Nat) : Int).toNat [V.bl false]).flatten) = H3 at s3 hR3 hG3 ⊢
    have hL3 := s3 _ _ hL
    refine ⟨_, rfl, L, _, rfl, .inl (SqL.of hL3), _, rfl, by rw [lF]; omega, by rw [lF]; omega, ?_⟩
    rw [lF, show ((4 * n : Nat) : Int).toNat = 4 * n by omega]
    refine for_range (lo := 0) (n := 4 * n) (fun i σ H' => ∃ (v4 v5 v6 : Option V) (as : List Addr) (rs : List (Nat × Nat)) (g : List Bool), σ = [some (.ref L), some (.ref t), some (.ref R), some (.ref Gn), v4, v5, v6] ∧ H' R = some (.lst (refs as)) ∧ RsAt (nextE F (wayL ws)) H' as rs ∧ RTo F (wayL ws) n i rs ∧
        H' Gn = some (.lst (g.map V.bl)) ∧ GoneL F (wayL ws) n rs [] g ∧ Same H H')
      ⟨none, none, none, [], [], List.replicate (4 * n) false, rfl, hR3, .nil, rto_nil, hG3, ⟨List.length_replicate, fun e he => ?_⟩, s3⟩ ?_ ?_
    · rw [List.getElem?_replicate, if_pos he]
      refine ⟨fun z => (by cases z), fun z => ?_⟩
      rcases z with ⟨p, hp, _⟩ | ⟨x, hx, _⟩
      · exact absurd hp (by simp)
      · exact absurd hx (by simp)
    · rintro i σ H4 hi ⟨v4, v5, v6, as, rs, g, rfl, hR4, hA4, R4, hG4, g4, s4⟩
      rw [Int.zero_add]
      obtain ⟨b, hb⟩ : ∃ b, g[i]? = some b := ⟨_, List.getElem?_eq_getElem (by rw [g4.1]; exact hi)⟩
      refine ⟨_, rfl, _, rfl, Gn, _, _, V.bl b, rfl, rfl, SqL.of hG4, at_of (j := i) rfl (bl_at hb), b, rfl, ?_⟩
      have gi := g4.2 i hi
      cases b with
      | true =>
        refine iteF ?_
        refine ⟨_, _, _, as, rs, g, rfl, hR4, hA4, R4.skip ?_, hG4, g4, s4⟩
        rcases gi.mp hb with z | ⟨x, hx, _⟩
        · exact z
        · exact absurd hx (by simp)
      | false =>
        have ng : ¬ Gone F (wayL ws) rs i := fun z => by
          rw [gi.mpr (.inl z)] at hb
          cases hb
        refine iteT ⟨_, rfl, _, rfl, _, rfl, L, t, F, n, i, ws, rfl, s4 _ _ hL, hS.mono (sameT s4), I, hn, hi, fun H5 u kk s5 per hu => ?_⟩
        have s05 := s4.trans s5
        refine ⟨_, rfl, u, rfl, ⟨_, SqT.of hu⟩, ?_⟩
        have rl : (nats (rnd (nextE F (wayL ws)) i kk)).length = kk := by rw [List.length_map, rnd_len]
        refine for_it (walk_tup (K := K) (a := u) (xs := nats (rnd (nextE F (wayL ws)) i kk))) (fun j σ H' => ∃ (v6' : Option V) (g' : List Bool), σ = [some (.ref L), some (.ref t), some (.ref R), some (.ref Gn), some (.int (i : Nat)), some (.ref u), v6'] ∧ H' R = some (.lst (refs as)) ∧ RsAt (nextE F (wayL ws)) H' as rs ∧
            H' u = some (.tup (nats (rnd (nextE F (wayL ws)) i kk))) ∧ H' Gn = some (.lst (g'.map V.bl)) ∧ GoneL F (wayL ws) n rs ((rnd (nextE F (wayL ws)) i kk).take j) g' ∧ Same H H')
          ⟨_, g, rfl, s5 _ _ hR4, hA4.mono (sameT s5), hu, s5 _ _ hG4, g4, s05⟩ (fun j σ H' _ ⟨_, _, _, _, _, h', _⟩ => SqT.of h') ?_ ?_
        · rintro j v σ H6 H7 hj ⟨v6', g', rfl, hR6, hA6, hu6, hG6, g6, s6⟩ ⟨rfl, hv⟩
          have hv : (nats (rnd (nextE F (wayL ws)) i kk))[j]? = some v := hv
          rw [rl] at hj
          have hjr : j < (rnd (nextE F (wayL ws)) i kk).length := by rw [rnd_len]; exact hj
          rw [List.getElem?_map, List.getElem?_eq_getElem hjr] at hv
          cases hv
          generalize hxe : (rnd (nextE F (wayL ws)) i kk)[j] = x
          have hx : (rnd (nextE F (wayL ws)) i kk)[j]? = some x := by rw [List.getElem?_eq_getElem hjr, hxe]
          have xl : x < 4 * n := rnd_lt I hW hi (List.mem_of_getElem? hx)
          have fl := I.lt x xl
          refine ⟨_, rfl, _, rfl, Gn, _, _, x, rfl, rfl, hG6, ix_nat (by rw [List.length_map, g6.1]; exact xl), ?_⟩
          rw [bl_set]
          have hL6 := s6 _ _ hL
          have s7 : ∀ (o : HO), Same H (upd H7 Gn o) := fun o b u' e => by
            rw [upd_ne (ne_of_none e hG0)]
            exact s6 _ _ e
          refine ⟨_, rfl, _, rfl, _, rfl, L, _, _, V.int (F x : Nat), rfl, rfl, SqL.of (s7 _ _ _ hL), at_of (j := x) rfl (farL_at xl), Gn, _, _, F x, rfl, rfl, upd_same, ix_nat (by rw [List.length_map, List.length_set, g6.1]; exact fl), ?_⟩
          rw [bl_set]
          have k8 : ∀ b o, b ≠ Gn → H7 b = some o → (upd (upd H7 Gn (.lst ((g'.set x true).map V.bl))) Gn (.lst (((g'.set x true).set (F x) true).map V.bl))) b = some o := fun b o hb e => by rw [upd_ne hb, upd_ne hb]; exact e
          have kT : ∀ b xs, H7 b = some (.tup xs) → (upd (upd H7 Gn (.lst ((g'.set x true).map V.bl))) Gn (.lst (((g'.set x true).set (F x) true).map V.bl))) b = some (.tup xs) := fun b xs e => k8 b _ (ne_of e hG6 (by intro z; cases z)) e
          refine ⟨_, _, rfl, k8 _ _ nRG hR6, hA6.mono kT, kT _ _ hu6, upd_same, ?_, fun b o e => k8 _ _ (ne_of_none e hG0) (s6 _ _ e)⟩
          rw [List.take_succ, hx, Option.toList_some]
          exact g6.step xl fl
        · rintro σ H6 ⟨v6', g', rfl, hR6, hA6, hu6, hG6, g6, s6⟩
          rw [rl, List.take_of_length_le (by rw [rnd_len]; exact Nat.le_refl _)] at g6
          refine ⟨_, rfl, .inl ⟨rfl, _, SqL.of hR6⟩, _, rfl, R, _, _, rfl, rfl, hR6, small1000 ?_, ?_⟩
          · rw [List.length_map, hA4.len]
            have nd2 : (rs.map (·.1)).Nodup := by
              unfold List.Nodup
              rw [List.pairwise_map]
              exact R4.up.imp fun h => Nat.ne_of_lt h
            have := pigeon i (rs.map (·.1)) nd2 fun x hx => by
              obtain ⟨p, hp, rfl⟩ := List.mem_map.mp hx
              exact R4.low p hp
            rw [List.length_map] at this
            omega
          · have k7 : ∀ b xs, H6 b = some (.tup xs) → (upd H6 R (.lst (refs as ++ [V.ref u]))) b = some (.tup xs) := fun b xs e => (upd_ne (ne_of e hR6 (by intro z; cases z))).trans e
            refine ⟨_, _, _, as ++ [u], rs ++ [(i, kk)], g', rfl, by rw [upd_same, refs_app]; rfl, (hA6.mono k7).app (.cons (k7 _ _ hu6) .nil), R4.more I hW hi ng per, (upd_ne (Ne.symm nRG)).trans hG6, g6.done I hW hi, fun b o e => ?_⟩
            rw [upd_ne (ne_of_none e hR)]
            exact s6 _ _ e
    · rintro σ H4 ⟨v4, v5, v6, as, rs, g, rfl, hR4, hA4, R4, hG4, g4, s4⟩
      refine ⟨_, rfl, .inl ⟨R, _, rfl, SqL.of hR4, fun u hu => ?_⟩⟩
      have su := Same.new (o := .tup (refs as)) hu
      exact k _ u as rs (s4.trans su) upd_same (hA4.mono (sameT su)) R4.done
end
end One
end P_Y2

section P_G1
set_option linter.all false
set_option maxRecDepth 100000
set_option maxHeartbeats 4000000
namespace One
open PySem PySem.Spec PyProof.Rows L2
/-! ### promises for runs in which nothing is being shown -/
structure FnG (P : Program) (w : World) (K : PySem.W.Frag) (mg : Str → Option Value) (base : Heap) (CX : CXT) (k : Nat) (f : Addr) (fd : FuncData) (ps : List Str) (sp : Sp) : Prop where
  len : ∀ vs H Q E, sp vs H Q E → vs.length = ps.length
  go : ∀ (A : Around) (outer : List Env) (s : Shared) (H : Hp) (args : Args) (us : List Value) (vs : List V) (Q : VK) (E : XK), A.guards = some [] → Room k A → Env0 P w K mg base A outer s H →
    BindsTo s fd args (ps.zip us) → Vals vs us → sp vs H Q E → codeAny (model P w) A (.call (.ref f) args) (CR CX outer P w H s Q E) s
theorem FnG.of {P : Program} {w : World} {K : PySem.W.Frag} {mg : Str → Option Value} {base : Heap} {CX : CXT} {k : Nat} {f : Addr} {fd : FuncData} {ps : List Str} {sp : Sp} (F : FnOk P w K mg base CX k f fd ps sp) : FnG P w K mg base CX k f fd ps sp :=
  ⟨F.len, fun A outer s H args us vs Q E _ => F.run A outer s H args us vs Q E⟩
theorem FnG.mono {P : Program} {w : World} {K : PySem.W.Frag} {mg : Str → Option Value} {base : Heap} {CX : CXT} {j k : Nat} {f : Addr} {fd : FuncData} {ps : List Str} {sp : Sp} (F : FnG P w K mg base CX j f fd ps sp) (h : j ≤ k) : FnG P w K mg base CX k f fd ps sp :=
  ⟨F.len, fun A outer s H args us vs Q E hg hr => F.go A outer s H args us vs Q E hg (hr.mono h)⟩
section
variable {P : Program} {w : World} {K : PySem.W.Frag} {mg : Str → Option Value} {base : Heap}
/-- a def by its body -/
theorem okG {CX : CXT} {x qual : Str} {st : Stmt} {f : Addr} {fd : FuncData} {N ps : List Str} {k : Nat} {sp : Sp} (F : Fun K x qual st f fd) (S : FnScope N ps (defScope st)) (len : ∀ vs H Q E, sp vs H Q E → vs.length = ps.length)
    (body : ∀ (cdv : Value) (A : Around) (outer : List Env) (s : Shared) (H : Hp) (vs : List V) (Q : VK) (E : XK), A.guards = some [] → Room k (A.deeper (envOfC qual (defScope st) s.heap.objs.size f cdv)) → sp vs H Q E →
      ∃ t, PSs (cxOf CX P w K mg base N qual (defScope st) f cdv A outer s H E) (defBody st) t ∧ t { nx := fun _ H' => Q .non H', rt := Q } (start N vs) H) : FnG P w K mg base CX (k + 1) f fd ps sp := by
  obtain ⟨oc, od, kV, doc, pm, an, cdv, ct, osl, rfl, lk, hcd⟩ := F.ex
  exact ⟨len, fun A outer s H args us vs Q E hg hr e0 hb r hs => LamX.run_ofS lk hcd S hr e0 hb r (len _ _ _ _ hs) fun hr1 => body cdv A outer s H vs Q E hg hr1 hs⟩
/-- .. that lets nothing out -/
theorem okG0 {x qual : Str} {st : Stmt} {f : Addr} {fd : FuncData} {N ps : List Str} {k : Nat} {sp : Sp} (F : Fun K x qual st f fd) (S : FnScope N ps (defScope st)) (len : ∀ vs H Q E, sp vs H Q E → vs.length = ps.length)
    (body : ∀ (cdv : Value) (A : Around) (outer : List Env) (s : Shared) (H : Hp) (vs : List V) (Q : VK) (E : XK), A.guards = some [] → Room k (A.deeper (envOfC qual (defScope st) s.heap.objs.size f cdv)) → sp vs H Q E →
      ∃ t, PSs (cxOf CX0 P w K mg base N qual (defScope st) f cdv A outer s H E).nox (defBody st) t ∧ t { nx := fun _ H' => Q .non H', rt := Q } (start N vs) H) : FnG P w K mg base CX0 (k + 1) f fd ps sp :=
  okG F S len fun cdv A outer s H vs Q E hg hr hs => let ⟨t, h, q⟩ := body cdv A outer s H vs Q E hg hr hs; ⟨t, h.nox, q⟩
end
section
variable {X : Cx} {CX : CXT} {k : Nat} {f : Addr} {fd : FuncData} {ps : List Str} {sp : Sp} {dvs : List V} {ds : List Value} {E : XK} {x : Str} {p pos : Pos} {e : Expr} {es : List Expr} {t : TA}
theorem goG {pins : List (Addr × Obj)} {σ : L2.St} {H : Hp} {s : Shared} {Q : VK} {us : List Value} {vs : List V} (F : FnG X.prog X.w X.K X.mg X.base CX k f fd ps sp) (hgd : X.A.guards = some []) (hr : Room k X.A) (hb : Binds X.K fd ps ds) (hd : Vals dvs ds)
    (hx : Passes CX X E) (I : Inv X pins σ H s) (r : Vals vs us) (h : sp (vs ++ dvs) H Q E) : wpAny (model X.prog X.w) X.A (call (.ref f) us) (EP X pins σ Q) X.xe s := by
  have r2 := r.append hd
  have hl : (us ++ ds).length = ps.length := r2.length.symm.trans (F.len _ _ _ _ h)
  refine wpAny_call (codeAny_mono (F.go X.A X.stack s H ⟨us, []⟩ _ _ Q E hgd hr I.env0 (hb s us I.kIn hl) r2 h) fun r s' hq => ?_)
  match r, hq with
  | .error e, hq => exact hx pins σ H s e s' I hq
  | .ok (.ret u), hq => exact I.after hq
  | .ok .next, hq => exact hq.elim
  | .ok .brk, hq => exact hq.elim
  | .ok .cont, hq => exact hq.elim
theorem pe_callG (F : FnG X.prog X.w X.K X.mg X.base CX k f fd ps sp) (hgd : X.A.guards = some []) (hr : Room k X.A) (hg : Gl X x) (hm : X.mg x = some (.ref f)) (hk : PySem.W.keepIn X.K (.ref f) = true) (hb : Binds X.K fd ps ds) (hd : Vals dvs ds) (hx : Passes CX X E)
    (ha : PA X (e :: es) t) (hdb : (x == ("__debug__" : Str)) = false := by decide) (he : starEach (e :: es) X.env = (false, eval e X.env) :: starEach es X.env := by rfl) (hpl : (backTo pos (starEach es X.env)).any (·.1) = false := by rfl) : PE X (.Call (.Name x p) (e :: es) [] pos) (tCall sp dvs E t) := by
  refine ⟨fun pins s σ H Q I h => wpAny_Call_Name_kw (ld_glob I hg hm ?_ hdb)⟩
  exact PySem.W.callWith_K (h₀ := X.base) I.ok.mod.kin hk (thn (ha.run pos pins s σ H _ I h) fun us s1 ⟨vs, H1, I1, r, q⟩ => ⟨I1.kIn, goG F hgd hr hb hd hx I1 r q⟩) he hpl
/-- repr(..) of a list or a tuple, at any depth -/
theorem call_repr_data (hgd : X.A.guards = some []) (hu : X.A.units + 64 < cLine) : CallR X (.builtin "repr") (fun xs H Q => ∃ (a : Addr) (d : PyData), xs = [.ref a] ∧ Dp X.K H (.ref a) d ∧ d.showable = true ∧ d.hasDict = false ∧ d.depth ≤ 16 ∧ d.shown.length ≤ sizeLine ∧ Q (.str d.shown) H) := by
  intro pins s σ H xs us Q I r h
  obtain ⟨a, d, rfl, hd, h1, h2, h3, h4, q⟩ := h
  obtain ⟨u, rfl, e⟩ := vals1 r
  cases e
  obtain ⟨as, hR⟩ := Dp.reads I d _ _ hd rfl
  exact repr_of_reads' hR h1 (fun z => Bool.noConfusion (h2.symm.trans z)) hgd (by omega) (fun _ _ e => e) (fun h' u tk hk => ⟨.str d.shown, H, I.kept hk, ⟨_, rfl⟩, q⟩) h4
end
end One
end P_G1

section P_G2
set_option linter.all false
set_option maxRecDepth 100000
set_option maxHeartbeats 4000000
namespace One
open PySem PySem.Spec PyProof.Rows L2
/-! ### a tuple of pairs, as data -/
def prD (p : Nat × Nat) : PyData := .tuple [.int (p.1 : Nat), .int (p.2 : Nat)]
def yd (ps : List (Nat × Nat)) : PyData := .tuple (ps.map prD)
theorem dp_pair {K : PySem.W.Frag} {H : Hp} {a : Addr} {p : Nat × Nat} (h : PAt H a p) : Dp K H (.ref a) (prD p) := .tup (SqT.of h) (.cons (.int _) (.cons (.int _) .nil))
theorem dp_pairs {K : PySem.W.Frag} {H : Hp} {as : List Addr} {ps : List (Nat × Nat)} (h : PL H as ps) : DpAll K H (refs as) (ps.map prD) := by
  induction h with
  | nil => exact .nil
  | cons h1 _ ih => exact .cons (dp_pair h1) ih
theorem dp_yd {K : PySem.W.Frag} {H : Hp} {t : Addr} {as : List Addr} {ps : List (Nat × Nat)} (ht : H t = some (.tup (refs as))) (h : PL H as ps) : Dp K H (.ref t) (yd ps) := .tup (SqT.of ht) (dp_pairs h)
theorem int_short : ∀ n : Nat, n < 1000 → (PyData.shown (.int (n : Nat))).length ≤ 8 := by
  have h : ∀ n : Fin 1000, (PyData.shown (.int ((n : Nat) : Int))).length ≤ 8 := by decide +kernel
  exact fun n hn => h ⟨n, hn⟩
theorem log_small {n : Nat} (h : n < 1000) : n.log2 < 1920 := by
  by_cases h0 : n = 0
  · subst h0; decide
  · exact (Nat.log2_lt h0).mpr (Nat.lt_of_lt_of_le h (Nat.le_trans (by decide : 1000 ≤ 2 ^ 10) (Nat.pow_le_pow_right (by decide) (by decide))))
theorem yd_all : ∀ ps : List (Nat × Nat), (∀ p ∈ ps, p.1 < 1000 ∧ p.2 < 1000) → PyData.showableAll (ps.map prD) = true ∧ PyData.hasDictAll (ps.map prD) = false ∧ PyData.depthAll (ps.map prD) ≤ 1 ∧ PyData.leavesShortAll 8 (ps.map prD) = true ∧ PyData.bulkAll (ps.map prD) = 3 * ps.length
  | [], _ => ⟨rfl, rfl, Nat.zero_le _, rfl, rfl⟩
  | p :: r, h => by
    obtain ⟨h1, h2, h3, h4, h5⟩ := yd_all r fun q m => h q (List.mem_cons_of_mem _ m)
    obtain ⟨q1, q2⟩ := h p (List.mem_cons_self ..)
    have a1 : PyData.showable (prD p) = true := by
      show (decide (((p.1 : Nat) : Int).natAbs.log2 < 1920) && (decide (((p.2 : Nat) : Int).natAbs.log2 < 1920) && true)) = true
      simp only [Int.natAbs_natCast, Bool.and_eq_true, decide_eq_true_eq, and_true]
      exact ⟨log_small q1, log_small q2⟩
    have a4 : PyData.leavesShort 8 (prD p) = true := by
      show (decide (_ ≤ 8) && (decide (_ ≤ 8) && true)) = true
      simp only [Bool.and_eq_true, decide_eq_true_eq, and_true]
      exact ⟨int_short _ q1, int_short _ q2⟩
    refine ⟨?_, ?_, ?_, ?_, ?_⟩
    · show (PyData.showable (prD p) && PyData.showableAll _) = true
      rw [a1, h1]; rfl
    · show (PyData.hasDict (prD p) || PyData.hasDictAll _) = false
      rw [h2]; rfl
    · show max (PyData.depth (prD p)) (PyData.depthAll _) ≤ 1
      exact Nat.max_le.mpr ⟨Nat.le_refl 1, h3⟩
    · show (PyData.leavesShort 8 (prD p) && PyData.leavesShortAll 8 _) = true
      rw [a4, h4]; rfl
    · show PyData.bulk (prD p) + 1 + PyData.bulkAll _ = _
      rw [h5]
      show 0 + 1 + (0 + 1 + 0) + 1 + 3 * r.length = 3 * (r.length + 1)
      omega
theorem yd_fine {ps : List (Nat × Nat)} (h : ∀ p ∈ ps, p.1 < 1000 ∧ p.2 < 1000) (hl : ps.length ≤ 1000) : (yd ps).showable = true ∧ (yd ps).hasDict = false ∧ (yd ps).depth ≤ 16 ∧ (yd ps).shown.length ≤ sizeLine := by
  obtain ⟨h1, h2, h3, h4, h5⟩ := yd_all ps h
  refine ⟨h1, h2, ?_, ?_⟩
  · show PyData.depthAll _ + 1 ≤ 16
    omega
  · have q := PyData.shown_le_bulk 8 (Nat.le_refl _) (yd ps) h4
    have e : (yd ps).bulk = 3 * ps.length := h5
    rw [e] at q
    have : (40000 : Nat) ≤ sizeLine := by decide
    omega
def rRepr (K : PySem.W.Frag) : List V → Hp → VK → Prop := fun xs H Q => ∃ (a : Addr) (d : PyData), xs = [.ref a] ∧ Dp K H (.ref a) d ∧ d.showable = true ∧ d.hasDict = false ∧ d.depth ≤ 16 ∧ d.shown.length ≤ sizeLine ∧ Q (.str d.shown) H
/-- repr(..) of a tuple of pairs -/
theorem repr_yd {K : PySem.W.Frag} {H : Hp} {t : Addr} {as : List Addr} {ps : List (Nat × Nat)} {Q : VK} (ht : H t = some (.tup (refs as))) (hp : PL H as ps) (h : ∀ p ∈ ps, p.1 < 1000 ∧ p.2 < 1000) (hl : ps.length ≤ 1000) (q : Q (.str (yd ps).shown) H) : rRepr K [.ref t] H Q := by
  obtain ⟨h1, h2, h3, h4⟩ := yd_fine h hl
  exact ⟨t, _, rfl, dp_yd ht hp, h1, h2, h3, h4, q⟩
theorem cr_repr {X : Cx} (hgd : X.A.guards = some []) (hu : X.A.units + 64 < cLine) : CallR X (.builtin "repr") (rRepr X.K) := call_repr_data hgd hu
end One
end P_G2

section P_X1
set_option linter.all false
set_option maxRecDepth 100000
set_option maxHeartbeats 4000000
/-! An own exception, some way below ValueError, whose __init__ says super().__init__(f'..{f}'); self.f = f -/
namespace One
open PySem PySem.W PySem.Calls PyProof.Rows PySem.HandSPX L2
def xA (fld : Str) (p1 p2 : Pos) : Arguments := { posonlyargs := [], args := [{ arg := "self", annotation := none, pos := p1 }, { arg := fld, annotation := none, pos := p2 }], vararg := none, kwonlyargs := [], kw_defaults := [], kwarg := none, defaults := [] }
abbrev xJ (pre fld : Str) (a3 a4 a5 a6 : Pos) : Expr := .JoinedStr [.Constant (.str pre) 0 a3, .FormattedValue (.Name fld a4) (-1) none a5] a6
abbrev xO (a0 a1 : Pos) : Expr := .Call (.Name "super" a0) [] [] a1
abbrev xB (pre fld : Str) (a0 a1 a2 a3 a4 a5 a6 a7 a8 a9 b0 b1 b2 : Pos) : List Stmt := [.Expr (.Call (.Attribute (xO a0 a1) "__init__" a2) [xJ pre fld a3 a4 a5 a6] [] a7) a8, .Assign [.Attribute (.Name "self" a9) fld b0] (.Name fld b1) b2]
def xS (fld : Str) : Scope := { kind := .function, names := [(PySem.Str.ofString "self", .local), (fld, .local), (PySem.Str.ofString "__class__", .free), (PySem.Str.ofString "super", .globalImplicit)], isGenerator := false, isCoroutine := false, more := [] }

def FldOk (fld : Str) : Prop := fld = "place" ∨ fld = "way" ∨ fld = "many"
/-- the value may be shown in an f-string: some text of bounded length, the heap unchanged -/
def FmtOk (P : Program) (w : World) (h : Heap) (v : Value) : Prop := ∀ (A : Around) (E : Value → Shared → Prop) (s : Shared) (Q : Value → Shared → Prop), A.units + 64 < cLine → (∀ b o, h.get? b = some o → s.heap.get? b = some o) →
  (∀ (m : Str) (u tk : Tok), m.length ≤ 100000 → Q (.str m u) { s with toks := tk }) → wpAny (model P w) A (formatField v Str.empty) Q E s
theorem FmtOk.keeps {P : Program} {w : World} {h h' : Heap} {v : Value} (f : FmtOk P w h v) (k : ∀ b o, h.get? b = some o → h'.get? b = some o) : FmtOk P w h' v := fun A E s Q hu hk q => f A E s Q hu (fun b o e => hk b o (k b o e)) q
/-- the form of such an __init__ -/
def Shape (st : Stmt) (fld : Str) : Prop := ∃ (p1 p2 : Pos) (pre : Str) (a0 a1 a2 a3 a4 a5 a6 a7 a8 a9 b0 b1 b2 : Pos), defArgs st = xA fld p1 p2 ∧ defBody st = xB pre fld a0 a1 a2 a3 a4 a5 a6 a7 a8 a9 b0 b1 b2 ∧ defScope st = xS fld ∧ pre.length ≤ 1000 ∧
  ∀ env, eval (.Call (.Attribute (xO a0 a1) "__init__" a2) [xJ pre fld a3 a4 a5 a6] [] a7) env = (do
    let ov ← attributeBase (xO a0 a1) "__init__" env (eval (xO a0 a1) env)
    standAt a2.atName
    let (f, first) ← holding [ov] (getMethod ov "__init__" (do return (← importBound (xO a0 a1) env).getD true))
    callWith a7 f first (backTo a7 (starEach [xJ pre fld a3 a4 a5 a6] env)) [])
/-- what the written part says of such a class, at C, and of its __init__, at fI -/
structure OwnTxt (P : Program) (K : Frag) (st : Stmt) (fld : Str) (C fI : Addr) : Prop where
  cls : ∃ nm q N bs bm sn sub ab col dd k0 k1 k2 k3 k5, K.lookup C = some (excClassObj nm q C N bs bm true sn sub ab col dd k0 k1 k2 k3 k5 "ValueError.__new__") ∧ refsVE bm = true ∧ alongIn K "__init__" (((Value.ref C :: bm).dropWhile (· != .ref C)).drop 1) = some (some (.builtin "ValueError.__init__"))
  sa : findIn K (.ref C) "__setattr__" = some (some (.builtin "object.__setattr__"))
  noF : findIn K (.ref C) fld = some none
  veB : subIn K (.ref C) (.type "ValueError") = some true
  self : mroIn K C (.ref C) = some true
  op : nsIn K cStatics "thirdparty.any" = some none
  top : (P.main.scope.names.lookup ("super" : Str)).isSome = false
  shape : Shape st fld
  fn : ∃ (oc : Value) (od : Option Addr) (qual : Str) (doc pm : Value) (an : Option Addr) (cda cc : Addr) (ct : Value) (osl : Array (Option Value)) (ccl cl : Value) (cdd cld : Option Addr) (vs : Array Value) (ccs csl : Array (Option Value)) (file : Str) (tf : Tok),
    K.lookup fI = some ⟨oc, od, .func (ksFn "__init__" qual (defArgs st) (defBody st) (defScope st) .none .none doc pm an (.ref cda) ct cc), osl⟩ ∧ codeIn K (.ref cda) qual = true ∧ K.lookup cda = some ⟨ccl, cdd, .fields vs, ccs⟩ ∧ vs[2]? = some (.str file tf) ∧
    ((P.main.file : Str) == file) = true ∧ K.lookup cc = some ⟨cl, cld, .cell (some (.ref C)), csl⟩
theorem ns_but {h h' : Heap} {a : Addr} {m : Str → Option Value} (hn : h.Ns a m) (k : ∀ o, h.get? a = some o → h'.get? a = some o) : h'.Ns a m := by
  obtain ⟨o, es, ep, e, r⟩ := hn
  exact ⟨o, es, ep, k o e, r⟩
theorem kept_but0 {K : Frag} {h h' : Heap} {x : Addr} (X : K.In h) (hx : ∀ o, K.lookup x = some o → False) (k : ∀ b o, b ≠ x → h.get? b = some o → h'.get? b = some o) : K.In h' := fun a o e => k a o (fun z => hx o (z ▸ e)) (X a o e)
section
variable {P : Program} {w : World} {A : Around} {E : Value → Shared → Prop} {R : Result → Shared → Prop} {s : Shared} {K : Frag} {mg mb : Str → Option Value} {C fI : Addr} {fld : Str} {st : Stmt}
theorem x_init (hf : FldOk fld) (T : OwnTxt P K st fld C fI) {x t0 : Addr} {v : Value} (X : K.In s.heap) (hlim : s.heap.NoLimit) (hg : s.heap.Ns mainGlobals mg) (noS : mg "super" = none) (hb : s.heap.Ns builtinsNs mb) (hbb : ∀ y : Str, y ≠ "__name__" → mb y = bootBuiltins y)
    (hx : s.heap.get? x = some (excO C t0)) (hnx : K.lookup x = none) (hroom : A.depth < recursionLimit) (hu : A.units + 100 < cLine) (hv : FmtOk P w s.heap v)
    (hq : ∀ h' tk dx, (∀ b o, b ≠ x → s.heap.get? b = some o → h'.get? b = some o) → (∃ t1 : Addr, h'.get? x = some { cls := .ref C, dict := some dx, data := .fields #[.ref t1, .none, .none, .none, .bool false, .none] }) → s.heap.objs.size ≤ dx → dx ≠ x → h'.Ns1 dx (fun y => if y = fld then some v else none) → R (.ok (.ret .none)) { s with heap := h', toks := tk }) :
    codeAny (model P w) A (.call (.ref fI) ⟨[.ref x, v], []⟩) R s := by
  obtain ⟨oc, od, qual, doc, pm, an, cda, cc, ct, osl, ccl, cl, cdd, cld, vs, ccs, csl, file, tf, ho, hcd, hcode, hvs, hfile, hcell⟩ := T.fn
  obtain ⟨p1, p2, pre, a0, a1, a2, a3, a4, a5, a6, a7, a8, a9, b0, b1, b2, eA, eB, eS, hpre, hcall⟩ := T.shape
  rw [eA, eB, eS] at ho
  obtain ⟨nm, qn, N, bs, bm, sn, sub, ab, col, dd, k0, k1, k2, k3, k5, hC, hbm, hal⟩ := T.cls
  have hcl : clsIn K C = some { name := nm, bases := bs, mro := .ref C :: bm, ns := N, qualname := qn, hasDict := true, slotNames := sn, subclasses := sub, abstract := ab, collection := col, hasDel := false } := by unfold clsIn; rw [hC] <;> rfl
  have hxC : x ≠ C := fun z => by
    have e1 := X _ _ hC
    rw [← z, hx] at e1
    cases e1
  refine ks_codeAny_call_defAt (fd := ksFn "__init__" qual (xA fld p1 p2) (xB pre fld a0 a1 a2 a3 a4 a5 a6 a7 a8 a9 b0 b1 b2) (xS fld) .none .none doc pm an (.ref cda) ct cc) (body := xB pre fld a0 a1 a2 a3 a4 a5 a6 a7 a8 a9 b0 b1 b2) (binds := [("self", .ref x), (fld, v)]) hroom (X _ _ ho) rfl hlim (codeRec_of X hcd) rfl
    (by rcases hf with rfl | rfl | rfl <;> exact BindsTo.of_eq (by first | rfl | with_unfolding_all rfl)) (fun y hy => by
      have hy : y ∈ [(PySem.Str.ofString "self", NameKind.local), (fld, .local), (PySem.Str.ofString "__class__", .free), (PySem.Str.ofString "super", .globalImplicit)] := hy
      simp only [List.mem_cons, List.not_mem_nil, or_false] at hy
      rcases hy with rfl | rfl | rfl | rfl <;> exact fun z => nomatch z)
    (fun y hy => by
      simp only [List.mem_cons, List.not_mem_nil, or_false] at hy
      rcases hf with rfl | rfl | rfl <;> rcases hy with rfl | rfl <;> first | rfl | with_unfolding_all rfl | kernel_rfl) (fun h0 hn k => ?_) rfl rfl rfl
  have kS : (xS fld).names.lookup ("super" : Str) = some .globalImplicit := by rcases hf with rfl | rfl | rfl <;> decide +kernel
  have kC : (xS fld).names.lookup ("__class__" : Str) = some .free := by rcases hf with rfl | rfl | rfl <;> decide +kernel
  have kX : (xS fld).names.lookup ("self" : Str) = some .local := by rcases hf with rfl | rfl | rfl <;> decide +kernel
  have kF : (xS fld).names.lookup fld = some .local := by rcases hf with rfl | rfl | rfl <;> decide +kernel
  have mX : ([(PySem.Str.ofString "self", Value.ref x), (fld, v)] : List (Str × Value)).reverse.lookup ("self" : Str) = some (.ref x) := by rcases hf with rfl | rfl | rfl <;> first | rfl | with_unfolding_all rfl | kernel_rfl
  have mF : ([(PySem.Str.ofString "self", Value.ref x), (fld, v)] : List (Str × Value)).reverse.lookup fld = some v := by rcases hf with rfl | rfl | rfl <;> first | rfl | with_unfolding_all rfl | kernel_rfl
  have dF : (fld == ("__debug__" : Str)) = false := by rcases hf with rfl | rfl | rfl <;> decide +kernel
  have hLx : s.heap.objs.size ≠ x := Nat.ne_of_gt (Heap.lt_size hx)
  have X0 : K.In h0 := X.keeps k
  have hC0 := X0 _ _ hC
  obtain ⟨hp, g, d, t, os⟩ := s
  show _root_.PySem.wpAt _ _ (.func (xB pre fld a0 a1 a2 a3 a4 a5 a6 a7 a8 a9 b0 b1 b2) (ksEnv qual (xS fld) hp.objs.size fI (.ref cda) cc)) (execs (xB pre fld a0 a1 a2 a3 a4 a5 a6 a7 a8 a9 b0 b1 b2) (ksEnv qual (xS fld) hp.objs.size fI (.ref cda) cc)) _ _ _
  refine ks_wpAt_execs_cons (ks_wpAt_Expr_any (ks_wpAt_MethodCall (ks_wpAt_super_base (env := ksEnv qual (xS fld) hp.objs.size fI (.ref cda) cc) kS kC rfl rfl (X0 _ _ ho) rfl rfl rfl (X0 _ _ hcode) rfl hvs hfile T.top ?_) (hcall _)))
  refine ks_loadName_global rfl kS (loadGlobal_builtin (env := ksEnv qual (xS fld) hp.objs.size fI (.ref cda) cc) (hg.keeps k) noS (hb.keeps k) ((hbb _ (by decide +kernel)).trans PyProof.Rows.Boot.«super») ⟨rfl, ?_⟩)
  refine wpAny_loadName_free rfl kC rfl ⟨_, X0 _ _ hcell, rfl⟩ ?_
  refine wpAny_loadName_local rfl kX hn mX ?_
  refine ks_wpAny_isType_cls hC0 rfl ⟨rfl, ?_⟩
  refine ks_wpAny_call_super hC0 rfl (k _ _ hx) rfl (fun c e => nomatch e) (looks_mroIn X0 T.self) (fun h1 hso k1 => ?_)
  have X1 := X0.keeps k1
  have hx1 := k1 _ _ (k _ _ hx)
  have hns1 : h1.Ns hp.objs.size _ := ns_but hn fun o e => k1 _ _ e
  have hI : Looks (model P w) h1 (isInstance (.ref x) (.type "ValueError")) true := (PySem.W.InstAt.type (od := none) ⟨hx1, rfl, rfl, trivial⟩).andThen (looks_subIn X1 T.veB)
  refine kxs_getMethod kxs_ValueError hso (looks_opaque X1 T.op) (l₀ := Value.ref C :: bm) (fun A Q E s k q => wpAny_bind ((looks_clsIn X1 hcl) A _ E s k (wpAny_pure q))) rfl X1 hal hI hxC rfl ?_
  have k2 : ∀ b o, h1.get? b = some o → (h1.push (kxs_mw "ValueError.__init__" x)).get? b = some o := fun b o e => Heap.get?_push_of_some _ e
  have hmw : (h1.push (kxs_mw "ValueError.__init__" x)).get? h1.objs.size = some (kxs_mw "ValueError.__init__" x) := Heap.get?_push_at rfl rfl
  refine kxs_callWith (i := "ValueError.__init__") (x := x) rfl (evalArgs_plain (Calls.spliced_cons ?_))
  have hns2 := ns_but hns1 fun o e => k2 _ _ e
  have hul : (A.deeper (ksEnv qual (xS fld) hp.objs.size fI (.ref cda) cc)).units + 64 < cLine := by
    show A.units + 3 + 64 < cLine
    omega
  refine JoinedStr_many (pos := a6) (joinParts_cons (Constant_str ⟨?_, ?_⟩))
  · show (Str.empty ++ pre).length ≤ sizeLine
    rw [strLen_append, sizeLine_eq]
    have : Str.empty.length = 0 := rfl
    omega
  refine joinParts_cons (FormattedValue_plain ?_)
  refine wpAny_Name (wpAny_loadName_local rfl kF hns2 mF ?_) dF
  refine hv _ _ _ _ hul (fun b o e => k2 _ _ (k1 _ _ (k _ _ e))) fun m u tk hm => ?_
  have hlen : (Str.empty ++ pre ++ m).length ≤ sizeLine := by
    rw [strLen_append, strLen_append, sizeLine_eq]
    have : Str.empty.length = 0 := rfl
    omega
  refine ⟨hlen, joinParts_nil ?_ hlen⟩
  refine Calls.spliced_nil ⟨hmw, ?_⟩
  have hx2 : (h1.push (kxs_mw "ValueError.__init__" x)).get? x = some (excO C t0) := k2 _ _ hx1
  refine wpAny_call (codeAny_of_tree ?_)
  show wpAny _ _ (callAny (.ref h1.objs.size) _) _ _ _
  simp only [callAny]
  refine wpAny_bind (wpAny_load hmw ?_); simp only [kxs_mw, show (Value.type "method-wrapper" == Value.type "method" || Value.type "method-wrapper" == Value.type "builtin_function_or_method" || Value.type "method-wrapper" == Value.type "method-wrapper") = true by decide, if_true]
  refine KFB.if_so (by decide) ?_
  refine wpAny_bind (check_bound_init F.excBase_ValueError.toExcCallFacts (k2 _ _ (k1 _ _ hC0)) hx2 rfl ?_)
  refine wpAny_bind (wpAny_pure (wpAny_pure ?_))
  refine ⟨plainId_quiet F.excBase_ValueError.init.plain _, codeAny_builtin F.excBase_ValueError.initEntry ?_⟩
  refine exc_init_tree (cls := .ref C) (t0 := t0) (dv := none) (c2 := .none) (c3 := .none) (b4 := .bool false) hx2 (by show 1 ≤ sizeLine; rw [sizeLine_eq]; omega) fun h3 k3 hx3 _ => ?_
  have X3 : K.In h3 := kept_but0 (X1.keeps k2) (fun o z => nomatch hnx.symm.trans z) k3
  have hns3 := ns_but hns2 fun o e => k3 _ _ hLx e
  refine _root_.PySem.wpAt_of_wpAny (wpAny_execs_cons (plainObj_wpAny_Assign_Attribute ?_ ?_))
  · refine wpAny_Name (wpAny_loadName_local rfl kF hns3 mF ?_) dF
    refine wpAny_Name (wpAny_loadName_local rfl kX hns3 mX ?_) (by decide)
    refine set_plain X3 (od := none) ⟨hx3, rfl, rfl, trivial⟩ T.sa ?_
    refine exc_osa X3 hx3 hcl (show refsVE (.ref C :: bm) = true from hbm) rfl T.noF (fun h4 tk4 dx k4 dn dne hx4 hn4 => ?_)
    refine wpAny_execs_nil (hq h4 tk4 dx (fun b o hb e => k4 b o hb (k3 b o hb (k2 _ _ (k1 _ _ (k _ _ e))))) ⟨_, hx4⟩ ?_ dne hn4)
    have z1 := Heap.lt_size (show h3.get? hp.objs.size = some _ from hns3.choose_spec.choose_spec.choose_spec.1)
    exact Nat.le_of_lt (Nat.lt_of_lt_of_le z1 dn)
  · rcases hf with rfl | rfl | rfl <;> rfl
end
end One
end P_X1

section P_X2
set_option linter.all false
set_option maxRecDepth 100000
set_option maxHeartbeats 4000000
namespace One
open PySem PySem.W PySem.Calls PyProof.Rows PySem.HandSPX L2
/-- what an own exception is made with: a small number, a tuple of such -/
inductive Shown (K : Frag) (H : Hp) : V → Prop
  | int (n : Nat) (h : n < 1000) : Shown K H (.int (n : Nat))
  | tup {a : Addr} (ns : List Nat) (ht : SqT K H a (ns.map fun n => V.int (n : Nat))) (hl : ns.length ≤ 100) (h : ∀ n ∈ ns, n < 1000) : Shown K H (.ref a)
theorem repr_nats {P : Program} {w : World} : ∀ {ns : List Nat} {us : List Value}, Vals (ns.map fun n => V.int (n : Nat)) us → (∀ n ∈ ns, n < 1000) → ReprAll P w us (ns.map fun n => ((toString ((n : Nat) : Int) : String) : Str))
  | [], _, r, _ => by
    cases r
    exact .nil
  | n :: l, _, r, h => by
    cases r with
    | cons r1 r2 =>
      obtain ⟨t, rfl⟩ := r1
      exact .cons (ReprIs.int t (by rw [Int.natAbs_natCast]; exact log_small (h n (List.mem_cons_self ..)))) (repr_nats r2 fun z hz => h z (List.mem_cons_of_mem _ hz))
theorem nats_text : ∀ ns : List Nat, (∀ n ∈ ns, n < 1000) → ((ns.map fun n => ((toString ((n : Nat) : Int) : String) : Str)).map (·.length)).sum ≤ 8 * ns.length
  | [], _ => Nat.zero_le _
  | n :: r, h => by
    have h1 := nats_text r fun z hz => h z (List.mem_cons_of_mem _ hz)
    have h2 : ((toString ((n : Nat) : Int) : String) : Str).length ≤ 8 := int_short n (h n (List.mem_cons_self ..))
    rw [List.map_cons, List.map_cons, List.sum_cons, List.length_cons]
    omega
theorem Shown.fmt {X : Cx} {pins : List (Addr × Obj)} {σ : L2.St} {H : Hp} {s : Shared} {v : V} {u : Value} (I : Inv X pins σ H s) (h : Shown X.K H v) (r : RelV v u) : FmtOk X.prog X.w s.heap u := by
  intro A E s1 Q hu hk q
  cases h with
  | int n hn =>
    obtain ⟨t, rfl⟩ := r
    exact wpAny_formatField_int (by rw [Int.natAbs_natCast]; exact log_small hn) (q _ _ _ (Nat.le_trans (int_short n hn) (by decide)))
  | tup ns ht hl hn =>
    cases r
    obtain ⟨its, rv, ⟨o, ho, hcl, n, hd⟩, _⟩ := I.tuple ht
    have e1 := tupleText_len_le (ns.map fun n => ((toString ((n : Nat) : Int) : String) : Str))
    have e2 := nats_text ns hn
    rw [List.length_map] at e1
    exact fmt_tuple (ts := ns.map fun n => ((toString ((n : Nat) : Int) : String) : Str)) (by omega) (hk _ _ ho) hcl hd (repr_nats rv hn) (by rw [sizeLine_eq]; omega) fun m u tk hm => q m u tk (by omega)
/-- the class under its name -/
structure OwnCls (K : Frag) (mg : Str → Option Value) (nm : Str) (C fI : Addr) : Prop where
  g : mg nm = some (.ref C)
  iC : findIn K (.ref C) "__init__" = some (some (.ref fI))
  tC : typeIn K (.ref fI) = some (.type "function")
  kC : keepIn K (.ref C) = true
  exC : subIn K (.ref C) (.type "BaseException") = some true
  tyC : typeIn K (.ref C) = some (.type "type")
/-- nm(e) -/
def tMkX (K : Frag) (fld : Str) (C : Addr) (ta : TA) : L2.St → Hp → XK → Prop := fun σ H Q => ta σ H fun vs H1 => ∃ v, vs = [v] ∧ Shown K H1 v ∧ ∀ d, H1 d = none → Q (.ref C) (some d) (upd H1 d (.xd [(fld, v)]))
theorem relO_one {v : V} {u : Value} {g : Str} (r : RelV v u) (f : Str) : RelO (List.lookup f [(g, v)]) (if f = g then some u else none) := by
  rw [lookup_put]
  by_cases e : f = g
  · rw [if_pos e, if_pos e]
    exact r
  · rw [if_neg e, if_neg e]
    trivial
section
variable {X : Cx} {C fI : Addr}
theorem pmk_x {nm fld : Str} {st : Stmt} {a : Expr} {ta : TA} {p pos : Pos} {k : Nat} (hf : FldOk fld) (T : OwnTxt X.prog X.K st fld C fI) (O : OwnCls X.K X.mg nm C fI) (noS : X.mg "super" = none) (hr : Room k X.A) (ha : PA X [a] ta) (hg : Gl X nm) (hdb : (nm == ("__debug__" : Str)) = false := by decide) (he : starEach (a :: []) X.env = (false, eval a X.env) :: starEach [] X.env := by rfl) (hpl : (backTo pos (starEach [] X.env)).any (·.1) = false := by rfl) : PMk X (.Call (.Name nm p) [a] [] pos) (tMkX X.K fld C ta) := by
  intro pins s σ H Q I h
  refine wpAny_Call_Name_kw (ld_glob I hg O.g ?_ hdb)
  refine PySem.W.callWith_K (h₀ := X.base) I.ok.mod.kin O.kC (thn (ha.run pos pins s σ H _ I h) fun us s1 ⟨vs, H1, I1, r1, v, ev, hv, q1⟩ => ⟨I1.kIn, ?_⟩) he hpl
  subst ev
  obtain ⟨v', rfl, rv⟩ := vals1 r1
  obtain ⟨nm', qn, N, bs, bm, sn, sub, ab, col, dd, k0, k1, k2, k3, k5, hC, hbm, hal⟩ := T.cls
  have hfm := hv.fmt I1 rv
  have hX := I1.kIn
  have hlim := I1.nolimit
  obtain ⟨_, mgl, ⟨mb, hbn, hbb⟩, _⟩ := I1.mod
  have hbk := I1.bk
  show wpAny _ _ (call (.ref C) [v']) _ _ _
  obtain ⟨hp, g, dr, tk, os⟩ := s1
  have kk : ∀ b o, hp.get? b = some o → ((hp.push (PySem.W.kdv_tup [v'])).push (PySem.HandSPX.excO C hp.objs.size)).get? b = some o := fun b o e => Heap.get?_push_of_some _ (Heap.get?_push_of_some _ e)
  have hget : ((hp.push (PySem.W.kdv_tup [v'])).push (PySem.HandSPX.excO C hp.objs.size)).get? (hp.objs.size + 1) = some (PySem.HandSPX.excO C hp.objs.size) := by heap_get
  have hnx : X.K.lookup (hp.objs.size + 1) = none := by
    match e : X.K.lookup (hp.objs.size + 1) with
    | none => rfl
    | some o => exact absurd (Nat.lt_of_succ_lt (Heap.lt_size (hX _ _ e))) (Nat.lt_irrefl _)
  refine wpAny_call (PySem.HandSPX.call_own F.excBase_ValueError (fun Y => PySem.HandSPX.refsVE_contains Y bm hbm) (hX _ _ hC) (PySem.W.looks_findIn hX O.iC) (fun self => PySem.W.bind_fn hX self O.tC) (by show 1 ≤ sizeLine; rw [sizeLine_eq]; omega) ?_)
  have hdp := hr.dp
  have hun := hr.un
  refine x_init (s := ⟨(hp.push (PySem.W.kdv_tup [v'])).push (PySem.HandSPX.excO C hp.objs.size), g, dr, tk, os⟩) hf T (hX.keeps kk) (hlim.keeps kk) ((mgl.keeps hbk).keeps kk) noS ((hbn.keeps hbk).keeps kk) hbb hget hnx ?_ ?_ (hfm.keeps kk) fun h' tk' dx k' hx dn dne hns => ?_
  · rw [make_depth]
    omega
  · rw [make_units]
    omega
  · refine ⟨rfl, ?_⟩
    show MkP X pins σ Q (.ref (hp.objs.size + 1)) ⟨h', g, dr, tk', os⟩
    obtain ⟨t1, hx⟩ := hx
    have dn : hp.objs.size + 1 + 1 ≤ dx := by
      first
        | (simpa only [Heap.size_push] using dn)
        | exact dn
    have dbig : hp.objs.size ≤ dx := by omega
    obtain ⟨G', g1, g2⟩ := restrict h' fun b => decide (b ≠ hp.objs.size + 1)
    have gk : ∀ b, b ≠ hp.objs.size + 1 → G'.get? b = h'.get? b := fun b hb => g1 b (decide_eq_true hb)
    have ge : G'.get? (hp.objs.size + 1) = none := g2 _ (by simp)
    have ne : ∀ {b : Addr} {o : Obj}, hp.get? b = some o → b ≠ hp.objs.size + 1 := fun {b o} q => Nat.ne_of_lt (Nat.lt_succ_of_lt (Heap.lt_size q))
    have old : ∀ b o, hp.get? b = some o → G'.get? b = some o := fun b o q => (gk b (ne q)).trans (k' b o (ne q) (kk b o q))
    have ob : ObjOk X.prog X.w (upd H1 dx (.xd [(fld, v)])) G' dx (.xd [(fld, v)]) := ⟨_, hns.at (fun o q => (gk dx dne).trans q), fun f => relO_one rv f⟩
    have J : Inv X pins σ (upd H1 dx (.xd [(fld, v)])) ⟨G', g, dr, tk', os⟩ := I1.laid (t' := tk') old dbig ob
    refine ⟨hp.objs.size + 1, _, _, ⟨G', g, dr, tk', os⟩, _, .ref C, some dx, rfl, J, fun b o q => ?_, ge, hx, ⟨rfl, rfl⟩, rfl, rfl, ?_, rfl, I1.bare, raises_own O.exC O.tyC, q1 dx (I1.hok.fresh dbig)⟩
    · by_cases hb : b = hp.objs.size + 1
      · cases (hb ▸ ge).symm.trans (show G'.get? b = some o from q)
      · exact (gk b hb).symm.trans q
    · rw [upd_ne (Ne.symm dne)]
      exact I1.hok.fresh (Nat.le_succ _)
/-- raise nm(e) -/
def tRaiseX (K : Frag) (fld : Str) (C : Addr) (W : WX) (ta : TA) : TS := fun _ σ H => tMkX K fld C ta σ H fun cls d H' => W cls d σ H'
theorem ps_raiseX {nm fld : Str} {st : Stmt} {a : Expr} {ta : TA} {W : WX} {p pos pos2 : Pos} {k : Nat} (hc : X.calm = true) (hf : FldOk fld) (T : OwnTxt X.prog X.K st fld C fI) (O : OwnCls X.K X.mg nm C fI) (noS : X.mg "super" = none) (hr : Room k X.A) (tk : Takes X W) (ha : PA X [a] ta) (hg : Gl X nm) (hdb : (nm == ("__debug__" : Str)) = false := by decide) (he : starEach (a :: []) X.env = (false, eval a X.env) :: starEach [] X.env := by rfl) (hpl : (backTo pos (starEach [] X.env)).any (·.1) = false := by rfl) :
    PS X (.Raise (some (.Call (.Name nm p) [a] [] pos)) none pos2) (tRaiseX X.K fld C W ta) := ps_raise hc tk (pmk_x hf T O noS hr ha hg hdb he hpl)
end
end One
end P_X2

section P_F4
set_option linter.all false
set_option maxRecDepth 100000
set_option maxHeartbeats 8000000
namespace One
open PySem PySem.Spec PyProof.Rows L2
abbrev sNeed : Stmt := top 30
abbrev sCross : Stmt := top 36
abbrev sBadYard : Stmt := top 2
theorem scNeed : FnScope ["thing", "place"] ["thing"] (defScope sNeed) := ⟨rfl, rfl, rfl, by decide +kernel, rfl, by decide +kernel, by decide +kernel⟩
theorem scCross : FnScope ["yard"] ["yard"] (defScope sCross) := ⟨rfl, rfl, rfl, by decide +kernel, rfl, by decide +kernel, by decide +kernel⟩
theorem il_of {H : Hp} {N : Nat} {as : List Addr} {ps : List (Nat × Nat)} (h : PL H as ps) (k : ∀ p ∈ ps, p.1 < p.2 ∧ p.2 < N) : IL H N (refs as) (ps.map some) := by
  induction h with
  | nil => exact .nil
  | cons h1 _ ih =>
    obtain ⟨k1, k2⟩ := k _ (List.mem_cons_self ..)
    exact .line h1 k1 k2 (ih fun p m => k p (List.mem_cons_of_mem _ m))
theorem map_some_inj {α : Type} : ∀ {a b : List α}, a.map some = b.map some → a = b
  | [], [], _ => rfl
  | [], _ :: _, h => by cases h
  | _ :: _, [], h => by cases h
  | x :: a, y :: b, h => by
    rw [List.map_cons, List.map_cons] at h
    obtain ⟨h1, h2⟩ := List.cons.inj h
    rw [Option.some.inj h1, map_some_inj h2]
theorem Yard.lt {n : Nat} {ps : List (Nat × Nat)} (y : Yard n ps) : ∀ p ∈ ps, p.1 < p.2 ∧ p.2 < 4 * n := fun p m => ⟨y.low p m, y.lines.lt _ (mem_ends.mpr ⟨p, m, .inr rfl⟩)⟩
/-- a yard has no fault -/
theorem fault_good {H : Hp} {t : Addr} {n : Nat} {ps : List (Nat × Nat)} {Q : VK} {E : XK} (y : YAt H t n ps) (hn : n ≤ 40) (q : ∀ H', Same H H' → Q .non H') : spFault [.ref t] H Q E := by
  obtain ⟨Y, as, ht, hP⟩ := y
  have hl : (refs as).length = 2 * n := by rw [List.length_map, hP.len, Y.lines.len]
  have hpos := Y.pos
  refine ⟨_, rfl, .inr ⟨t, refs as, ps.map some, rfl, ht, ?_, ?_, fun k hk => ?_, fun _ qs e => ?_⟩⟩
  · unfold canBe
    rw [hl]
    simp only [Bool.and_eq_true, decide_eq_true_eq]
    omega
  · rw [hl]
    exact il_of hP fun p m => ⟨(Y.lt p m).1, by have := (Y.lt p m).2; omega⟩
  · rw [yard_good Y] at hk
    cases hk
  · cases map_some_inj e
    rw [hl, show 2 * n / 2 = n by omega]
    exact ⟨fun _ => q, fun z => absurd Y.whole z⟩
theorem fault_mono {H : Hp} {v : V} {Q Q' : VK} {E E' : XK} (h : spFault [v] H Q E) (k : ∀ r H', Q r H' → Q' r H') : spFault [v] H Q' E' := by
  obtain ⟨v', e, h⟩ := h
  refine ⟨v', e, ?_⟩
  rcases h with ⟨h1, h2⟩ | ⟨t, xs, os, h1, h2, h3, h4, h5, h6⟩
  · exact .inl ⟨h1, fun H' p a b => k _ _ (h2 H' p a b)⟩
  · exact .inr ⟨t, xs, os, h1, h2, h3, h4, fun j e H' p a b => k _ _ (h5 j e H' p a b), fun e ps eo => ⟨fun z H' a => k _ _ ((h6 e ps eo).1 z H' a), fun z H' p a b => k _ _ ((h6 e ps eo).2 z H' p a b)⟩⟩
/-- a tuple of no good length: () -/
theorem fault_len {H : Hp} {t : Addr} {xs : List V} {Q : VK} {E : XK} (ht : H t = some (.tup xs)) (hc : canBe (xs.length : Nat) = false) (q : ∀ (H' : Hp) (p : Addr), Same H H' → H' p = some (.tup []) → Q (.ref p) H') : spFault [.ref t] H Q E :=
  ⟨_, rfl, .inl ⟨.inr ⟨t, xs, rfl, ht, hc⟩, q⟩⟩
/-- a fault told -/
def Wrong (C0 : Addr) (E : XK) (r : V) (H : Hp) : Prop := ∃ (p : Addr) (ns : List Nat), r = .ref p ∧ H p = some (.tup (nats ns)) ∧ ns.length ≤ 100 ∧ (∀ n ∈ ns, n < 1000) ∧ ∀ d, H d = none → E (.ref C0) (some d) (upd H d (.xd [("place", .ref p)]))
def spNeed (C0 : Addr) : Sp := fun vs H Q E => ∃ v, vs = [v] ∧ spFault [v] H (fun r H' => (r = .non ∧ Q v H') ∨ Wrong C0 E r H') E0
def spCross (C0 : Addr) : Sp := fun vs H Q E => spNeed C0 vs H (fun v H' => ∃ t xs, v = .ref t ∧ H' t = some (.tup xs) ∧ Q (.int ((xs.length / 2 : Nat))) H') E
section
variable {P : Program} {w : World} {K : PySem.W.Frag} {mg : Str → Option Value} {base : Heap} {C0 fI : Addr} {sX : Stmt}
theorem ok_need {f fF : Addr} {fd fdF : FuncData} (F : Fun K "need_yard" "need_yard" sNeed f fd) (T : OwnTxt P K sX "place" C0 fI) (O : OwnCls K mg "BadYard" C0 fI) (noS : mg "super" = none) (B : Cal K mg "yard_fault" fF fdF ["thing"]) (GF : FnOk P w K mg base CX0 4 fF fdF ["thing"] spFault) :
    FnOk P w K mg base (L2.CX P w) 5 f fd ["thing"] (spNeed C0) := by
  refine F.okX scNeed (fun vs H Q E h => ?_) (fun cdv A outer s H vs Q E hr h => ?_)
  · obtain ⟨v, rfl, _⟩ := h
    rfl
  · obtain ⟨v, rfl, h⟩ := h
    have nd := scNeed.nd
    refine ⟨_, pss_cons (ps_set (i := 1) nd rfl (Or.inl rfl) (pe_call GF hr rfl B.g B.kp B.b .nil pass0 (pa_cons (pv 0) pa_nil)))
      (pss_cons (ps_if (pt_cmpR op_notN (pv 1) pe_non (nomark _)) (pss_one (ps_raiseX rfl (Or.inl rfl) T O noS hr (takes_of rfl rfl rfl rfl) (pa_cons (pv 1) pa_nil) (by rfl))) pss_nil)
      (pss_one (ps_ret (pv 0)))), ?_⟩
    refine ⟨_, rfl, ?_⟩
    unfold tNil
    refine fault_mono (Q := fun r H' => (r = .non ∧ Q v H') ∨ Wrong C0 E r H') h fun r H' hq => ?_
    rcases hq with ⟨rfl, q⟩ | ⟨p, ns, rfl, hp, hl, hs, q⟩
    · exact ⟨_, rfl, rfl, _, rfl, iteF ⟨_, rfl, q⟩⟩
    · refine ⟨_, rfl, rfl, _, rfl, iteT ⟨_, rfl, _, rfl, .tup ns (SqT.of hp) hl hs, fun d hd => q d hd⟩⟩
theorem ok_cross {f fN : Addr} {fd fdN : FuncData} (F : Fun K "crossings" "crossings" sCross f fd) (T : TB mg) (N : Cal K mg "need_yard" fN fdN ["thing"]) (GN : FnOk P w K mg base (L2.CX P w) 5 fN fdN ["thing"] (spNeed C0)) :
    FnOk P w K mg base (L2.CX P w) 6 f fd ["yard"] (spCross C0) := by
  refine F.okX scCross (fun vs H Q E h => ?_) (fun cdv A outer s H vs Q E hr h => ?_)
  · obtain ⟨v, rfl, _⟩ := h
    rfl
  · obtain ⟨v, rfl, h⟩ := h
    refine ⟨_, pss_one (ps_ret (pe_op op_fdiv (pe_callB call_len_seq (by rfl) T.len PySem.boot_len (pa_cons (pe_call GN hr rfl N.g N.kp N.b .nil (passes_call (takes_of rfl rfl rfl rfl) (fun _ _ _ _ h => h)) (pa_cons (pv 0) pa_nil)) pa_nil)) pe_int)), ?_⟩
    refine ⟨_, rfl, v, rfl, fault_mono h fun r H' hq => hq.imp (fun ⟨e, t, xs, e2, ht, q⟩ => ⟨e, t, xs, by rw [e2], .inr (SqT.of ht), ?_⟩) id⟩
    refine ⟨_, _, rfl, rfl, ⟨by decide, by decide⟩, ?_⟩
    have e4 : ((xs.length : Nat) : Int) / 2 = ((xs.length / 2 : Nat) : Int) := by omega
    show Q (.int (((xs.length : Nat) : Int) / 2)) H'
    rw [e4]
    exact q
end
end One
end P_F4

section P_Y3
set_option linter.all false
set_option maxRecDepth 100000
set_option maxHeartbeats 8000000
namespace One
open PySem PySem.Spec PyProof.Rows L2
abbrev sWF : Stmt := top 42
abbrev nWF : List Str := ["thing", "many", "is_draft", "number", "way"]
theorem scWF : FnScope nWF ["thing", "many", "is_draft"] (defScope sWF) := ⟨rfl, rfl, rfl, by decide +kernel, rfl, by decide +kernel, by decide +kernel⟩
/-- a way, or, of a draft, none -/
def okW (isd : Bool) (v : V) : Bool := belowV v 3 || (isd && decide (v = .non))
def spWays : Sp := fun vs H Q _ => ∃ (v : V) (T : String) (n : Nat) (isd : Bool), vs = [v, .int (n : Nat), .bl isd] ∧ TV H v T ∧
  (((∀ t xs, v = .ref t → H t = some (.tup xs) → xs.length ≠ n) ∧ ∀ (H' : Hp) (p : Addr), Same H H' → H' p = some (.tup []) → Q (.ref p) H') ∨
   ∃ (t : Addr) (xs : List V), v = .ref t ∧ H t = some (.tup xs) ∧ xs.length = n ∧ (∀ x ∈ xs, ∃ T, TV H x T) ∧ (xs.all (okW isd) = true → ∀ H', Same H H' → Q .non H') ∧
     ∀ (i : Nat) (x : V), xs[i]? = some x → okW isd x = false → (xs.take i).all (okW isd) = true → ∀ (H' : Hp) (p : Addr), Same H H' → H' p = some (.tup [.int (i : Nat)]) → Q (.ref p) H')
section
variable {P : Program} {w : World} {K : PySem.W.Frag} {mg : Str → Option Value} {base : Heap}
theorem ok_ways {f fB : Addr} {fd fdB : FuncData} (F : Fun K "ways_fault" "ways_fault" sWF f fd) (T : TB mg) (w3 : ∃ t, mg "MANY_WAYS" = some (.int 3 t)) (B : Cal K mg "is_below" fB fdB ["thing", "many"]) (GB : FnOk P w K mg base CX0 2 fB fdB ["thing", "many"] spIsBelow) :
    FnOk P w K mg base CX0 3 f fd ["thing", "many", "is_draft"] spWays := by
  refine F.ok scWF (fun vs H Q E h => ?_) (fun cdv A outer s H vs Q E hr h => ?_)
  · obtain ⟨v, Tt, n, isd, rfl, _⟩ := h
    rfl
  · obtain ⟨v, Tt, n, isd, rfl, hv, hc⟩ := h
    have nd := scWF.nd
    have hr2 : Room 2 _ := hr
    obtain ⟨u3, ht3⟩ := w3
    refine ⟨_, pss_cons (ps_if (PW.pt (pw_or (pt_not (pt_val (pe_callB call_isi (by rfl) T.isinstance boot_isinstance (pa_cons (pv 0) (pa_cons (pe_bltn (v := .ty "tuple") (by rfl) T.tuple boot_tuple rfl) pa_nil))))) (pw_or1 (pt_cmpR op_ne (pe_callB call_len_seq (by rfl) T.len PySem.boot_len (pa_cons (pv 0) pa_nil)) (pv 1) (nomark _))))) (pss_one (ps_ret (pe_tup pa_nil))) pss_nil)
      (pss_cons (ps_for PassesOwn.never rfl (pi_enumT (by rfl) T.enumerate (pa_cons (pv 0) pa_nil)) (pg_tup rfl (pgs_cons (pg_name (i := 3) nd rfl (Or.inl rfl)) (pgs_cons (pg_name (i := 4) nd rfl (Or.inl rfl)) pgs_nil)))
        (pss_one (ps_if (PW.pt (pw_and (pt_not (pt_val (pe_call GB hr2 rfl B.g B.kp B.b .nil pass0 (pa_cons (pv 4) (pa_cons (pe_glob (v := .int 3) rfl ht3 ⟨_, rfl⟩) pa_nil))))) (pw_and1 (pt_not (PW.pt (pw_and (pt_val (pv 2)) (pw_and1 (pt_cmpR op_isN (pv 4) pe_non (nomark _))))))))) (pss_one (ps_ret (pe_tup (pa_cons (pv 3) pa_nil)))) pss_nil)))
      (pss_one (ps_ret pe_non))), ?_⟩
    refine ⟨_, rfl, _, _, _, _, _, rfl, .ty _, hv.tyx, hv.kTup, _, rfl, ?_⟩
    rcases hc with ⟨hno, k⟩ | ⟨t, xs, rfl, ht, hl, hx, kgood, kbad⟩
    · cases hT : isTup Tt with
      | false => exact iteT (iteT ⟨Nat.zero_le _, fun p hp => k _ p (Same.new hp) upd_same⟩)
      | true =>
        obtain ⟨t, xs, rfl, ht⟩ : ∃ t xs, v = .ref t ∧ H t = some (.tup xs) := by
          cases hv with
          | @tup a xs e => exact ⟨a, xs, rfl, e⟩
          | non => exact absurd hT (by decide)
          | bl b => exact absurd hT (by decide)
          | int i => exact absurd hT (by decide)
          | str x => exact absurd hT (by decide)
          | lst e => exact absurd hT (by decide)
          | dct e => exact absurd hT (by decide)
        have hne := hno t xs rfl ht
        refine iteF ⟨_, rfl, t, _, rfl, .inr (SqT.of ht), _, rfl, rfl, _, rfl, ?_⟩
        have e : decide (V.int (xs.length : Nat) = V.int (n : Nat)) = false := decide_eq_false fun z => hne (by
          have := V.int.inj z
          omega)
        rw [e]
        exact iteT ⟨Nat.zero_le _, fun p hp => k _ p (Same.new hp) upd_same⟩
    · have eT : isTup Tt = true := by
        cases hv with
        | tup e => rfl
        | lst e => cases ht.symm.trans e
        | dct e => cases ht.symm.trans e
      rw [eT]
      refine iteF ⟨_, rfl, t, _, rfl, .inr (SqT.of ht), _, rfl, rfl, _, rfl, ?_⟩
      have e : decide (V.int (xs.length : Nat) = V.int (n : Nat)) = true := decide_eq_true (by rw [hl])
      rw [e]
      refine iteF ?_
      refine ⟨_, rfl, t, _, rfl, SqT.of ht, for_it (walk_enumT (K := K) (a := t) (xs := xs)) (fun i σ H2 => ∃ v3 v4 : Option V, σ = [some (.ref t), some (.int (n : Nat)), some (.bl isd), v3, v4] ∧ Same H H2 ∧ (xs.take i).all (okW isd) = true) ⟨none, none, rfl, Same.refl H, rfl⟩ (fun i σ H2 _ ⟨_, _, _, s', _⟩ => SqT.of (s' _ _ ht)) ?_ ?_⟩
      · rintro i x σ H2 H3 hi ⟨v3, v4, rfl, s2, a2⟩ ⟨q, x', y', rfl, hq, rfl, ex, ey⟩
        cases ex
        have ey : xs[i]? = some y' := ey
        have s3 := Same.new (o := .tup [V.int (i : Nat), y']) hq
        have sA := s2.trans s3
        obtain ⟨Ty, hy⟩ := hx y' (List.mem_of_getElem? ey)
        refine ⟨q, _, rfl, SqT.of upd_same, rfl, _, _, rfl, _, _, rfl, rfl, ?_⟩
        generalize upd H2 q (.tup [V.int (i : Nat), y']) = H3 at sA
        have a3 : okW isd y' = true → (xs.take (i + 1)).all (okW isd) = true := fun h => by
          rw [List.take_succ, ey, Option.toList_some, List.all_append, a2]
          show (true && (okW isd y' && true)) = true
          rw [h]
          rfl
        refine ⟨_, rfl, y', 3, Ty, rfl, hy.mono sA, _, rfl, ?_⟩
        cases hb : belowV y' 3 with
        | true =>
          refine iteF (iteF ?_)
          exact ⟨_, _, rfl, sA, a3 (by unfold okW; rw [hb]; rfl)⟩
        | false =>
          refine iteT ⟨_, rfl, isd, rfl, ?_⟩
          cases hd : isd with
          | false =>
            refine iteF (iteT ?_)
            subst hd
            refine ⟨_, rfl, (by show 1 ≤ sizeLine; decide), fun p hp => kbad i y' ey ?_ a2 _ p (sA.trans (Same.new hp)) upd_same⟩
            unfold okW
            rw [hb]
            rfl
          | true =>
            subst hd
            refine iteT ⟨_, rfl, rfl, _, rfl, ?_⟩
            cases hn : decide (y' = V.non) with
            | true =>
              refine iteF ?_
              exact ⟨_, _, rfl, sA, a3 (by unfold okW; rw [hb, hn]; rfl)⟩
            | false =>
              refine iteT ?_
              refine ⟨_, rfl, (by show 1 ≤ sizeLine; decide), fun p hp => kbad i y' ey ?_ a2 _ p (sA.trans (Same.new hp)) upd_same⟩
              unfold okW
              rw [hb, hn]
              rfl
      · rintro σ H2 ⟨v3, v4, rfl, s2, a2⟩
        rw [List.take_length] at a2
        exact kgood a2 _ s2
end
end One
end P_Y3

section P_Y4
set_option linter.all false
set_option maxRecDepth 100000
set_option maxHeartbeats 8000000
namespace One
open PySem PySem.Spec PyProof.Rows L2
abbrev sNS : Stmt := top 41
abbrev sRO : Stmt := top 44
abbrev nNS : List Str := ["yard", "thing", "place"]
abbrev nRO : List Str := ["yard", "setting"]
theorem scNS : FnScope nNS ["yard", "thing"] (defScope sNS) := ⟨rfl, rfl, rfl, by decide +kernel, rfl, by decide +kernel, by decide +kernel⟩
theorem scRO : FnScope nRO ["yard", "setting"] (defScope sRO) := ⟨rfl, rfl, rfl, by decide +kernel, rfl, by decide +kernel, by decide +kernel⟩
/-- it is raised, with that place -/
def RWrong (C : Addr) (E : XK) (H : Hp) (ns : List Nat) : Prop := ∀ (H' : Hp) (p d : Addr), Same H H' → H' p = some (.tup (nats ns)) → H' d = some (.xd [("place", .ref p)]) → E (.ref C) (some d) H'
/-- ways are looked at: let by, or refused -/
def LookW (C : Addr) (isd : Bool) (v : V) (m : Nat) (H : Hp) (Q : Hp → Prop) (E : XK) : Prop :=
  ((∀ t xs, v = .ref t → H t = some (.tup xs) → xs.length ≠ m) ∧ RWrong C E H []) ∨
   ∃ (t : Addr) (xs : List V), v = .ref t ∧ H t = some (.tup xs) ∧ xs.length = m ∧ (∀ x ∈ xs, ∃ T, TV H x T) ∧ (xs.all (okW isd) = true → ∀ H', Same H H' → Q H') ∧
     ∀ (i : Nat) (x : V), xs[i]? = some x → okW isd x = false → (xs.take i).all (okW isd) = true → RWrong C E H [i]
def spNS (CS : Addr) : Sp := fun vs H Q E => ∃ (y : Addr) (v : V) (T : String) (m : Nat) (ps : List (Nat × Nat)), vs = [.ref y, v] ∧ YAt H y m ps ∧ m ≤ 40 ∧ TV H v T ∧ LookW CS false v m H (fun H' => Q v H') E
def spRO (CS : Addr) : Sp := fun vs H Q E => ∃ (y : Addr) (v : V) (T : String) (m : Nat) (ps : List (Nat × Nat)), vs = [.ref y, v] ∧ YAt H y m ps ∧ m ≤ 40 ∧ TV H v T ∧ LookW CS false v m H (fun H' => ∃ (t : Addr) (ws : List Nat), v = .ref t ∧ SetAt H' t m ws ∧
  ∀ (H'' : Hp) (u : Addr) (as : List Addr) (rs : List (Nat × Nat)), Same H' H'' → H'' u = some (.tup (refs as)) → RsAt (nextE (far ps) (wayL ws)) H'' as rs → Rounds (far ps) (wayL ws) m rs → Q (.ref u) H'') E
theorem LookW.mono {C : Addr} {isd : Bool} {v : V} {m : Nat} {H : Hp} {Q Q' : Hp → Prop} {E : XK} (h : LookW C isd v m H Q E) (k : ∀ H', Same H H' → Q H' → Q' H') : LookW C isd v m H Q' E := by
  rcases h with h | ⟨t, xs, h1, h2, h3, h4, h5, h6⟩
  · exact .inl h
  · exact .inr ⟨t, xs, h1, h2, h3, h4, fun a H' s => k H' s (h5 a H' s), h6⟩
theorem LookW.to {C : Addr} {isd : Bool} {v : V} {m : Nat} {H H1 : Hp} {Q : Hp → Prop} {E : XK} {T : String} (hv : TV H v T) (h : LookW C isd v m H Q E) (s : Same H H1) : LookW C isd v m H1 Q E := by
  rcases h with ⟨h1, h2⟩ | ⟨t, xs, h1, h2, h3, h4, h5, h6⟩
  · refine .inl ⟨fun t xs e ht => ?_, fun H' p d s' => h2 H' p d (s.trans s')⟩
    subst e
    cases hv with
    | @tup a ys e =>
      have := s _ _ e
      rw [ht] at this
      cases this
      exact h1 t _ rfl e
    | lst e => cases ht.symm.trans (s _ _ e)
    | dct e => cases ht.symm.trans (s _ _ e)
  · exact .inr ⟨t, xs, h1, s _ _ h2, h3, fun x hx => (h4 x hx).imp fun T h => h.mono s, fun a H' s' => h5 a H' (s.trans s'), fun i x a b c H' p d s' => h6 i x a b c H' p d (s.trans s')⟩
theorem nats_of_ok : ∀ {xs : List V}, xs.all (okW false) = true → ∃ ws : List Nat, xs = nats ws ∧ ∀ x ∈ ws, x < 3
  | [], _ => ⟨[], rfl, fun x h => absurd h (by simp)⟩
  | v :: xs, h => by
    have h : (okW false v && xs.all (okW false)) = true := h
    rw [Bool.and_eq_true] at h
    obtain ⟨ws, e, hw⟩ := nats_of_ok h.2
    have hb : belowV v 3 = true := by
      have := h.1
      unfold okW at this
      rw [Bool.false_and, Bool.or_false] at this
      exact this
    cases v with
    | int i =>
      have hb : (decide (0 ≤ i) && decide (i < 3)) = true := hb
      simp only [Bool.and_eq_true, decide_eq_true_eq] at hb
      refine ⟨i.toNat :: ws, ?_, fun x hx => ?_⟩
      · rw [e]
        show V.int i :: nats ws = V.int ((i.toNat : Nat) : Int) :: nats ws
        rw [show ((i.toNat : Nat) : Int) = i by omega]
      · rcases List.mem_cons.mp hx with rfl | hx
        · omega
        · exact hw x hx
    | _ => exact nof hb
section
variable {P : Program} {w : World} {K : PySem.W.Frag} {mg : Str → Option Value} {base : Heap} {C0 CS f3 : Addr} {x3 : Stmt}
theorem ok_ns {f fW fC : Addr} {fd fdW fdC : FuncData} (F : Fun K "need_setting" "need_setting" sNS f fd) (T3 : OwnTxt P K x3 "place" CS f3) (O3 : OwnCls K mg "BadSetting" CS f3) (noS : mg "super" = none) (Fa : Cal K mg "ways_fault" fW fdW ["thing", "many", "is_draft"]) (GF : FnOk P w K mg base CX0 3 fW fdW ["thing", "many", "is_draft"] spWays)
    (C : Cal K mg "crossings" fC fdC ["yard"]) (GC : FnOk P w K mg base (L2.CX P w) 6 fC fdC ["yard"] (spCross C0)) : FnOk P w K mg base (L2.CX P w) 7 f fd ["yard", "thing"] (spNS CS) := by
  refine F.okX scNS (fun vs H Q E h => ?_) (fun cdv A outer s H vs Q E hr h => ?_)
  · obtain ⟨y, v, T, m, ps, rfl, _⟩ := h
    rfl
  · obtain ⟨y, v, Tv, m, ps, rfl, hY, h40, hv, hl⟩ := h
    have nd := scNS.nd
    have hr6 : Room 6 _ := hr
    have hr3 : Room 3 _ := hr.mono (by decide)
    refine ⟨_, pss_cons (ps_set (i := 2) nd rfl (Or.inl rfl) (pe_call GF hr3 rfl Fa.g Fa.kp Fa.b .nil pass0 (pa_cons (pv 1) (pa_cons (pe_call GC hr6 rfl C.g C.kp C.b .nil passL (pa_cons (pv 0) pa_nil)) (pa_cons pe_bl pa_nil)))))
      (pss_cons (ps_if (pt_cmpR op_notN (pv 2) pe_non (nomark _)) (pss_one (ps_raiseX rfl (Or.inl rfl) T3 O3 noS hr (takes_of rfl rfl rfl rfl) (pa_cons (pv 2) pa_nil) (by rfl))) pss_nil)
      (pss_one (ps_ret (pv 1)))), ?_⟩
    obtain ⟨Y, as, ht, hP⟩ := id hY
    have hlen : (refs as).length = 2 * m := by rw [List.length_map, hP.len, Y.lines.len]
    refine ⟨_, rfl, _, rfl, _, rfl, ?_⟩
    unfold tNil
    refine fault_good hY h40 fun H1 s1 => .inl ⟨rfl, y, refs as, rfl, s1 _ _ ht, ?_⟩
    rw [show (refs as).length / 2 = m by omega]
    have short : ∀ (H2 : Hp) (p : Addr) (ns : List Nat), Same H1 H2 → H2 p = some (.tup (nats ns)) → ns.length ≤ 100 → (∀ n ∈ ns, n < 1000) → RWrong CS E H1 ns → ∀ (d : Addr), H2 d = none → E (.ref CS) (some d) (upd H2 d (.xd [("place", .ref p)])) := fun H2 p ns s2 hp _ _ hW d hd =>
      hW _ p d (s2.trans (Same.new hd)) ((Same.new hd) _ _ hp) upd_same
    rcases hl.to hv s1 with ⟨h1, h2⟩ | ⟨t, xs, rfl, hxs, hlx, hT, kg, kb⟩
    · refine ⟨v, Tv, m, false, rfl, hv.mono s1, .inl ⟨h1, fun H2 p s2 hp => ?_⟩⟩
      exact ⟨_, rfl, rfl, _, rfl, iteT ⟨_, rfl, _, rfl, .tup [] (SqT.of hp) (Nat.zero_le _) (fun n h => absurd h (by simp)), fun d hd => short H2 p [] s2 hp (Nat.zero_le _) (fun n h => absurd h (by simp)) h2 d hd⟩⟩
    · refine ⟨_, Tv, m, false, rfl, hv.mono s1, .inr ⟨t, xs, rfl, hxs, hlx, hT, fun a H2 s2 => ?_, fun i x hx ho ha H2 p s2 hp => ?_⟩⟩
      · exact ⟨_, rfl, rfl, _, rfl, iteF ⟨_, rfl, kg a _ s2⟩⟩
      · have hi : i < 40 := by
          have := (List.getElem?_eq_some_iff.mp hx).1
          omega
        have hp' : H2 p = some (.tup (nats [i])) := hp
        have sm : ∀ n ∈ [i], n < 1000 := fun n h => by
          rw [List.mem_singleton.mp h]
          omega
        exact ⟨_, rfl, rfl, _, rfl, iteT ⟨_, rfl, _, rfl, .tup [i] (SqT.of hp') (by show 1 ≤ 100; decide) sm, fun d hd => short H2 p [i] s2 hp' (by show 1 ≤ 100; decide) sm (kb i x hx ho ha) d hd⟩⟩
theorem ok_ro {f fN fR fF : Addr} {fd fdN fdR fdF : FuncData} (F : Fun K "rounds_of" "rounds_of" sRO f fd) (N : Cal K mg "need_setting" fN fdN ["yard", "thing"]) (GN : FnOk P w K mg base (L2.CX P w) 7 fN fdN ["yard", "thing"] (spNS CS))
    (Rb : Cal K mg "rounds_by_fars" fR fdR ["fars", "setting"]) (GR : FnOk P w K mg base CX0 4 fR fdR ["fars", "setting"] spRB) (Fa : Cal K mg "fars_of_lines" fF fdF ["lines"]) (GF : FnOk P w K mg base CX0 1 fF fdF ["lines"] spFars) : FnOk P w K mg base (L2.CX P w) 8 f fd ["yard", "setting"] (spRO CS) := by
  refine F.okX scRO (fun vs H Q E h => ?_) (fun cdv A outer s H vs Q E hr h => ?_)
  · obtain ⟨y, v, T, m, ps, rfl, _⟩ := h
    rfl
  · obtain ⟨y, v, Tv, m, ps, rfl, hY, h40, hv, hl⟩ := h
    have nd := scRO.nd
    have hr7 : Room 7 _ := hr
    have hr4 : Room 4 _ := hr.mono (by decide)
    have hr1 : Room 1 _ := hr.mono (by decide)
    refine ⟨_, pss_cons (ps_expr (pe_call GN hr7 rfl N.g N.kp N.b .nil (passes_call (takes_of rfl rfl rfl rfl) (fun _ _ _ _ h => h)) (pa_cons (pv 0) (pa_cons (pv 1) pa_nil))))
      (pss_one (ps_ret (pe_call GR hr4 rfl Rb.g Rb.kp Rb.b .nil pass0 (pa_cons (pe_call GF hr1 rfl Fa.g Fa.kp Fa.b .nil pass0 (pa_cons (pv 0) pa_nil)) (pa_cons (pv 1) pa_nil))))), ?_⟩
    obtain ⟨Y, as, ht, hP⟩ := id hY
    refine ⟨_, rfl, _, rfl, y, v, Tv, m, ps, rfl, hY, h40, hv, hl.mono fun H1 s1 ⟨t, ws, ev, hS, k⟩ => ?_⟩
    subst ev
    refine ⟨_, rfl, y, m, as, ps, rfl, s1 _ _ ht, hP.mono (sameT s1), Y.lines, by omega, fun H2 L s2 _ hL => ?_⟩
    exact ⟨_, rfl, L, t, far ps, m, ws, rfl, hL, hS.mono (sameT s2), far_inv Y.lines, by omega, fun H3 u bs rs s3 hu hR hr' => k H3 u bs rs (s2.trans s3) hu hR hr'⟩
end
end One
end P_Y4

section P_Y5
set_option linter.all false
set_option maxRecDepth 100000
set_option maxHeartbeats 8000000
namespace One
open PySem PySem.Spec PyProof.Rows L2
def rMin2 : List V → Hp → VK → Prop := fun xs H Q => ∃ i j : Int, xs = [.int i, .int j] ∧ Q (.int (if j < i then j else i)) H
theorem min2b {X : Cx} (hc : X.calm = true) : CallR X (.builtin "min") rMin2 := call_min2 hc
theorem nats_ints (ns : List Nat) : nats ns = (ns.map fun x => ((x : Nat) : Int)).map V.int := by
  rw [List.map_map]
  rfl
end One
end P_Y5

section P_S1
set_option linter.all false
set_option maxRecDepth 100000
set_option maxHeartbeats 8000000
/-! Draws by turns: a dict of the cells, of what is left of each, a place. -/
namespace One
open PySem PySem.Spec PyProof.Rows L2
abbrev kC : Key := Sum.inr ("cells" : Str)
abbrev kF : Key := Sum.inr ("lefts" : Str)
abbrev kT : Key := Sum.inr ("at" : Str)
def mkL (c l : Addr) (k : Int) : List (Key × V) := [(kC, .ref c), (kF, .ref l), (kT, .int k)]
theorem nCF : ¬ (kC = kF) := by decide +kernel
theorem nCT : ¬ (kC = kT) := by decide +kernel
theorem nFT : ¬ (kF = kT) := by decide +kernel
section
variable (c l : Addr) (k : Int)
theorem mkL_C : valV (mkL c l k) kC = some (.ref c) := valV_pos rfl
theorem mkL_F : valV (mkL c l k) kF = some (.ref l) := (valV_neg nCF).trans (valV_pos rfl)
theorem mkL_T : valV (mkL c l k) kT = some (.int k) := (valV_neg nCT).trans ((valV_neg nFT).trans (valV_pos rfl))
theorem put_atL (p : List (Key × V)) (k : Key) (v : V) (h : (p.any fun kv => decide (kv.1 = k)) = true) : putK p k v = p.map (fun kv => if kv.1 = k then (kv.1, v) else kv) := by
  unfold putK
  rw [if_pos h]
theorem mkL_put (b : Int) : putK (mkL c l k) kT (.int b) = mkL c l b := by
  rw [put_atL _ _ _ (by rw [valV_any, mkL_T]; rfl)]
  simp only [mkL, List.map_cons, List.map_nil, if_neg nCT, if_neg nFT, if_true]
theorem mkL_make : mergeK [] [(kC, V.ref c), (kF, .ref l), (kT, .int k)] = mkL c l k := by
  have e1 : putK ([] : List (Key × V)) kC (.ref c) = [(kC, .ref c)] := putK_new _ valV_nil
  have e2 : putK [(kC, V.ref c)] kF (.ref l) = [(kC, .ref c), (kF, .ref l)] := putK_new _ (by rw [valV_neg nCF]; rfl)
  have e3 : putK [(kC, V.ref c), (kF, V.ref l)] kT (.int k) = [(kC, .ref c), (kF, .ref l), (kT, .int k)] := putK_new _ (by rw [valV_neg nCT, valV_neg nFT]; rfl)
  simp only [mergeK, List.foldl_cons, List.foldl_nil]
  rw [e1, e2, e3]
  rfl
end
section
variable {H : Hp} {p c l : Addr} {k b : Int}
theorem gCL (h : H p = some (.dK (mkL c l k))) : DGet H p (.str ("cells" : Str)) (some (.ref c)) := by
  have q := DGet.k (k := kC) h
  rw [mkL_C] at q
  exact q
theorem gFL (h : H p = some (.dK (mkL c l k))) : DGet H p (.str ("lefts" : Str)) (some (.ref l)) := by
  have q := DGet.k (k := kF) h
  rw [mkL_F] at q
  exact q
theorem gTL (h : H p = some (.dK (mkL c l k))) : DGet H p (.str ("at" : Str)) (some (.int k)) := by
  have q := DGet.k (k := kT) h
  rw [mkL_T] at q
  exact q
theorem pTL (h : H p = some (.dK (mkL c l k))) : DPut H p (.str ("at" : Str)) (.int b) (upd H p (.dK (mkL c l b))) := by
  have q := DPut.k (k := kT) (v := .int b) h (by show 3 < sizeLine; decide)
  rw [mkL_put] at q
  exact q
end
/-- the draws' dict at p, its cells at c, what is left of them at l, at most n draws so far -/
structure ML (H : Hp) (p c l : Addr) (n : Nat) : Prop where
  ex : ∃ (zs ds : List Int) (k : Int), H p = some (.dK (mkL c l k)) ∧ H c = some (.lst (zs.map V.int)) ∧ H l = some (.lst (ds.map V.int)) ∧ zs.length = ds.length ∧ 0 < zs.length ∧ zs.length ≤ 63 ∧ (∀ d ∈ ds, 0 ≤ d) ∧ 0 ≤ k ∧ k ≤ (n : Int)
  ne : c ≠ l
  nn : n ≤ 1000000
/-- all stays but the dict and what is left -/
def ExtL (p l : Addr) (H H' : Hp) : Prop := ∀ b o, b ≠ p → b ≠ l → H b = some o → H' b = some o
theorem ExtL.refl (p l : Addr) (H : Hp) : ExtL p l H H := fun _ _ _ _ e => e
theorem ExtL.trans {p l : Addr} {H H1 H2 : Hp} (h : ExtL p l H H1) (k : ExtL p l H1 H2) : ExtL p l H H2 := fun b o hb hl e => k b o hb hl (h b o hb hl e)
theorem ExtL.same {p l : Addr} {H H1 : Hp} (h : Same H H1) : ExtL p l H H1 := fun b o _ _ e => h b o e
theorem ML.keep {H H' : Hp} {p c l : Addr} {n : Nat} (M : ML H p c l n) (e : Same H H') : ML H' p c l n := by
  obtain ⟨zs, ds, k, h1, h2, h3, r⟩ := M.ex
  exact ⟨⟨zs, ds, k, e _ _ h1, e _ _ h2, e _ _ h3, r⟩, M.ne, M.nn⟩
theorem ML.lt {H : Hp} {p c l : Addr} {n k : Nat} (M : ML H p c l n) (h : n ≤ k) (hk : k ≤ 1000000) : ML H p c l k := by
  obtain ⟨zs, ds, q, h1, h2, h3, h4, h5, h6, h7, h8, h9⟩ := M.ex
  exact ⟨⟨zs, ds, q, h1, h2, h3, h4, h5, h6, h7, h8, by omega⟩, M.ne, hk⟩
theorem tupL {H H' : Hp} {p c l : Addr} {n : Nat} (M : ML H p c l n) (e : ExtL p l H H') : ∀ b xs, H b = some (.tup xs) → H' b = some (.tup xs) := fun b xs h => by
  obtain ⟨zs, ds, k, h1, h2, h3, _⟩ := M.ex
  exact e b _ (ne_of h h1 (by intro z; cases z)) (ne_of h h3 (by intro z; cases z)) h
abbrev sMX : Stmt := top 57
abbrev sDR : Stmt := top 59
abbrev nMX : List Str := ["cell", "k"]
abbrev nDR : List Str := ["state", "many", "at", "place", "left", "number"]
theorem scMX : FnScope nMX ["cell", "k"] (defScope sMX) := ⟨rfl, rfl, rfl, by decide +kernel, rfl, by decide +kernel, by decide +kernel⟩
theorem scDR : FnScope nDR ["state", "many"] (defScope sDR) := ⟨rfl, rfl, rfl, by decide +kernel, rfl, by decide +kernel, by decide +kernel⟩
def spMX : Sp := fun vs H Q _ => ∃ z k : Int, vs = [.int z, .int k] ∧ 0 ≤ k ∧ k ≤ 2000000 ∧ ∀ r : Int, 0 ≤ r → r < 2147483629 → Q (.int r) H
def spDR : Sp := fun vs H Q _ => ∃ (p c l : Addr) (n : Nat) (many : Int), vs = [.ref p, .int many] ∧ ML H p c l n ∧ n < 1000000 ∧ 0 < many ∧ many < 1073741824 ∧
  ∀ (H' : Hp) (r : Int), ML H' p c l (n + 1) → ExtL p l H H' → 0 ≤ r → r < many → Q (.int r) H'
theorem int_at {zs : List Int} {i : Int} (h0 : 0 ≤ i) (h1 : i < (zs.length : Int)) : ∃ (j : Nat) (z : Int), i = (j : Nat) ∧ j < zs.length ∧ zs[j]? = some z ∧ atI (zs.map V.int) i = some (V.int z) := by
  have hj : i.toNat < zs.length := by omega
  refine ⟨i.toNat, zs[i.toNat], by omega, hj, List.getElem?_eq_getElem hj, at_of (j := i.toNat) (by omega) ?_⟩
  rw [List.getElem?_map, List.getElem?_eq_getElem hj]
  rfl
section
variable {P : Program} {w : World} {K : PySem.W.Frag} {mg : Str → Option Value} {base : Heap}
theorem ok_mixed {f : Addr} {fd : FuncData} (F : Fun K "_law_mixed" "_law_mixed" sMX f fd) : FnOk P w K mg base CX0 1 f fd ["cell", "k"] spMX := by
  refine F.ok scMX (fun vs H Q E h => ?_) (fun cdv A outer s H vs Q E hr h => ?_)
  · obtain ⟨z, k, rfl, _⟩ := h
    rfl
  · obtain ⟨z, k, rfl, h0, h1, q⟩ := h
    have nd := scMX.nd
    refine ⟨_, pss_cons (ps_set (i := 0) nd rfl (Or.inl rfl) (pe_op op_mod (pv 0) pe_int))
      (pss_one (ps_ret (pe_op op_mod (pe_op op_mul (pe_op op_mod (pe_op op_add (pe_op op_add (pe_op op_mul (pv 0) (pe_op op_add pe_int (pe_op op_mul (pe_op op_mul pe_int (pv 1)) (pv 1)))) (pe_op op_mul pe_int (pv 1))) pe_int) pe_int) pe_int) pe_int))), ?_⟩
    have kk0 : 0 ≤ 2 * k * k := Int.mul_nonneg (by omega) h0
    have kk1 : 2 * k * k ≤ 4000000 * 2000000 := Int.mul_le_mul (by omega) h1 h0 (by decide)
    have m0 : 0 ≤ z % 2147483647 := Int.emod_nonneg _ (by decide)
    have m1 : z % 2147483647 < 2147483647 := Int.emod_lt_of_pos _ (by decide)
    refine ⟨_, rfl, _, _, rfl, rfl, (by show (0 : Int) < 2147483647; decide), ?_⟩
    refine ⟨_, rfl, _, rfl, _, _, rfl, rfl, .inl ⟨by decide, by decide⟩, _, rfl, _, _, rfl, rfl, .inr ⟨by omega, by omega⟩, _, _, rfl, rfl, _, _, rfl, rfl, .inl ⟨by show -(2 ^ 64) < z % 2147483647; omega, by show z % 2147483647 < 2 ^ 64; omega⟩, ?_⟩
    refine ⟨_, rfl, _, _, rfl, rfl, .inl ⟨by decide, by decide⟩, _, _, rfl, rfl, _, _, rfl, rfl, _, _, rfl, rfl, (by show (0 : Int) < 2147483647; decide), _, _, rfl, rfl, .inr ⟨by decide, by decide⟩, _, _, rfl, rfl, (by show (0 : Int) < 2147483629; decide), ?_⟩
    exact q _ (Int.emod_nonneg _ (by decide)) (Int.emod_lt_of_pos _ (by decide))
theorem ok_draw {f fM : Addr} {fd fdM : FuncData} (F : Fun K "_law_draw" "_law_draw" sDR f fd) (T : TB mg) (Mx : Cal K mg "_law_mixed" fM fdM ["cell", "k"]) (GM : FnOk P w K mg base CX0 1 fM fdM ["cell", "k"] spMX) : FnOk P w K mg base CX0 2 f fd ["state", "many"] spDR := by
  refine F.ok scDR (fun vs H Q E h => ?_) (fun cdv A outer s H vs Q E hr h => ?_)
  · obtain ⟨p, c, l, n, many, rfl, _⟩ := h
    rfl
  · obtain ⟨p, c, l, n, many, rfl, M, hn, h0, h1, kk⟩ := h
    obtain ⟨zs, ds, k, hp, hc, hl, hzd, hz0, hz63, hd0, hk0, hkn⟩ := M.ex
    have nd := scDR.nd
    have hu := hu_of hr
    have hr1 : Room 1 _ := hr
    refine ⟨_, pss_cons (ps_set (i := 2) nd rfl (Or.inl rfl) (pe_dget hu (pv 0) pe_str (fun _ _ => rfl)))
      (pss_cons (ps_dput hu (pv 0) pe_str (pe_op op_add (pv 2) pe_int) rfl)
      (pss_cons (ps_set (i := 3) nd rfl (Or.inl rfl) (pe_op op_mod (pv 2) (pe_callB call_len_seq (by rfl) T.len PySem.boot_len (pa_cons (pe_dget hu (pv 0) pe_str (fun _ _ => rfl)) pa_nil))))
      (pss_cons (ps_set (i := 4) nd rfl (Or.inl rfl) (pe_ix ix_list (pe_dget hu (pv 0) pe_str (fun _ _ => rfl)) (pv 3) (fun _ _ => rfl)))
      (pss_cons (ps_if (pt_cmpR op_gt (pv 4) pe_int (nomark _)) (pss_cons (ps_asg (pe_op op_fdiv (pv 4) (pv 1)) (pg_sub (pe_dget hu (pv 0) pe_str (fun _ _ => rfl)) (pv 3) set_list))
      (pss_one (ps_ret (pe_op op_mod (pv 4) (pv 1))))) pss_nil)
      (pss_cons (ps_set (i := 5) nd rfl (Or.inl rfl) (pe_call GM hr1 rfl Mx.g Mx.kp Mx.b .nil pass0 (pa_cons (pe_call GM hr1 rfl Mx.g Mx.kp Mx.b .nil pass0 (pa_cons (pe_ix ix_list (pe_dget hu (pv 0) pe_str (fun _ _ => rfl)) (pv 3) (fun _ _ => rfl)) (pa_cons (pv 2) pa_nil))) (pa_cons (pe_op op_add pe_int (pv 2)) pa_nil))))
      (pss_one (ps_ret (pe_op op_mod (pe_op op_fdiv (pe_op op_add (pe_op op_mul (pv 5) pe_int) (pe_call GM hr1 rfl Mx.g Mx.kp Mx.b .nil pass0 (pa_cons (pv 5) (pa_cons (pe_op op_add pe_int (pv 2)) pa_nil)))) pe_int) (pv 1))))))))), ?_⟩
    have npc : p ≠ c := ne_of hp hc (by intro z; cases z)
    have npl : p ≠ l := ne_of hp hl (by intro z; cases z)
    refine ⟨_, rfl, p, _, rfl, gTL hp, ?_⟩
    refine ⟨_, rfl, _, _, rfl, rfl, _, rfl, p, _, rfl, pTL hp, ?_⟩
    have hp1 : (upd H p (.dK (mkL c l (k + 1)))) p = some (.dK (mkL c l (k + 1))) := upd_same
    have hc1 : (upd H p (.dK (mkL c l (k + 1)))) c = some (.lst (zs.map V.int)) := (upd_ne (Ne.symm npc)).trans hc
    have hl1 : (upd H p (.dK (mkL c l (k + 1)))) l = some (.lst (ds.map V.int)) := (upd_ne (Ne.symm npl)).trans hl
    have e1 : ExtL p l H (upd H p (.dK (mkL c l (k + 1)))) := fun b o hb _ e => (upd_ne hb).trans e
    generalize upd H p (.dK (mkL c l (k + 1))) = H1 at hp1 hc1 hl1 e1
    have zl : (zs.map V.int).length = zs.length := List.length_map _
    refine ⟨_, rfl, _, rfl, p, _, rfl, gCL hp1, c, _, rfl, .inl (SqL.of hc1), _, _, rfl, rfl, (by show (0 : Int) < ((zs.map V.int).length : Nat); rw [zl]; omega), ?_⟩
    dsimp only
    rw [zl]
    have i0 : 0 ≤ k % ((zs.length : Nat) : Int) := Int.emod_nonneg _ (by omega)
    have i1 : k % ((zs.length : Nat) : Int) < ((zs.length : Nat) : Int) := Int.emod_lt_of_pos _ (by omega)
    generalize k % ((zs.length : Nat) : Int) = i at i0 i1
    obtain ⟨j, d, ej, hj, hd, ad⟩ := int_at (zs := ds) i0 (by rw [← hzd]; exact i1)
    obtain ⟨_, z, _, _, _, az⟩ := int_at (zs := zs) i0 i1
    subst ej
    refine ⟨_, rfl, p, _, rfl, gFL hp1, _, rfl, l, _, _, _, rfl, rfl, SqL.of hl1, ad, ?_⟩
    have fin : ∀ {H' : Hp} {ds' : List Int}, H' p = some (.dK (mkL c l (k + 1))) → H' c = some (.lst (zs.map V.int)) → H' l = some (.lst (ds'.map V.int)) → zs.length = ds'.length → (∀ d ∈ ds', 0 ≤ d) → ML H' p c l (n + 1) := fun {H' ds'} a1 a2 a3 a4 a5 => ⟨⟨zs, ds', k + 1, a1, a2, a3, a4, hz0, hz63, a5, by omega, by omega⟩, M.ne, by omega⟩
    have dn := hd0 d (List.mem_of_getElem? hd)
    refine ⟨_, rfl, _, _, rfl, rfl, _, rfl, ite2 (fun hb => ?_) (fun _ => ?_)⟩
    · have ix : ixN (ds.map V.int).length ((j : Nat) : Int) = some j := ix_nat (by rw [List.length_map]; exact hj)
      refine ⟨_, rfl, _, rfl, _, _, rfl, rfl, ⟨h0, h1⟩, _, rfl, p, _, rfl, gFL hp1, _, rfl, l, _, _, j, rfl, rfl, hl1, ix, ?_⟩
      have es : (ds.map V.int).set j (V.int (d / many)) = (ds.set j (d / many)).map V.int := (List.map_set).symm
      rw [es]
      have e2 : ExtL p l H (upd H1 l (.lst ((ds.set j (d / many)).map V.int))) := fun b o hb hl' e => (upd_ne hl').trans (e1 b o hb hl' e)
      refine ⟨_, rfl, _, rfl, _, _, rfl, rfl, h0, ?_⟩
      refine kk _ _ (fin (ds' := ds.set j (d / many)) ((upd_ne npl).trans hp1) ((upd_ne M.ne).trans hc1) upd_same (by rw [List.length_set]; exact hzd) fun x hx => ?_) e2 (Int.emod_nonneg _ (by omega)) (Int.emod_lt_of_pos _ h0)
      rcases List.mem_or_eq_of_mem_set hx with h | h
      · exact hd0 x h
      · rw [h]
        exact Int.ediv_nonneg dn (Int.le_of_lt h0)
    · refine ⟨_, rfl, p, _, rfl, gCL hp1, _, rfl, c, _, _, _, rfl, rfl, SqL.of hc1, az, _, rfl, z, k, rfl, hk0, by omega, fun r r0 r1 => ?_⟩
      refine ⟨_, rfl, _, _, rfl, rfl, r, 40 + k, rfl, by omega, by omega, fun g g0 g1 => ?_⟩
      refine ⟨_, rfl, _, _, rfl, rfl, .inr ⟨by decide, by decide⟩, _, rfl, _, rfl, _, _, rfl, rfl, g, 7 + k, rfl, by omega, by omega, fun q q0 q1 => ?_⟩
      refine ⟨_, _, rfl, rfl, _, _, rfl, rfl, ⟨by decide, by decide⟩, _, rfl, _, _, rfl, rfl, h0, ?_⟩
      exact kk _ _ (fin hp1 hc1 hl1 hzd hd0) e1 (Int.emod_nonneg _ (by omega)) (Int.emod_lt_of_pos _ h0)
end
end One
end P_S1

section P_S2
set_option linter.all false
set_option maxRecDepth 100000
set_option maxHeartbeats 8000000
namespace One
open PySem PySem.Spec PyProof.Rows L2
theorem dp_ints {K : PySem.W.Frag} {H : Hp} : ∀ ns : List Int, DpAll K H (ns.map V.int) (ns.map PyData.int)
  | [] => .nil
  | x :: r => .cons (.int x) (dp_ints r)
theorem ints_depth : ∀ ns : List Int, PyData.depthAll (ns.map PyData.int) = 0
  | [] => rfl
  | x :: r => by
    show max 0 (PyData.depthAll (r.map PyData.int)) = 0
    rw [ints_depth r]
    rfl
theorem ints_lay : ∀ ns : List Int, PyData.canLayAll0 (ns.map PyData.int) = true
  | [] => rfl
  | x :: r => by
    show (PyData.canLay0 (.int x) && PyData.canLayAll0 (r.map PyData.int)) = true
    rw [ints_lay r]
    rfl
theorem ints_shaped (ns : List Int) : SeqAt.shaped (.list (ns.map PyData.int)) = true := by
  unfold SeqAt.shaped
  have h1 : PyData.canLay0 (.list (ns.map PyData.int)) = true := ints_lay ns
  have h2 : PyData.depth (.list (ns.map PyData.int)) ≤ 64 := by
    show PyData.depthAll (ns.map PyData.int) + 1 ≤ 64
    rw [ints_depth]
    decide
  rw [h1, decide_eq_true h2]
  rfl
theorem nats_ne (ns : List Nat) : PyData.eqv (.list ((ns.map fun x => ((x : Nat) : Int)).map PyData.int)) (.list []) = ns.isEmpty := by
  cases ns <;> rfl
theorem ML.apart {H : Hp} {p a l q : Addr} {n : Nat} (M : ML H p a l n) (h : H q = none) : q ≠ p ∧ q ≠ l := by
  obtain ⟨zs, ds, k, h1, h2, h3, _⟩ := M.ex
  exact ⟨fun z => (by rw [z, h1] at h; cases h), fun z => (by rw [z, h3] at h; cases h)⟩
/-- a list made since is written -/
theorem ML.wrN {H0 H : Hp} {p a l q : Addr} {n0 n : Nat} {o : HO} (M0 : ML H0 p a l n0) (h0 : H0 q = none) (M : ML H p a l n) : ML (upd H q o) p a l n := by
  obtain ⟨zs, ds, k, g1, g2, g3, _⟩ := M0.ex
  obtain ⟨zs', ds', k', h1, h2, h3, r⟩ := M.ex
  exact ⟨⟨zs', ds', k', (upd_ne (ne_of_none g1 h0)).trans h1, (upd_ne (ne_of_none g2 h0)).trans h2, (upd_ne (ne_of_none g3 h0)).trans h3, r⟩, M.ne, M.nn⟩
theorem ExtL.wr {p l q : Addr} {H H' : Hp} {o : HO} (e : ExtL p l H H') (h : H q = none) : ExtL p l H (upd H' q o) := fun b u hb hl hu => by
  rw [upd_ne (ne_of_none hu h)]
  exact e b u hb hl hu
abbrev sOR : Stmt := top 60
abbrev nOR : List Str := ["state", "size", "left", "found"]
theorem scOR : FnScope nOR ["state", "size"] (defScope sOR) := ⟨rfl, rfl, rfl, by decide +kernel, rfl, by decide +kernel, by decide +kernel⟩
def spOR : Sp := fun vs H Q _ => ∃ (p a l : Addr) (n size : Nat), vs = [.ref p, .int (size : Nat)] ∧ ML H p a l n ∧ size ≤ 1000 ∧ n + size ≤ 1000000 ∧
  ∀ (H' : Hp) (b : Addr) (ms : List Nat), ML H' p a l (n + size) → ExtL p l H H' → H b = none → H' b = some (.lst (nats ms)) → ms.Perm (List.range size) → Q (.ref b) H'
section
variable {P : Program} {w : World} {K : PySem.W.Frag} {mg : Str → Option Value} {base : Heap}
theorem ok_order {f fN : Addr} {fd fdN : FuncData} (F : Fun K "_law_order" "_law_order" sOR f fd) (T : TB mg) (N : Cal K mg "_law_draw" fN fdN ["state", "many"]) (GN : FnOk P w K mg base CX0 2 fN fdN ["state", "many"] spDR) : FnOk P w K mg base CX0 3 f fd ["state", "size"] (spOR) := by
  refine F.ok scOR (fun vs H Q E h => ?_) (fun cdv A outer s H vs Q E hr h => ?_)
  · obtain ⟨p, a, l, n, size, rfl, _⟩ := h
    rfl
  · obtain ⟨p, a, l, n, size, rfl, M, h1000, hn, k⟩ := h
    obtain ⟨ns, ens, lns⟩ : ∃ ns, ns = List.range size ∧ ns.length = size := ⟨_, rfl, List.length_range⟩
    have nd := scOR.nd
    have hu2 : (A.deeper (envOfC "_law_order" (defScope sOR) s.heap.objs.size f cdv)).units + 64 < cLine := hr.units
    refine ⟨_, C8.pss_cut (ps_par (i := 2) (j := 3) (by rfl) nd rfl rfl (by decide) rfl rfl (pa_cons (pe_listRg (by rfl) (by rfl) T.list (prg_1 (by rfl) T.range (pv 1))) (pa_cons (pe_lst pa_nil) pa_nil)) (by rfl))
      (pss_cons (ps_while PassesOwn.never (pt_cmpR (op_neD (by exact hu2)) (pv 2) (pe_lst pa_nil) (nomark _))
        (pss_one (ps_expr (pe_bm PySem.F.plainAttrs_list PySem.F.slot_list_append PySem.F.type_list_append mt_append (pv 3) (pa_cons (pe_bm PySem.F.plainAttrs_list PySem.F.slot_list_pop PySem.F.type_list_pop mt_popAt (pv 2) (pa_cons (pe_call GN hr rfl N.g N.kp N.b .nil pass0 (pa_cons (pv 0) (pa_cons (pe_callB call_len_seq (by rfl) T.len PySem.boot_len (pa_cons (pv 2) pa_nil)) pa_nil))) pa_nil)) pa_nil)))))
      (pss_one (ps_ret (pv 3)))), ?_⟩
    refine ⟨fun σ H2 => ∃ (b c : Addr) (left done : List Nat) (n' : Nat), σ = [some (.ref p), some (.int (size : Nat)), some (.ref b), some (.ref c)] ∧ H b = none ∧ H c = none ∧ b ≠ c ∧ H2 b = some (.lst (nats left)) ∧ H2 c = some (.lst (nats done)) ∧ (left ++ done).Perm ns ∧ ML H2 p a l n' ∧ n' + left.length = n + ns.length ∧ ExtL p l H H2, ?_, ?_⟩
    · refine ⟨_, rfl, _, rfl, RgOk.of_le (by omega) (by omega) (by omega) (by omega), ?_⟩
      rw [nats_range, ← ens]
      refine fun b hb => ⟨Nat.zero_le _, fun c hc => ⟨_, _, rfl, ?_⟩⟩
      have s1 := Same.new (o := .lst (nats ns)) hb
      have s2 := Same.new (o := .lst []) hc
      have hbc : b ≠ c := ne_of_none upd_same hc
      exact ⟨b, c, ns, [], n, rfl, hb, s1.free hc, hbc, s2 _ _ upd_same, upd_same, by rw [List.append_nil], M.keep (s1.trans s2), rfl, ExtL.same (s1.trans s2)⟩
    · rintro σ0 H0 ⟨b, c, left0, done0, n0, rfl, hb, hc, hbc, hb0, hc0, hp0, M0, hn0, e0⟩
      unfold tSeq
      refine while_by (fun σ H2 => ∃ (left done : List Nat) (n' : Nat), σ = [some (.ref p), some (.int (size : Nat)), some (.ref b), some (.ref c)] ∧ H2 b = some (.lst (nats left)) ∧ H2 c = some (.lst (nats done)) ∧ (left ++ done).Perm ns ∧ ML H2 p a l n' ∧ n' + left.length = n + ns.length ∧ ExtL p l H H2)
        (fun σ H2 => match H2 b with
          | some (.lst xs) => xs.length
          | _ => 0) ⟨left0, done0, n0, rfl, hb0, hc0, hp0, M0, hn0, e0⟩ ?_ ?_
      · rintro σ H2 ⟨left, done, n', rfl, hb2, hc2, hp2, M2, hn2, e2⟩
        refine ⟨_, rfl, Nat.zero_le _, fun z hz => ?_⟩
        have sz := Same.new (o := .lst []) hz
        have hb3 := sz _ _ hb2
        have hc3 := sz _ _ hc2
        have M3 := M2.keep sz
        have e3 := e2.trans (ExtL.same sz)
        have ll : (left ++ done).length = ns.length := hp2.length_eq
        rw [List.length_append] at ll
        refine ⟨.list ((left.map fun x => ((x : Nat) : Int)).map PyData.int), .list [], (by
          refine .lst (SqL.of hb3) ?_
          rw [nats_ints]
          exact dp_ints _), .lst (SqL.of upd_same) .nil, ints_shaped _, rfl, _, rfl, ?_⟩
        rw [nats_ne]
        generalize hH3 : upd H2 z (.lst []) = H3 at hb3 hc3 M3 e3
        have mu : (match H2 b with
          | some (.lst xs) => xs.length
          | _ => 0) = left.length := by
          rw [hb2]
          exact List.length_map _
        cases left with
        | nil =>
          refine iteF ⟨_, rfl, k _ c done (M3.lt (by
            have : n' + ([] : List Nat).length = n + ns.length := hn2
            rw [List.length_nil] at this
            omega) (by omega)) e3 hc hc3 (ens ▸ hp2)⟩
        | cons x0 r0 =>
          have nlen : (nats (x0 :: r0)).length = (x0 :: r0).length := List.length_map _
          have hpos : 0 < (x0 :: r0).length := Nat.succ_pos _
          have nn : n' + (x0 :: r0).length = n + ns.length := hn2
          refine iteT ⟨_, rfl, .inl ⟨rfl, _, SqL.of hc3⟩, _, rfl, .inl ⟨rfl, _, SqL.of hb3⟩, _, rfl, _, rfl, b, _, rfl, .inl (SqL.of hb3), p, a, l, n', _, rfl, M3, by omega, by omega, by omega, fun H4 r M4 e4 q0 q1 => ?_⟩
          obtain ⟨j, rfl⟩ : ∃ j : Nat, r = (j : Nat) := ⟨r.toNat, by omega⟩
          rw [nlen] at q1
          have hj : j < (x0 :: r0).length := by omega
          obtain ⟨nbp, nbl⟩ := M.apart hb
          obtain ⟨ncp, ncl⟩ := M.apart hc
          have hb4 := e4 _ _ nbp nbl hb3
          have hc4 := e4 _ _ ncp ncl hc3
          obtain ⟨x, hx⟩ : ∃ x, (x0 :: r0)[j]? = some x := ⟨_, List.getElem?_eq_getElem hj⟩
          have hj' : seqIndex? ((j : Nat) : Int) (nats (x0 :: r0)).length = some j := seq_ix (by rw [nlen]; exact hj)
          refine ⟨b, _, _, j, _, rfl, rfl, hb4, by omega, by omega, hj', nats_at hx, ?_⟩
          rw [nats_erase]
          have M5 : ML (upd H4 b (.lst (nats ((x0 :: r0).eraseIdx j)))) p a l (n' + 1) := ML.wrN M hb M4
          have hc5 : (upd H4 b (.lst (nats ((x0 :: r0).eraseIdx j)))) c = some (.lst (nats done)) := (upd_ne (Ne.symm hbc)).trans hc4
          have e5 : ExtL p l H (upd H4 b (.lst (nats ((x0 :: r0).eraseIdx j)))) := (e3.trans e4).wr hb
          have hb5 : (upd H4 b (.lst (nats ((x0 :: r0).eraseIdx j)))) b = some (.lst (nats ((x0 :: r0).eraseIdx j))) := upd_same
          generalize upd H4 b (.lst (nats ((x0 :: r0).eraseIdx j))) = H5 at M5 hc5 e5 hb5
          refine ⟨c, _, _, rfl, rfl, hc5, small1000 (by rw [List.length_map]; omega), ?_⟩
          have hper := erase_perm hx
          have hle : ((x0 :: r0).eraseIdx j).length + 1 = (x0 :: r0).length := by
            have : (x0 :: r0).length = ((x0 :: r0).eraseIdx j).length + 1 := hper.length_eq
            omega
          refine ⟨⟨(x0 :: r0).eraseIdx j, done ++ [x], n' + 1, rfl, (upd_ne hbc).trans hb5, ?_, ?_, ML.wrN M hc M5, by omega, e5.wr hc⟩, ?_⟩
          · rw [upd_same, nats_app]
            rfl
          · refine List.Perm.trans ?_ hp2
            refine List.Perm.trans ?_ (List.Perm.append_right _ hper.symm)
            show ((x0 :: r0).eraseIdx j ++ (done ++ [x])).Perm (x :: ((x0 :: r0).eraseIdx j ++ done))
            rw [← List.append_assoc]
            exact List.perm_append_comm
          · rw [mu]
            show (match (upd H5 c (.lst (nats done ++ [V.int (x : Nat)]))) b with
              | some (.lst xs) => xs.length
              | _ => 0) < _
            rw [upd_ne hbc, hb5]
            show (nats ((x0 :: r0).eraseIdx j)).length < _
            rw [List.length_map]
            omega
      · intro σ H1 Q1 Q2 hq h
        obtain ⟨v, e1, e2, h⟩ := h
        refine ⟨v, e1, e2, fun z hz => ?_⟩
        obtain ⟨d, e, h1, h2, h3, h4, kk, h5, q⟩ := h z hz
        exact ⟨d, e, h1, h2, h3, h4, kk, h5, hq _ _ q⟩
end
end One
end P_S2

section P_S3
set_option linter.all false
set_option maxRecDepth 100000
set_option maxHeartbeats 8000000
namespace One
open PySem PySem.Spec PyProof.Rows L2
abbrev sBG : Stmt := top 58
abbrev nBG : List Str := ["script", "cells", "cell"]
theorem scBG : FnScope nBG ["script"] (defScope sBG) := ⟨rfl, rfl, rfl, by decide +kernel, rfl, by decide +kernel, by decide +kernel⟩
def spBG (K : PySem.W.Frag) : Sp := fun vs H Q _ => ∃ (a : Addr) (ns : List Int), vs = [.ref a] ∧ SqL K H a (ns.map V.int) ∧ ns.length ≤ 63 ∧
  ∀ (H' : Hp) (p c l : Addr), Same H H' → H p = none → H c = none → H l = none → ML H' p c l 0 → Q (.ref p) H'
def tIfI : TE := tIf (tTest (tOp (rI0 fun i j => .bl (decide (j ≤ i))) (tVar 2) (tOp (rI CPow fun i j => .int (i ^ j.toNat)) (tC (.int 10)) (tC (.int 18))))) (tVar 2) (tC (.int 0))
section
variable {P : Program} {w : World} {K : PySem.W.Frag} {mg : Str → Option Value} {base : Heap}
theorem ok_begin {f : Addr} {fd : FuncData} (F : Fun K "_law_begin" "_law_begin" sBG f fd) (T : TB mg) : FnOk P w K mg base CX0 1 f fd ["script"] (spBG K) := by
  refine F.ok scBG (fun vs H Q E h => ?_) (fun cdv A outer s H vs Q E hr h => ?_)
  · obtain ⟨a, ns, rfl, _⟩ := h
    rfl
  · obtain ⟨a, ns, rfl, hS, hl, k⟩ := h
    have nd := scBG.nd
    have hu : (A.deeper (envOfC "_law_begin" (defScope sBG) s.heap.objs.size f cdv)).units + 64 < cLine := hr.units
    refine ⟨_, pss_cons (ps_set (i := 1) nd rfl (Or.inl rfl) (pe_mid (pe_ifExp (pt_cmpR (op_neD (by exact hu)) (pv 0) (pe_lst pa_nil) (nomark _)) (pe_callTy call_list_of (by rfl) T.list (by decide +kernel) (pa_cons (pv 0) pa_nil) (by decide)) (pe_lst (pa_cons pe_int pa_nil)))))
      (pss_one (ps_ret (pe_disp (pps_cons pe_str (pv 1) (pps_cons pe_str (pe_lc (own := [("cell", 2)]) (g := (gName 2)) (tt := tYes) (te := (tIf (tTest (tOp (rI0 fun i j => .bl (decide (j ≤ i))) (tVar 2) (tOp (rI CPow fun i j => .int (i ^ j.toNat)) (tC (.int 10)) (tC (.int 18))))) (tVar 2) (tC (.int 0)))) rfl nd (pi_list (pv 1)) (blkOk_by (N := nBG) (sc := defScope sBG) (by decide +kernel)) (fun _ _ _ _ _ => pg_name (i := 2) nd rfl (Or.inl rfl)) (fun _ _ _ _ _ => pts_nil) (fun _ _ _ _ _ => by exact (pe_ifExp (pt_cmpR op_ge (pv 2) (pe_op op_pow pe_int pe_int) (nomark _)) (pv 2) pe_int))) (pps_cons pe_str pe_int pps_nil))) (by rfl) (by rfl) (fun z => by cases z) (by decide)))), ?_⟩
    refine ⟨fun v H1 => ∃ (c : Addr) (zs : List Int), v = .ref c ∧ H c = none ∧ H1 c = some (.lst (zs.map V.int)) ∧ 0 < zs.length ∧ zs.length ≤ 63 ∧ Same H H1, ?_, ?_⟩
    · refine ⟨_, rfl, Nat.zero_le _, fun l0 hl0 => ?_⟩
      have s0 := Same.new (o := .lst []) hl0
      have hS0 := s0.seq hS
      refine ⟨.list (ns.map PyData.int), .list [], .lst hS0 (dp_ints ns), .lst (SqL.of upd_same) .nil, ints_shaped ns, rfl, _, rfl, ?_⟩
      cases ns with
      | nil =>
        refine iteF ⟨by show 1 ≤ sizeLine; decide, fun c hc => ⟨c, [0], rfl, s0.free hc, upd_same, Nat.one_pos, by show 1 ≤ 63; decide, s0.trans (Same.new hc)⟩⟩
      | cons x r =>
        refine iteT ⟨_, rfl, a, _, rfl, .inl hS0, fun c hc => ⟨c, x :: r, rfl, s0.free hc, upd_same, Nat.succ_pos _, hl, s0.trans (Same.new hc)⟩⟩
    · rintro v H1 ⟨c, zs, rfl, hc0, hc, hz0, hz63, s1⟩
      refine fun p hp => ?_
      have sp := Same.new (o := .dK []) hp
      have hp1 : (upd H1 p (.dK [])) p = some (.dK []) := upd_same
      have hc1 := sp _ _ hc
      have s1p := s1.trans sp
      have hp0 := s1.free hp
      generalize upd H1 p (.dK []) = H2 at hp1 hc1 s1p
      refine ⟨_, rfl, _, rfl, c, rfl, ⟨_, SqL.of hc1⟩, fun D hD => ?_⟩
      have sD := Same.new (o := .lst []) hD
      refine lc_it (walk_list (K := K) (a := c) (xs := zs.map V.int)) (fun i H6 => ∃ ds : List Int, ds.length = i ∧ H6 D = some (.lst (ds.map V.int)) ∧ (∀ d ∈ ds, 0 ≤ d) ∧ Same H2 H6) ⟨[], rfl, upd_same, fun d h => absurd h (by simp), sD⟩ (fun i H6 _ ⟨_, _, _, _, s'⟩ => SqL.of (s' _ _ hc1)) ?_ ?_
      · rintro i x H6 H7 hi ⟨ds, ld, h6, d6, s6⟩ ⟨rfl, hx⟩
        have hx : (zs.map V.int)[i]? = some x := hx
        rw [List.length_map] at hi
        rw [List.getElem?_map, List.getElem?_eq_getElem hi] at hx
        cases hx
        generalize zs[i] = z
        have fin : ∀ d : Int, 0 ≤ d → ∃ acc, H7 D = some (.lst acc) ∧ acc.length < sizeLine ∧ ∃ ds' : List Int, ds'.length = i + 1 ∧ (upd H7 D (.lst (acc ++ [V.int d]))) D = some (.lst (ds'.map V.int)) ∧ (∀ d ∈ ds', 0 ≤ d) ∧ Same H2 (upd H7 D (.lst (acc ++ [V.int d]))) := fun d hd => by
          refine ⟨_, h6, small1000 (by rw [List.length_map]; omega), ds ++ [d], by rw [List.length_append, ld]; rfl, ?_, fun q hq => ?_, fun b o e => ?_⟩
          · rw [upd_same, List.map_append]
            rfl
          · rcases List.mem_append.mp hq with h | h
            · exact d6 q h
            · rw [List.mem_singleton.mp h]
              exact hd
          · rw [upd_ne (ne_of_none e hD)]
            exact s6 _ _ e
        refine ⟨rfl, yes ⟨_, rfl, _, _, rfl, rfl, ⟨by decide, by decide, by decide⟩, _, _, rfl, rfl, _, rfl, ite2 (fun hb => ?_) (fun _ => ?_)⟩⟩
        · have hz : (10 : Int) ^ (18 : Int).toNat ≤ z := of_decide_eq_true hb
          exact ⟨_, rfl, fin z (Int.le_trans (by decide) hz)⟩
        · exact fin 0 (Int.le_refl _)
      · rintro H6 ⟨ds, ld, h6, d6, s6⟩
        rw [List.length_map] at ld
        have hp6 := s6 _ _ hp1
        have hc6 := s6 _ _ hc1
        refine ⟨hp6, [(kC, .ref c), (kF, .ref D), (kT, .int 0)], rfl, by show 3 ≤ 15; decide, ?_⟩
        have ncp : c ≠ p := ne_of hc6 hp6 (by intro z; cases z)
        have nDp : D ≠ p := ne_of h6 hp6 (by intro z; cases z)
        have ncD : c ≠ D := ne_of_none hc1 hD
        have s7 : Same H (upd H6 p (.dK (mergeK [] [(kC, V.ref c), (kF, .ref D), (kT, .int 0)]))) := fun b o e => by
          rw [upd_ne (ne_of_none e hp0)]
          exact s6 _ _ (s1p _ _ e)
        exact k _ p c D s7 hp0 hc0 (s1p.free hD) ⟨⟨zs, ds, 0, by rw [upd_same, mkL_make], (upd_ne ncp).trans hc6, (upd_ne nDp).trans h6, ld.symm, hz0, hz63, d6, Int.le_refl _, Int.le_refl _⟩, ncD, by decide⟩
end
end One
end P_S3

section P_S4
set_option linter.all false
set_option maxRecDepth 100000
set_option maxHeartbeats 8000000
namespace One
open PySem PySem.Spec PyProof.Rows L2
abbrev sAC : Stmt := top 61
abbrev nAC : List Str := ["lines", "many", "one", "other", "base", "kept", "begin", "end", "start", "stop", "number", "line"]
theorem scAC : FnScope nAC ["lines", "many", "one", "other"] (defScope sAC) := ⟨rfl, rfl, rfl, by decide +kernel, rfl, by decide +kernel, by decide +kernel⟩
def spAC : Sp := fun vs H Q _ => ∃ (L : Addr) (as : List Addr) (ps : List (Nat × Nat)) (n i j : Nat) (a b : Nat × Nat), vs = [.ref L, .int (n : Nat), .int (i : Nat), .int (j : Nat)] ∧ H L = some (.lst (refs as)) ∧ PL H as ps ∧ ps.length ≤ 200 ∧ ps[i]? = some a ∧ ps[j]? = some b ∧
  ∀ (H' : Hp) (L' : Addr) (bs : List Addr), Same H H' → H L' = none → H' L' = some (.lst (refs bs)) → PL H' bs (putOn n ps i j a b) → Q (.ref L') H'
section
variable {P : Program} {w : World} {K : PySem.W.Frag} {mg : Str → Option Value} {base : Heap}
theorem ok_across {f : Addr} {fd : FuncData} (F : Fun K "_law_across" "_law_across" sAC f fd) (T : TB mg) : FnOk P w K mg base CX0 1 f fd ["lines", "many", "one", "other"] spAC := by
  refine F.ok scAC (fun vs H Q E h => ?_) (fun cdv A outer s H vs Q E hr h => ?_)
  · obtain ⟨L, as, ps, n, i, j, a, b, rfl, _⟩ := h
    rfl
  · obtain ⟨L, as, ps, n, i, j, a, b, rfl, hL, hP, h200, ha, hb, k⟩ := h
    have nd := scAC.nd
    refine ⟨_, pss_cons (ps_set (i := 4) nd rfl (Or.inl rfl) (pe_op op_mul pe_int (pv 1)))
      (pss_cons (ps_setLc (i := 5) (own := [("number", 10), ("line", 11)]) (g := (gTup K 2 (gCons (gName 10) (gCons (gName 11) gNil)))) (tt := (tAnd (tTest (tOp rNe (tVar 10) (tVar 2))) (tTest (tOp rNe (tVar 10) (tVar 3))))) (te := (tVar 11)) rfl nd rfl rfl (sw_true rfl rfl rfl (by decide +kernel)) (pi_enum (by rfl) T.enumerate (pa_cons (pv 0) pa_nil)) (blkOk_by (N := nAC) (sc := defScope sAC) (by decide +kernel)) (fun _ _ _ _ _ => pg_tup rfl (pgs_cons (pg_name (i := 10) nd rfl (Or.inl rfl)) (pgs_cons (pg_name (i := 11) nd rfl (Or.inl rfl)) pgs_nil))) (fun _ _ _ _ _ => pts_one (PW.pt (pw_and (pt_cmpR op_ne (pv 10) (pv 2) (nomark _)) (pw_and1 (pt_cmpR op_ne (pv 10) (pv 3) (nomark _)))))) (fun _ _ _ _ _ => by exact (pv 11)))
      (pss_cons (ps_asg (pe_ix ix_list (pv 0) (pv 2) (fun _ _ => rfl)) (pg_tup rfl (pgs_cons (pg_name (i := 6) nd rfl (Or.inl rfl)) (pgs_cons (pg_name (i := 7) nd rfl (Or.inl rfl)) pgs_nil))))
      (pss_cons (ps_asg (pe_ix ix_list (pv 0) (pv 3) (fun _ _ => rfl)) (pg_tup rfl (pgs_cons (pg_name (i := 8) nd rfl (Or.inl rfl)) (pgs_cons (pg_name (i := 9) nd rfl (Or.inl rfl)) pgs_nil))))
      (pss_cons (ps_if (pt_cmpR op_eq (pv 2) (pv 3) (nomark _)) (pss_one (ps_ret (pe_op op_catS (pv 5) (pe_lst (pa_cons (pe_tup (pa_cons (pv 6) (pa_cons (pv 4) pa_nil))) (pa_cons (pe_tup (pa_cons (pe_op op_add (pv 4) pe_int) (pa_cons (pe_op op_add (pv 4) pe_int) pa_nil))) (pa_cons (pe_tup (pa_cons (pv 7) (pa_cons (pe_op op_add (pv 4) pe_int) pa_nil))) pa_nil))))))) pss_nil)
      (pss_one (ps_ret (pe_op op_catS (pv 5) (pe_lst (pa_cons (pe_tup (pa_cons (pv 6) (pa_cons (pv 4) pa_nil))) (pa_cons (pe_tup (pa_cons (pv 7) (pa_cons (pe_op op_add (pv 4) pe_int) pa_nil))) (pa_cons (pe_tup (pa_cons (pv 8) (pa_cons (pe_op op_add (pv 4) pe_int) pa_nil))) (pa_cons (pe_tup (pa_cons (pv 9) (pa_cons (pe_op op_add (pv 4) pe_int) pa_nil))) pa_nil)))))))))))), ?_⟩
    have hal := hP.len
    refine ⟨_, rfl, _, _, rfl, rfl, .inl ⟨by decide, by decide⟩, ?_⟩
    refine ⟨_, rfl, L, _, rfl, SqL.of hL, fun D hD => ?_⟩
    have sD := Same.new (o := .lst []) hD
    refine lc_it (walk_enum (K := K) (a := L) (xs := refs as)) (fun k H6 => H6 D = some (.lst (refs (keepIx (notIJ i j) 0 (as.take k)))) ∧ Same H H6) ⟨upd_same, sD⟩ (fun k H6 _ h => SqL.of (h.2 _ _ hL)) ?_ ?_
    · rintro q x H6 H7 hk ⟨hD6, s6⟩ ⟨T', x', y', rfl, hT, rfl, ex, ey⟩
      cases ex
      have hk' : q < as.length := by rw [List.length_map] at hk; exact hk
      have ey : (refs as)[q]? = some y' := ey
      rw [List.getElem?_map, List.getElem?_eq_getElem hk'] at ey
      cases ey
      have s7 := Same.new (o := .tup [V.int (q : Nat), V.ref as[q]]) hT
      have hsn : keepIx (notIJ i j) 0 (as.take (q + 1)) = keepIx (notIJ i j) 0 (as.take q) ++ (if notIJ i j q then [as[q]] else []) := by
        rw [List.take_succ, List.getElem?_eq_getElem hk', Option.toList_some, keepIx_snoc, List.length_take, Nat.zero_add, Nat.min_eq_left (Nat.le_of_lt hk')]
      have hD7 := s7 _ _ hD6
      have s17 := s6.trans s7
      have dn : ∀ z : Nat, decide (V.int (q : Nat) = V.int (z : Nat)) = decide (q = z) := fun z => decide_eq_decide.mpr ⟨fun e => by
        have := V.int.inj e
        omega, fun e => by rw [e]⟩
      refine ⟨T', _, rfl, SqT.of upd_same, rfl, _, _, rfl, _, _, rfl, rfl, rfl, _, rfl, _, rfl, rfl, _, rfl, ?_⟩
      rw [dn]
      have yesk : notIJ i j q = true → ∃ acc, (upd H6 T' (.tup [V.int (q : Nat), V.ref as[q]])) D = some (.lst acc) ∧ acc.length < sizeLine ∧ (upd (upd H6 T' (.tup [V.int (q : Nat), V.ref as[q]])) D (.lst (acc ++ [V.ref as[q]]))) D = some (.lst (refs (keepIx (notIJ i j) 0 (as.take (q + 1))))) ∧ Same H (upd (upd H6 T' (.tup [V.int (q : Nat), V.ref as[q]])) D (.lst (acc ++ [V.ref as[q]]))) := fun hb => by
        refine ⟨_, hD7, small1000 ?_, ?_, fun b o e => ?_⟩
        · rw [List.length_map]
          have := keepIx_length_le (notIJ i j) 0 (as.take q)
          rw [List.length_take] at this
          omega
        · rw [upd_same, hsn, if_pos hb, refs_app]
          rfl
        · rw [upd_ne (ne_of_none e hD)]
          exact s17 _ _ e
      have nok : ¬ notIJ i j q = true → (upd H6 T' (.tup [V.int (q : Nat), V.ref as[q]])) D = some (.lst (refs (keepIx (notIJ i j) 0 (as.take (q + 1))))) ∧ Same H (upd H6 T' (.tup [V.int (q : Nat), V.ref as[q]])) := fun hb => by
        refine ⟨?_, s17⟩
        rw [hsn, if_neg hb, List.append_nil]
        exact hD7
      unfold notIJ at yesk nok
      cases h1 : decide (q = i) with
      | true =>
        rw [h1] at nok
        exact iteF (iteF (nok (by simp)))
      | false =>
        refine iteT ⟨_, rfl, _, rfl, rfl, _, rfl, ?_⟩
        rw [dn]
        cases h2 : decide (q = j) with
        | true =>
          rw [h1, h2] at nok
          exact iteF (nok (by simp))
        | false =>
          rw [h1, h2] at yesk
          exact iteT ⟨_, rfl, yesk (by simp)⟩
    · rintro H6 ⟨hD6, s6⟩
      have e6 : as.take (refs as).length = as := by rw [List.length_map, List.take_length]
      rw [e6] at hD6
      have hL6 := s6 _ _ hL
      have hP6 := hP.mono (sameT s6)
      have lk := keepIx_length_le (notIJ i j) 0 as
      obtain ⟨a1, ha1, pa1⟩ := hP6.get ha
      obtain ⟨b1, hb1, pb1⟩ := hP6.get hb
      have hK6 := hP6.keep (notIJ i j) 0
      refine ⟨_, rfl, _, rfl, L, _, _, V.ref a1, rfl, rfl, SqL.of hL6, ref_at ha1, a1, _, rfl, SqT.of pa1, rfl, _, _, rfl, _, _, rfl, rfl, ?_⟩
      refine ⟨_, rfl, _, rfl, L, _, _, V.ref b1, rfl, rfl, SqL.of hL6, ref_at hb1, b1, _, rfl, SqT.of pb1, rfl, _, _, rfl, _, _, rfl, rfl, ?_⟩
      refine ⟨_, rfl, _, rfl, rfl, _, rfl, ?_⟩
      have lK : (refs (keepIx (notIJ i j) 0 as)).length ≤ 200 := by
        rw [List.length_map]
        omega
      by_cases hij : i = j
      · rw [show decide (V.int (i : Nat) = V.int (j : Nat)) = true from decide_eq_true (by rw [hij])]
        refine iteT ⟨_, rfl, _, rfl, _, rfl, two_le, fun t1 ht1 => ?_⟩
        have u1 := Same.new (o := .tup [V.int (a.1 : Nat), V.int (4 * ((n : Nat) : Int))]) ht1
        refine ⟨_, rfl, _, _, rfl, rfl, _, rfl, _, _, rfl, rfl, two_le, fun t2 ht2 => ?_⟩
        have u2 := Same.new (o := .tup [V.int (4 * ((n : Nat) : Int) + 1), V.int (4 * ((n : Nat) : Int) + 2)]) ht2
        refine ⟨_, rfl, _, rfl, _, _, rfl, rfl, two_le, fun t3 ht3 => ?_⟩
        have u3 := Same.new (o := .tup [V.int (a.2 : Nat), V.int (4 * ((n : Nat) : Int) + 3)]) ht3
        refine ⟨(by show 3 ≤ sizeLine; decide), fun l9 hl9 => ?_⟩
        have u9 := Same.new (o := .lst [V.ref t1, V.ref t2, V.ref t3]) hl9
        have uA := u1.trans (u2.trans (u3.trans u9))
        refine ⟨D, l9, _, _, rfl, rfl, SqL.of (uA _ _ hD6), upd_same, Nat.le_of_lt (small1000 (by show _ + 3 ≤ 1000; omega)), fun lA hlA => ?_⟩
        have uB := Same.new (o := .lst (refs (keepIx (notIJ i j) 0 as) ++ [V.ref t1, V.ref t2, V.ref t3])) hlA
        refine k _ lA (keepIx (notIJ i j) 0 as ++ [t1, t2, t3]) (s6.trans (uA.trans uB)) ((s6.trans uA).free hlA) (by rw [upd_same, refs_app]; rfl) ?_
        unfold putOn fresh
        rw [if_pos hij]
        exact (hK6.mono (sameT (uA.trans uB))).app (.cons (PAt.of (uB _ _ (u9 _ _ (u3 _ _ (u2 _ _ upd_same)))) rfl (by omega)) (.cons (PAt.of (uB _ _ (u9 _ _ (u3 _ _ upd_same))) (by omega) (by omega)) (.cons (PAt.of (uB _ _ (u9 _ _ upd_same)) rfl (by omega)) .nil)))
      · rw [show decide (V.int (i : Nat) = V.int (j : Nat)) = false from decide_eq_false (fun z => hij (by
          have z := V.int.inj z
          omega))]
        refine iteF ⟨_, rfl, _, rfl, _, rfl, two_le, fun t1 ht1 => ?_⟩
        have u1 := Same.new (o := .tup [V.int (a.1 : Nat), V.int (4 * ((n : Nat) : Int))]) ht1
        refine ⟨_, rfl, _, rfl, _, _, rfl, rfl, two_le, fun t2 ht2 => ?_⟩
        have u2 := Same.new (o := .tup [V.int (a.2 : Nat), V.int (4 * ((n : Nat) : Int) + 2)]) ht2
        refine ⟨_, rfl, _, rfl, _, _, rfl, rfl, two_le, fun t3 ht3 => ?_⟩
        have u3 := Same.new (o := .tup [V.int (b.1 : Nat), V.int (4 * ((n : Nat) : Int) + 1)]) ht3
        refine ⟨_, rfl, _, rfl, _, _, rfl, rfl, two_le, fun t4 ht4 => ?_⟩
        have u4 := Same.new (o := .tup [V.int (b.2 : Nat), V.int (4 * ((n : Nat) : Int) + 3)]) ht4
        refine ⟨(by show 4 ≤ sizeLine; decide), fun l9 hl9 => ?_⟩
        have u9 := Same.new (o := .lst [V.ref t1, V.ref t2, V.ref t3, V.ref t4]) hl9
        have uA := u1.trans (u2.trans (u3.trans (u4.trans u9)))
        refine ⟨D, l9, _, _, rfl, rfl, SqL.of (uA _ _ hD6), upd_same, Nat.le_of_lt (small1000 (by show _ + 4 ≤ 1000; omega)), fun lA hlA => ?_⟩
        have uB := Same.new (o := .lst (refs (keepIx (notIJ i j) 0 as) ++ [V.ref t1, V.ref t2, V.ref t3, V.ref t4])) hlA
        refine k _ lA (keepIx (notIJ i j) 0 as ++ [t1, t2, t3, t4]) (s6.trans (uA.trans uB)) ((s6.trans uA).free hlA) (by rw [upd_same, refs_app]; rfl) ?_
        unfold putOn fresh
        rw [if_neg hij]
        exact (hK6.mono (sameT (uA.trans uB))).app (.cons (PAt.of (uB _ _ (u9 _ _ (u4 _ _ (u3 _ _ (u2 _ _ upd_same))))) rfl (by omega)) (.cons (PAt.of (uB _ _ (u9 _ _ (u4 _ _ (u3 _ _ upd_same)))) rfl (by omega)) (.cons (PAt.of (uB _ _ (u9 _ _ (u4 _ _ upd_same))) rfl (by omega)) (.cons (PAt.of (uB _ _ (u9 _ _ upd_same)) rfl (by omega)) .nil))))
end
end One
end P_S4

section P_S5
set_option linter.all false
set_option maxRecDepth 100000
set_option maxHeartbeats 8000000
namespace One
open PySem PySem.Spec PyProof.Rows L2
theorem blocks_at : ∀ {l : List (Nat × List Nat)}, (∀ b ∈ l, b.2.length = 4) → ∀ {i r c : Nat} {ps : List Nat}, l[i]? = some (c, ps) → r < 4 → (blocks l).getD (4 * i + r) 0 = 4 * c + ps.getD r 0
  | [], _, i, r, c, ps, h, _ => by simp at h
  | b :: l, hb, 0, r, c, ps, h, hr => by
    cases Option.some.inj h
    have h4 : ps.length = 4 := hb (c, ps) (List.mem_cons_self ..)
    show (ps.map (fun p => 4 * c + p) ++ blocks l).getD (4 * 0 + r) 0 = _
    rw [Nat.mul_zero, Nat.zero_add, List.getD_eq_getElem?_getD, List.getElem?_append_left (by rw [List.length_map]; omega), List.getElem?_map, List.getElem?_eq_getElem (by omega), List.getD_eq_getElem?_getD, List.getElem?_eq_getElem (by omega)]
    rfl
  | b :: l, hb, i + 1, r, c, ps, h, hr => by
    have h4 : b.2.length = 4 := hb b (List.mem_cons_self ..)
    have ih := blocks_at (l := l) (fun x m => hb x (List.mem_cons_of_mem _ m)) (i := i) (r := r) (c := c) (ps := ps) (by simpa using h) hr
    show (b.2.map (fun p => 4 * b.1 + p) ++ blocks l).getD (4 * (i + 1) + r) 0 = _
    rw [List.getD_eq_getElem?_getD, List.getElem?_append_right (by rw [List.length_map]; omega), List.length_map, h4, show 4 * (i + 1) + r - 4 = 4 * i + r by omega, ← List.getD_eq_getElem?_getD]
    exact ih
/-- lists of numbers, none of them the draws' -/
inductive NLs (p l : Addr) (H : Hp) : List Addr → List (List Nat) → Prop
  | nil : NLs p l H [] []
  | cons {a q as qs} : H a = some (.lst (nats q)) → a ≠ p → a ≠ l → NLs p l H as qs → NLs p l H (a :: as) (q :: qs)
theorem NLs.len {p l : Addr} {H : Hp} {as : List Addr} {qs : List (List Nat)} (h : NLs p l H as qs) : as.length = qs.length := by
  induction h with
  | nil => rfl
  | cons _ _ _ _ ih => simp [ih]
theorem NLs.ext {p l : Addr} {H H' : Hp} {as : List Addr} {qs : List (List Nat)} (h : NLs p l H as qs) (e : ExtL p l H H') : NLs p l H' as qs := by
  induction h with
  | nil => exact .nil
  | cons h1 h2 h3 _ ih => exact .cons (e _ _ h2 h3 h1) h2 h3 ih
theorem NLs.keepN {p l D : Addr} {H : Hp} {o : HO} {as : List Addr} {qs : List (List Nat)} (h : NLs p l H as qs) (hD : D ∉ as) : NLs p l (upd H D o) as qs := by
  induction h with
  | nil => exact .nil
  | cons h1 h2 h3 _ ih => exact .cons ((upd_ne fun z => hD (by rw [z]; exact List.mem_cons_self ..)).trans h1) h2 h3 (ih fun m => hD (List.mem_cons_of_mem _ m))
theorem NLs.app {p l : Addr} {H : Hp} {as bs : List Addr} {qs rs : List (List Nat)} (h : NLs p l H as qs) (k : NLs p l H bs rs) : NLs p l H (as ++ bs) (qs ++ rs) := by
  induction h with
  | nil => exact k
  | cons h1 h2 h3 _ ih => exact .cons h1 h2 h3 ih
theorem NLs.get {p l : Addr} {H : Hp} {as : List Addr} {qs : List (List Nat)} (h : NLs p l H as qs) : ∀ {i : Nat} {q : List Nat}, qs[i]? = some q → ∃ a, as[i]? = some a ∧ H a = some (.lst (nats q)) := by
  induction h with
  | nil => intro i q e; simp at e
  | cons h1 _ _ _ ih =>
    intro i q e
    cases i with
    | zero =>
      cases Option.some.inj e
      exact ⟨_, rfl, h1⟩
    | succ i => exact ih (i := i) (by simpa using e)
theorem ends_of : ∀ {ps : List (Nat × Nat)} {q : Nat × Nat}, q ∈ ps → q.1 ∈ ends ps ∧ q.2 ∈ ends ps
  | [], q, h => absurd h (by simp)
  | r :: ps, q, h => by
    rcases List.mem_cons.mp h with rfl | h
    · exact ⟨by simp [ends], by simp [ends]⟩
    · obtain ⟨a, b⟩ := ends_of h
      exact ⟨by simp [ends, a], by simp [ends, b]⟩
abbrev sYD : Stmt := top 62
abbrev nYD : List Str := ["state", "many", "lines", "number", "one", "other", "calls", "places", "found", "line", "both", "end"]
theorem scYD : FnScope nYD ["state", "many"] (defScope sYD) := ⟨rfl, rfl, rfl, by decide +kernel, rfl, by decide +kernel, by decide +kernel⟩
def spYD : Sp := fun vs H Q _ => ∃ (p a l : Addr) (n many : Nat), vs = [.ref p, .int (many : Nat)] ∧ ML H p a l n ∧ n ≤ 900000 ∧ 0 < many ∧ many ≤ 40 ∧
  ∀ (H' : Hp) (t : Addr) (ps : List (Nat × Nat)), ML H' p a l (n + 7 * many) → ExtL p l H H' → YAt H' t many ps → Q (.ref t) H'
theorem min_low {x y : Nat} {m : Int} (hm : m ∈ [((x : Nat) : Int), ((y : Nat) : Int)]) (hle : ∀ z ∈ [((x : Nat) : Int), ((y : Nat) : Int)], m ≤ z) : m = (((low x y).1 : Nat) : Int) := by
  have h1 := hle ((x : Nat) : Int) (by simp)
  have h2 := hle ((y : Nat) : Int) (by simp)
  simp only [List.mem_cons, List.not_mem_nil, or_false] at hm
  unfold low
  split <;> (simp only; omega)
theorem max_low {x y : Nat} {m : Int} (hm : m ∈ [((x : Nat) : Int), ((y : Nat) : Int)]) (hle : ∀ z ∈ [((x : Nat) : Int), ((y : Nat) : Int)], z ≤ m) : m = (((low x y).2 : Nat) : Int) := by
  have h1 := hle ((x : Nat) : Int) (by simp)
  have h2 := hle ((y : Nat) : Int) (by simp)
  simp only [List.mem_cons, List.not_mem_nil, or_false] at hm
  unfold low
  split <;> (simp only; omega)
section
variable {P : Program} {w : World} {K : PySem.W.Frag} {mg : Str → Option Value} {base : Heap}
theorem ok_yard {f fD fO fA : Addr} {fd fdD fdO fdA : FuncData} (F : Fun K "_law_yard" "_law_yard" sYD f fd) (T : TB mg) (hmin : mg "min" = none) (hmax : mg "max" = none) (D : Cal K mg "_law_draw" fD fdD ["state", "many"]) (GD : FnOk P w K mg base CX0 2 fD fdD ["state", "many"] spDR)
    (O : Cal K mg "_law_order" fO fdO ["state", "size"]) (GO : FnOk P w K mg base CX0 3 fO fdO ["state", "size"] spOR) (Ac : Cal K mg "_law_across" fA fdA ["lines", "many", "one", "other"]) (GA : FnOk P w K mg base CX0 1 fA fdA ["lines", "many", "one", "other"] spAC) : FnOk P w K mg base CX0 4 f fd ["state", "many"] spYD := by
  refine F.ok scYD (fun vs H Q E h => ?_) (fun cdv A outer s H vs Q E hr h => ?_)
  · obtain ⟨p, a, l, n, many, rfl, _⟩ := h
    rfl
  · obtain ⟨p, a, l, n, many, rfl, M, hn, h0, h40, k⟩ := h
    have nd := scYD.nd
    have hr3 : Room 3 _ := hr
    have hr2 : Room 2 _ := hr.mono (by decide)
    have hr1 : Room 1 _ := hr.mono (by decide)
    refine ⟨_, pss_cons (ps_set (i := 2) nd rfl (Or.inl rfl) (pe_lst (pa_cons (pe_tup (pa_cons pe_int (pa_cons pe_int pa_nil))) (pa_cons (pe_tup (pa_cons pe_int (pa_cons pe_int pa_nil))) pa_nil))))
      (pss_cons (ps_for PassesOwn.never rfl (pi_range2 (by rfl) T.range (pa_cons pe_int (pa_cons (pv 1) pa_nil))) (pg_name (i := 3) nd rfl (Or.inl rfl))
        (pss_cons (ps_par (i := 4) (j := 5) (by rfl) nd rfl rfl (by decide) rfl rfl (pa_cons (pe_call GD hr2 rfl D.g D.kp D.b .nil pass0 (pa_cons (pv 0) (pa_cons (pe_op op_mul pe_int (pv 3)) pa_nil))) (pa_cons (pe_call GD hr2 rfl D.g D.kp D.b .nil pass0 (pa_cons (pv 0) (pa_cons (pe_op op_mul pe_int (pv 3)) pa_nil))) pa_nil)) (by rfl))
      (pss_one (ps_set (i := 2) nd rfl (Or.inl rfl) (pe_call GA hr1 rfl Ac.g Ac.kp Ac.b .nil pass0 (pa_cons (pv 2) (pa_cons (pv 3) (pa_cons (pv 4) (pa_cons (pv 5) pa_nil)))))))))
      (pss_cons (ps_asg (pe_tup (pa_cons (pe_call GO hr3 rfl O.g O.kp O.b .nil pass0 (pa_cons (pv 0) (pa_cons (pv 1) pa_nil))) (pa_cons (pe_lc (own := [("number", 3)]) (g := (gName 3)) (tt := tYes) (te := (tCall spOR [] E0 (tCons (tVar 0) (tCons (tC (.int 4)) tNil)))) rfl nd (pi_range1 (by rfl) T.range (pa_cons (pv 1) pa_nil)) (blkOk_by (N := nYD) (sc := defScope sYD) (by decide +kernel)) (fun _ _ _ _ _ => pg_name (i := 3) nd rfl (Or.inl rfl)) (fun _ _ _ _ _ => pts_nil) (fun _ _ _ _ _ => by exact (pe_call GO hr3 rfl O.g O.kp O.b .nil pass0 (pa_cons (pv 0) (pa_cons pe_int pa_nil))))) pa_nil))) (pg_tup rfl (pgs_cons (pg_name (i := 6) nd rfl (Or.inr rfl)) (pgs_cons (pg_name (i := 7) nd rfl (Or.inr rfl)) pgs_nil))))
      (pss_cons (ps_set (i := 8) nd rfl (Or.inl rfl) (pe_lst pa_nil))
      (pss_cons (ps_for PassesOwn.never rfl (pi_list (pv 2)) (pg_name (i := 9) nd rfl (Or.inl rfl))
        (pss_cons (ps_setLc (i := 10) (own := [("end", 11)]) (g := (gName 11)) (tt := tYes) (te := (tOp (rI0 fun i j => .int (i + j)) (tOp (rI CMul fun i j => .int (i * j)) (tC (.int 4)) (tOp (rIxL K) (tVar 6) (tOp (rI CDiv fun i j => .int (i / j)) (tVar 11) (tC (.int 4))))) (tOp (rIxL K) (tOp (rIxL K) (tVar 7) (tOp (rI CDiv fun i j => .int (i / j)) (tVar 11) (tC (.int 4)))) (tOp (rI (fun _ j => 0 < j) fun i j => .int (i % j)) (tVar 11) (tC (.int 4)))))) rfl nd rfl rfl (sw_true rfl rfl rfl (by decide +kernel)) (pi_tup (pv 9)) (blkOk_by (N := nYD) (sc := defScope sYD) (by decide +kernel)) (fun _ _ _ _ _ => pg_name (i := 11) nd rfl (Or.inl rfl)) (fun _ _ _ _ _ => pts_nil) (fun _ _ _ _ _ => by exact (pe_op op_add (pe_op op_mul pe_int (pe_ix ix_list (pv 6) (pe_op op_fdiv (pv 11) pe_int) (fun _ _ => rfl))) (pe_ix ix_list (pe_ix ix_list (pv 7) (pe_op op_fdiv (pv 11) pe_int) (fun _ _ => rfl)) (pe_op op_mod (pv 11) pe_int) (fun _ _ => rfl)))))
      (pss_one (ps_expr (pe_bm PySem.F.plainAttrs_list PySem.F.slot_list_append PySem.F.type_list_append mt_append (pv 8) (pa_cons (pe_tup (pa_cons (pe_callB (cr_min rfl) (by rfl) hmin boot_min (pa_cons (pv 10) pa_nil)) (pa_cons (pe_callB (cr_max rfl) (by rfl) hmax boot_max (pa_cons (pv 10) pa_nil)) pa_nil))) pa_nil))))))
      (pss_one (ps_ret (pe_tupleOf (by rfl) T.tuple (pe_callB cr_sortedPO (by rfl) T.sorted boot_sorted (pa_cons (pv 8) pa_nil))))))))), ?_⟩
    refine ⟨two_le, fun t1 ht1 => ⟨two_le, fun t2 ht2 => ⟨two_le, fun L0 hL0 => ?_⟩⟩⟩
    obtain ⟨H1, eH1, s1, a1, b1, c1⟩ := made_two ht1 ht2 hL0
    have fL0 : H L0 = none := ((Same.new ht1).trans (Same.new ht2)).free hL0
    rw [← eH1]
    obtain ⟨nLp, nLl⟩ := M.apart fL0
    refine ⟨_, rfl, 1, _, rfl, ⟨by decide, by decide, by omega, by omega⟩, ?_⟩
    rw [show (((many : Nat) : Int) - 1).toNat = many - 1 by omega]
    refine for_range (lo := 1) (n := many - 1) (fun i σ H' => ∃ (v3 v4 v5 : Option V) (L : Addr) (as : List Addr) (ps : List (Nat × Nat)), σ = [some (.ref p), some (.int (many : Nat)), some (.ref L), v3, v4, v5, none, none, none, none, none, none] ∧ H' L = some (.lst (refs as)) ∧ L ≠ p ∧ L ≠ l ∧ PL H' as ps ∧ Grown (1 + i) ps ∧ ML H' p a l (n + 2 * i) ∧ ExtL p l H H')
      ⟨none, none, none, L0, [t1, t2], [(0, 1), (2, 3)], rfl, a1, nLp, nLl, .cons b1 (.cons c1 .nil), grown_one (by decide), M.keep s1, ExtL.same s1⟩ ?_ ?_
    · rintro i σ H2 hi ⟨v3, v4, v5, L, as, ps, rfl, hL, nLp, nLl, hP, G, M2, e2⟩
      rw [show (1 : Int) + ((i : Nat) : Int) = ((1 + i : Nat) : Int) by omega]
      have lps : ps.length = 2 * (1 + i) := G.lines.len
      refine ⟨_, rfl, _, rfl, _, _, rfl, rfl, .inl ⟨by decide, by decide⟩, p, a, l, _, _, rfl, M2, by omega, by omega, by omega, fun H3 q1 M3 e3 q10 q11 => ?_⟩
      refine ⟨_, rfl, _, rfl, _, _, rfl, rfl, .inl ⟨by decide, by decide⟩, p, a, l, _, _, rfl, M3, by omega, by omega, by omega, fun H4 q2 M4 e4 q20 q21 => ?_⟩
      obtain ⟨i1, rfl⟩ : ∃ j : Nat, q1 = (j : Nat) := ⟨q1.toNat, by omega⟩
      obtain ⟨i2, rfl⟩ : ∃ j : Nat, q2 = (j : Nat) := ⟨q2.toNat, by omega⟩
      have e24 := e3.trans e4
      obtain ⟨A1, hA⟩ : ∃ A1, ps[i1]? = some A1 := ⟨_, List.getElem?_eq_getElem (by omega)⟩
      obtain ⟨B1, hB⟩ : ∃ B1, ps[i2]? = some B1 := ⟨_, List.getElem?_eq_getElem (by omega)⟩
      have hP4 := hP.mono (tupL M2 e24)
      refine ⟨_, _, rfl, _, rfl, _, rfl, _, rfl, _, rfl, L, as, ps, 1 + i, i1, i2, A1, B1, rfl, e24 _ _ nLp nLl hL, hP4, by omega, hA, hB, fun H5 L5 bs s5 nL5 hL5 hP5 => ?_⟩
      obtain ⟨m1, m2⟩ := M4.apart nL5
      exact ⟨_, _, _, L5, bs, _, rfl, hL5, m1, m2, hP5, by rw [show 1 + (i + 1) = (1 + i) + 1 by omega]; exact G.put hA hB, (M4.keep s5).lt (by omega) (by omega), (e2.trans e24).trans (ExtL.same s5)⟩
    · rintro σ H2 ⟨v3, v4, v5, L, as, ps, rfl, hL, nLp, nLl, hP, G, M2, e2⟩
      rw [show 1 + (many - 1) = many by omega] at G
      have M2 := M2.lt (show n + 2 * (many - 1) ≤ n + 2 * many by omega) (by omega)
      refine ⟨_, rfl, _, rfl, p, a, l, _, many, rfl, M2, by omega, by omega, fun H3 cA cs M3 e3 hcn hc hcp => ?_⟩
      obtain ⟨ncp, ncl⟩ := M2.apart hcn
      refine ⟨_, rfl, _, rfl, by omega, by omega, fun Pl hPl => ?_⟩
      rw [show ((many : Nat) : Int).toNat = many by omega]
      have sP := Same.new (o := .lst []) hPl
      obtain ⟨nPp, nPl⟩ := M3.apart hPl
      refine lc_it (walk_range (lo := 0) (n := many)) (fun q H6 => ∃ (bs : List Addr) (qs : List (List Nat)), H6 Pl = some (.lst (refs bs)) ∧ Pl ∉ bs ∧ NLs p l H6 bs qs ∧ qs.length = q ∧ (∀ x ∈ qs, x.Perm [0, 1, 2, 3]) ∧ ML H6 p a l (n + 3 * many + 4 * q) ∧ ExtL p l H3 H6)
        ⟨[], [], upd_same, by simp, .nil, rfl, fun x h => absurd h (by simp), (M3.keep sP).lt (by omega) (by omega), ExtL.same sP⟩ (fun _ _ _ _ => trivial) ?_ ?_
      · rintro q v H6 H7 hq ⟨bs, qs, h6, nin, hLL, lq, hqp, M6, e6⟩ ⟨rfl, rfl⟩
        refine ⟨rfl, yes ⟨_, rfl, p, a, l, _, 4, rfl, M6, by decide, by omega, fun H8 b q8 M8 e8 hbn hb hbp => ?_⟩⟩
        obtain ⟨nbp, nbl⟩ := M6.apart hbn
        have h8 := e8 _ _ nPp nPl h6
        have nbP : b ≠ Pl := fun z => by
          rw [z, h6] at hbn
          cases hbn
        refine ⟨_, h8, small1000 (by rw [List.length_map, hLL.len]; omega), bs ++ [b], qs ++ [q8], ?_, ?_, ?_, ?_, ?_, ?_, ?_⟩
        · rw [upd_same, refs_app]
          rfl
        · intro m
          rcases List.mem_append.mp m with m | m
          · exact nin m
          · exact nbP (List.mem_singleton.mp m).symm
        · exact ((hLL.ext e8).keepN nin).app (.cons ((upd_ne nbP).trans hb) nbp nbl .nil)
        · rw [List.length_append, lq]
          rfl
        · intro x hx
          rcases List.mem_append.mp hx with hx | hx
          · exact hqp x hx
          · rw [List.mem_singleton.mp hx]
            exact hbp
        · exact (ML.wrN M3 hPl M8).lt (by omega) (by omega)
        · exact (e6.trans e8).wr hPl
      · rintro H6 ⟨bs, qs, h6, nin, hLL, lq, hqp, M6, e6⟩
        refine ⟨two_le, fun u hu => ?_⟩
        have su := Same.new (o := .tup [V.ref cA, V.ref Pl]) hu
        have e26 := e3.trans e6
        have hL6 := su _ _ (e26 _ _ nLp nLl hL)
        have hP6 := (hP.mono (tupL M2 e26)).mono (sameT su)
        have hc6 := su _ _ (e6 _ _ ncp ncl hc)
        have hPl6 := su _ _ h6
        have hLL6 := hLL.ext (ExtL.same su)
        have M6' := M6.keep su
        have e06 := (e2.trans e26).trans (ExtL.same su)
        refine ⟨u, _, rfl, SqT.of upd_same, rfl, _, _, rfl, _, _, rfl, rfl, ?_⟩
        generalize upd H6 u (.tup [V.ref cA, V.ref Pl]) = H7 at hL6 hP6 hc6 hPl6 hLL6 M6' e06
        -- the names of the ends
        have lcs : cs.length = many := by rw [hcp.length_eq, List.length_range]
        obtain ⟨bl, ebl⟩ : ∃ bl, bl = cs.zip qs := ⟨_, rfl⟩
        have lbl : bl.length = many := by rw [ebl, List.length_zip]; omega
        have bl2 : ∀ b ∈ bl, b.2.Perm [0, 1, 2, 3] := fun b hb => by
          rw [ebl] at hb
          exact hqp _ (List.of_mem_zip hb).2
        have bl1 : bl.map Prod.fst = cs := by rw [ebl, List.map_fst_zip (by omega)]
        have cal : Called many (blocks bl) := called_of_blocks (by rw [bl1]; exact hcp) bl2
        have name : ∀ e, e < 4 * many → ∃ (c0 : Nat) (q0 : List Nat) (r0 : Nat), cs[e / 4]? = some c0 ∧ qs[e / 4]? = some q0 ∧ q0[e % 4]? = some r0 ∧ (blocks bl).getD e 0 = 4 * c0 + r0 := fun e he => by
          have h1 : e / 4 < cs.length := by omega
          have h2 : e / 4 < qs.length := by omega
          have hz : bl[e / 4]? = some (cs[e / 4], qs[e / 4]) := by
            rw [ebl, List.getElem?_eq_getElem (by rw [List.length_zip]; omega), List.getElem_zip]
          have l4 : ∀ b ∈ bl, b.2.length = 4 := fun b hb => (bl2 b hb).length_eq
          have := blocks_at l4 hz (Nat.mod_lt e (by decide : 0 < 4))
          rw [Nat.div_add_mod] at this
          have q4 : (qs[e / 4]).length = 4 := (hqp _ (List.getElem_mem h2)).length_eq
          have hr4 : e % 4 < (qs[e / 4]).length := by omega
          refine ⟨cs[e / 4], qs[e / 4], (qs[e / 4])[e % 4], List.getElem?_eq_getElem h1, List.getElem?_eq_getElem h2, List.getElem?_eq_getElem hr4, ?_⟩
          rw [this, List.getD_eq_getElem?_getD, List.getElem?_eq_getElem hr4]
          rfl
        refine ⟨Nat.zero_le _, fun Fd hFd => ?_⟩
        have sF := Same.new (o := .lst []) hFd
        refine ⟨_, rfl, L, rfl, ⟨_, SqL.of (sF _ _ hL6)⟩, ?_⟩
        have lps : ps.length = 2 * many := G.lines.len
        refine for_it (walk_list (K := K) (a := L) (xs := refs as)) (fun q σ H' => ∃ (v9 v10 : Option V) (ds : List Addr), σ = [some (.ref p), some (.int (many : Nat)), some (.ref L), v3, v4, v5, some (.ref cA), some (.ref Pl), some (.ref Fd), v9, v10, none] ∧ H' Fd = some (.lst (refs ds)) ∧ PL H' ds ((ps.take q).map (callL (blocks bl))) ∧ Same H7 H')
          ⟨none, none, [], rfl, upd_same, .nil, sF⟩ (fun q σ H' _ ⟨_, _, _, _, _, _, s'⟩ => SqL.of (s' _ _ hL6)) ?_ ?_
        · rintro q v σ H8 H9 hq ⟨v9, v10, ds, rfl, hF8, hD8, s8⟩ ⟨rfl, hv⟩
          have hv : (refs as)[q]? = some v := hv
          have e1 : (refs as).length = ps.length := by rw [List.length_map, hP.len]
          rw [e1] at hq
          obtain ⟨c, hcq⟩ : ∃ c, as[q]? = some c := ⟨_, List.getElem?_eq_getElem (by rw [hP.len]; exact hq)⟩
          rw [List.getElem?_map, hcq] at hv
          cases hv
          obtain ⟨pr, hpr, pc⟩ := hP6.got hcq
          have hmem := List.mem_of_getElem? hpr
          obtain ⟨lx, ly⟩ : pr.1 < 4 * many ∧ pr.2 < 4 * many := ⟨G.lines.lt _ (ends_of hmem).1, G.lines.lt _ (ends_of hmem).2⟩
          have pc9 := s8 _ _ pc
          refine ⟨_, rfl, c, rfl, ⟨_, SqT.of pc9⟩, fun D0 hD0 => ?_⟩
          have sD := Same.new (o := .lst []) hD0
          have nm : ∀ e, e < 4 * many → ∀ H6, Same H9 H6 → ∃ (c0 : Nat) (q0 : List Nat) (r0 : Nat) (b0 : Addr), H6 cA = some (.lst (nats cs)) ∧ cs[e / 4]? = some c0 ∧ H6 Pl = some (.lst (refs bs)) ∧ bs[e / 4]? = some b0 ∧ H6 b0 = some (.lst (nats q0)) ∧ q0[e % 4]? = some r0 ∧ (blocks bl).getD e 0 = 4 * c0 + r0 := fun e he H6 s6 => by
            obtain ⟨c0, q0, r0, g1, g2, g3, g4⟩ := name e he
            obtain ⟨b0, g5, g6⟩ := hLL6.get g2
            exact ⟨c0, q0, r0, b0, s6 _ _ (s8 _ _ hc6), g1, s6 _ _ (s8 _ _ hPl6), g5, s6 _ _ (s8 _ _ g6), g3, g4⟩
          refine lc_it (walk_tup (K := K) (a := c) (xs := [V.int (pr.1 : Nat), V.int (pr.2 : Nat)])) (fun j H6 => H6 D0 = some (.lst (nats (([pr.1, pr.2].take j).map fun e => (blocks bl).getD e 0))) ∧ Same H9 H6) ⟨upd_same, sD⟩ (fun j H6 _ h => SqT.of (h.2 _ _ pc9)) ?_ ?_
          · rintro j x H6 HX hj ⟨h6, s6⟩ ⟨rfl, hx⟩
            have hj : j < 2 := hj
            obtain ⟨e, he, ee, ej⟩ : ∃ e : Nat, e < 4 * many ∧ x = V.int (e : Nat) ∧ [pr.1, pr.2][j]? = some e := by
              have hx : [V.int (pr.1 : Nat), V.int (pr.2 : Nat)][j]? = some x := hx
              have hc : j = 0 ∨ j = 1 := by omega
              rcases hc with rfl | rfl
              · cases hx
                exact ⟨pr.1, lx, rfl, rfl⟩
              · cases hx
                exact ⟨pr.2, ly, rfl, rfl⟩
            subst ee
            obtain ⟨c0, q0, r0, b0, g0, g1, g2, g3, g4, g5, g6⟩ := nm e he _ s6
            have d4 : ((e : Nat) : Int) / 4 = ((e / 4 : Nat) : Int) := by omega
            have m4 : ((e : Nat) : Int) % 4 = ((e % 4 : Nat) : Int) := by omega
            refine ⟨rfl, yes ⟨_, rfl, _, rfl, _, _, rfl, rfl, ⟨by decide, by decide⟩, cA, _, _, V.int (c0 : Nat), rfl, rfl, SqL.of g0, at_of (j := e / 4) d4 (nats_at g1), _, _, rfl, rfl, .inl ⟨by decide, by decide⟩, ?_⟩⟩
            refine ⟨_, rfl, _, rfl, _, _, rfl, rfl, ⟨by decide, by decide⟩, Pl, _, _, V.ref b0, rfl, rfl, SqL.of g2, at_of (j := e / 4) d4 (by rw [List.getElem?_map, g3]; rfl), _, rfl, _, _, rfl, rfl, (by show (0 : Int) < 4; decide), b0, _, _, V.int (r0 : Nat), rfl, rfl, SqL.of g4, at_of (j := e % 4) m4 (nats_at g5), _, _, rfl, rfl, _, h6, small1000 ?_, ?_, fun b o eo => ?_⟩
            · rw [List.length_map, List.length_map, List.length_take]
              show min j 2 ≤ 1000
              omega
            · rw [upd_same, List.take_succ, ej, Option.toList_some, List.map_append, nats_app]
              show some (HO.lst (_ ++ [V.int (4 * ((c0 : Nat) : Int) + ((r0 : Nat) : Int))])) = some (HO.lst (_ ++ [V.int (((blocks bl).getD e 0 : Nat) : Int)]))
              rw [g6, show ((4 * c0 + r0 : Nat) : Int) = 4 * ((c0 : Nat) : Int) + ((r0 : Nat) : Int) by omega]
            · rw [upd_ne (ne_of_none eo hD0)]
              exact s6 _ _ eo
          · rintro H6 ⟨h6, s6⟩
            have h6 : H6 D0 = some (.lst ([(((blocks bl).getD pr.1 0 : Nat) : Int), (((blocks bl).getD pr.2 0 : Nat) : Int)].map V.int)) := h6
            have hF6 := s6 _ _ hF8
            refine ⟨_, rfl, .inl ⟨rfl, _, SqL.of hF6⟩, _, rfl, D0, _, rfl, SqL.of h6, Nat.succ_pos _, fun m1 hm1 hle1 => ⟨_, rfl, D0, _, rfl, SqL.of h6, Nat.succ_pos _, fun m2 hm2 hle2 => ⟨two_le, fun t hT => ?_⟩⟩⟩
            rw [min_low hm1 hle1, max_low hm2 hle2]
            have sT := Same.new (o := .tup [V.int (((low ((blocks bl).getD pr.1 0) ((blocks bl).getD pr.2 0)).1 : Nat) : Int), V.int (((low ((blocks bl).getD pr.1 0) ((blocks bl).getD pr.2 0)).2 : Nat) : Int)]) hT
            have hF7 := sT _ _ hF6
            have ldq : ds.length = q := by
              rw [hD8.len, List.length_map, List.length_take]
              omega
            have s69 := s6.trans sT
            have hD9 := hD8.mono (sameT s69)
            have hFd0 : H7 Fd = none := hFd
            refine ⟨Fd, _, _, rfl, rfl, hF7, small1000 (by rw [List.length_map]; omega), ?_⟩
            have hT7 : (upd H6 t (.tup [V.int (((low ((blocks bl).getD pr.1 0) ((blocks bl).getD pr.2 0)).1 : Nat) : Int), V.int (((low ((blocks bl).getD pr.1 0) ((blocks bl).getD pr.2 0)).2 : Nat) : Int)])) t = some (.tup [V.int (((low ((blocks bl).getD pr.1 0) ((blocks bl).getD pr.2 0)).1 : Nat) : Int), V.int (((low ((blocks bl).getD pr.1 0) ((blocks bl).getD pr.2 0)).2 : Nat) : Int)]) := upd_same
            have sB := s8.trans s69
            generalize upd H6 t (.tup [V.int (((low ((blocks bl).getD pr.1 0) ((blocks bl).getD pr.2 0)).1 : Nat) : Int), V.int (((low ((blocks bl).getD pr.1 0) ((blocks bl).getD pr.2 0)).2 : Nat) : Int)]) = HT at hF7 hD9 hT7 sB
            have k9 : ∀ b xs, HT b = some (.tup xs) → (upd HT Fd (.lst (refs ds ++ [V.ref t]))) b = some (.tup xs) := fun b xs h => (upd_ne (ne_of h hF7 (by intro z; cases z))).trans h
            refine ⟨_, _, ds ++ [t], rfl, by rw [upd_same, refs_app]; rfl, ?_, fun b o eo => ?_⟩
            · rw [List.take_succ, hpr, Option.toList_some, List.map_append]
              exact (hD9.mono k9).app (.cons (k9 _ _ hT7) .nil)
            · rw [upd_ne (ne_of_none eo hFd0)]
              exact sB _ _ eo
        · rintro σ H8 ⟨v9, v10, ds, rfl, hF8, hD8, s8⟩
          have e1 : (refs as).length = ps.length := by rw [List.length_map, hP.len]
          rw [e1, List.take_length] at hD8
          refine ⟨_, rfl, ?_⟩
          show rSortedPO K [V.ref Fd] H8 (fun x H1 => kTup K x H1 Q)
          refine rd_sorted (SqL.of hF8) hD8 fun gs ms l2 hC hperm hle hl2 => ?_
          have s9 := Same.new (o := .lst (refs gs)) hl2
          refine .inl ⟨l2, _, rfl, SqL.of upd_same, fun u2 hu2 => ?_⟩
          have s10 := Same.new (o := .tup (refs gs)) hu2
          have sA := s8.trans (s9.trans s10)
          exact k _ u2 ms ((M6'.keep sA).lt (by omega) (by omega)) (e06.trans (ExtL.same sA)) ⟨called_yard G cal hperm hle, gs, upd_same, hC.mono (sameT (s9.trans s10))⟩
end
end One
end P_S5

section P_S6
set_option linter.all false
set_option maxRecDepth 100000
set_option maxHeartbeats 8000000
namespace One
open PySem PySem.Spec PyProof.Rows L2
abbrev sSZ : Stmt := top 63
abbrev nSZ : List Str := ["state", "most", "some"]
theorem scSZ : FnScope nSZ ["state", "most"] (defScope sSZ) := ⟨rfl, rfl, rfl, by decide +kernel, rfl, by decide +kernel, by decide +kernel⟩
def spSZ : Sp := fun vs H Q _ => ∃ (p a l : Addr) (n most : Nat), vs = [.ref p, .int (most : Nat)] ∧ ML H p a l n ∧ n ≤ 900000 ∧ 3 ≤ most ∧ most ≤ 40 ∧
  ∀ (H' : Hp) (r : Nat), ML H' p a l (n + 4) → ExtL p l H H' → 0 < r → r ≤ most → Q (.int (r : Nat)) H'
section
variable {P : Program} {w : World} {K : PySem.W.Frag} {mg : Str → Option Value} {base : Heap}
theorem ok_size {f fD : Addr} {fd fdD : FuncData} (F : Fun K "_law_size" "_law_size" sSZ f fd) (hmin : mg "min" = none) (D : Cal K mg "_law_draw" fD fdD ["state", "many"]) (GD : FnOk P w K mg base CX0 2 fD fdD ["state", "many"] spDR) : FnOk P w K mg base CX0 3 f fd ["state", "most"] spSZ := by
  refine F.ok scSZ (fun vs H Q E h => ?_) (fun cdv A outer s H vs Q E hr h => ?_)
  · obtain ⟨p, a, l, n, most, rfl, _⟩ := h
    rfl
  · obtain ⟨p, a, l, n, most, rfl, M, hn, h3, h40, k⟩ := h
    have nd := scSZ.nd
    have hr2 : Room 2 _ := hr
    refine ⟨_, pss_cons (ps_set (i := 2) nd rfl (Or.inl rfl) (pe_lst (pa_cons (pe_op op_add pe_int (pe_call GD hr2 rfl D.g D.kp D.b .nil pass0 (pa_cons (pv 0) (pa_cons pe_int pa_nil)))) (pa_cons (pe_callB (call_min2 rfl) (by rfl) hmin boot_min (pa_cons (pv 1) (pa_cons (pe_op op_add pe_int (pe_call GD hr2 rfl D.g D.kp D.b .nil pass0 (pa_cons (pv 0) (pa_cons pe_int pa_nil)))) pa_nil))) (pa_cons (pe_op op_add pe_int (pe_call GD hr2 rfl D.g D.kp D.b .nil pass0 (pa_cons (pv 0) (pa_cons (pv 1) pa_nil)))) pa_nil)))))
      (pss_one (ps_ret (pe_ix ix_list (pv 2) (pe_call GD hr2 rfl D.g D.kp D.b .nil pass0 (pa_cons (pv 0) (pa_cons pe_int pa_nil))) (fun _ _ => rfl)))), ?_⟩
    refine ⟨_, rfl, p, a, l, n, 3, rfl, M, by omega, by decide, by decide, fun H1 q1 M1 e1 a0 a1 => ⟨_, _, rfl, rfl, ?_⟩⟩
    refine ⟨_, rfl, _, rfl, p, a, l, _, 7, rfl, M1, by omega, by decide, by decide, fun H2 q2 M2 e2 b0 b1 => ⟨_, _, rfl, rfl, _, _, rfl, ?_⟩⟩
    refine ⟨_, rfl, _, rfl, p, a, l, _, _, rfl, M2, by omega, by omega, by omega, fun H3 q3 M3 e3 c0 c1 => ⟨_, _, rfl, rfl, (by show 3 ≤ sizeLine; decide), fun L hL => ?_⟩⟩
    obtain ⟨nLp, nLl⟩ := M3.apart hL
    have sL := Same.new (o := .lst [V.int (1 + q1), V.int (if 2 + q2 < ((most : Nat) : Int) then 2 + q2 else ((most : Nat) : Int)), V.int (1 + q3)]) hL
    refine ⟨_, rfl, _, rfl, p, a, l, _, 3, rfl, M3.keep sL, by omega, by decide, by decide, fun H4 q4 M4 e4 d0 d1 => ?_⟩
    have hL4 := e4 _ _ nLp nLl (upd_same (H := H3) (a := L) (o := .lst [V.int (1 + q1), V.int (if 2 + q2 < ((most : Nat) : Int) then 2 + q2 else ((most : Nat) : Int)), V.int (1 + q3)]))
    have eA := e1.trans (e2.trans (e3.trans ((ExtL.same sL).trans e4)))
    have M4 : ML H4 p a l (n + 4) := M4
    have fin : ∀ z : Int, 0 < z → z ≤ (most : Int) → Q (.int z) H4 := fun z z0 z1 => by
      have := k H4 z.toNat M4 eA (by omega) (by omega)
      rw [show ((z.toNat : Nat) : Int) = z by omega] at this
      exact this
    have hc : q4 = 0 ∨ q4 = 1 ∨ q4 = 2 := by omega
    rcases hc with rfl | rfl | rfl
    · exact ⟨L, _, _, _, rfl, rfl, SqL.of hL4, rfl, fin _ (by omega) (by omega)⟩
    · exact ⟨L, _, _, _, rfl, rfl, SqL.of hL4, rfl, fin _ (by split <;> omega) (by split <;> omega)⟩
    · exact ⟨L, _, _, _, rfl, rfl, SqL.of hL4, rfl, fin _ (by omega) (by omega)⟩
end
end One
end P_S6

section P_U1
set_option linter.all false
set_option maxRecDepth 100000
set_option maxHeartbeats 16000000
namespace One
open PySem PySem.Spec PyProof.Rows L2
theorem cut_whole {xs : List V} {lo hi : Option Int} (h : HT.sIx xs.length 0 lo = 0 ∧ HT.sIx xs.length xs.length hi = xs.length) : cutV xs lo hi = xs := by
  unfold cutV
  rw [h.1, h.2, List.drop_zero, Nat.sub_zero, List.take_length]
theorem rd_slA {K : PySem.W.Frag} {H : Hp} {a : Addr} {xs : List V} {lo hi : Option Int} {Q : VK} (ha : H a = some (.tup xs)) (k : ∀ (H' : Hp) (p : Addr), Same H H' → H' p = some (.tup (cutV xs lo hi)) → Q (.ref p) H') : rSlA K (.ref a) lo hi H Q :=
  ⟨a, xs, rfl, SqT.of ha, fun h => k H a (Same.refl H) (by rw [cut_whole h]; exact ha), fun _ p hp => k _ p (Same.new hp) upd_same⟩
theorem rd_catA {K : PySem.W.Frag} {H : Hp} {a b : Addr} {xs ys : List V} {Q : VK} (ha : H a = some (.tup xs)) (hb : H b = some (.tup ys)) (hl : xs.length + ys.length ≤ sizeLine) (k : ∀ (H' : Hp) (p : Addr), Same H H' → H' p = some (.tup (xs ++ ys)) → Q (.ref p) H') : rCatA K (.ref a) (.ref b) H Q :=
  ⟨a, b, xs, ys, rfl, rfl, SqT.of ha, SqT.of hb, hl, fun e => k H b (Same.refl H) (by rw [e]; exact hb), fun _ e => k H a (Same.refl H) (by rw [e, List.append_nil]; exact ha), fun _ _ p hp => k _ p (Same.new hp) upd_same⟩
theorem cut_take {xs : List V} {i : Nat} (h : i ≤ xs.length) : cutV xs none (some (i : Nat)) = xs.take i := by
  unfold cutV
  rw [HT.sIx_none, HT.sIx_nat, List.drop_zero, Nat.sub_zero, Nat.min_eq_left h]
theorem cut_drop {xs : List V} {i : Nat} (h : i ≤ xs.length) : cutV xs (some (i : Nat)) none = xs.drop i := by
  unfold cutV
  rw [HT.sIx_none, HT.sIx_nat, Nat.min_eq_left h]
  exact List.take_of_length_le (by rw [List.length_drop]; omega)
theorem cut_init {xs : List V} : cutV xs none (some (-1)) = xs.take (xs.length - 1) := by
  unfold cutV
  have e : HT.sIx xs.length xs.length (some (-1)) = xs.length - 1 := by
    show (if (-1 : Int) < 0 then ((-1 : Int) + (xs.length : Int)).toNat else min (-1 : Int).toNat xs.length) = xs.length - 1
    rw [if_pos (by decide)]
    omega
  rw [HT.sIx_none, e, List.drop_zero, Nat.sub_zero]
/-- one put in the place of another -/
def put_ (xs : List V) (i : Nat) (v : V) : List V := (xs.take i ++ [v]) ++ xs.drop (i + 1)
theorem pt_len {xs : List V} {i : Nat} {v : V} (h : i < xs.length) : (put_ xs i v).length = xs.length := by
  unfold put_
  simp only [List.length_append, List.length_take, List.length_drop, List.length_cons, List.length_nil]
  omega
theorem pt_at {xs : List V} {i : Nat} {v : V} (h : i < xs.length) : (put_ xs i v)[i]? = some v := by
  have e : (xs.take i).length = i := by rw [List.length_take]; omega
  unfold put_
  rw [List.append_assoc, List.getElem?_append_right (by omega), e, Nat.sub_self]
  rfl
theorem pt_take {xs : List V} {i : Nat} {v : V} (h : i < xs.length) : (put_ xs i v).take i = xs.take i := by
  have e : (xs.take i).length = i := by rw [List.length_take]; omega
  unfold put_
  rw [List.append_assoc, List.take_append_of_le_length (by omega), List.take_of_length_le (by omega)]
theorem pt_mem {xs : List V} {i : Nat} {v x : V} (h : x ∈ put_ xs i v) : x = v ∨ x ∈ xs := by
  unfold put_ at h
  rcases List.mem_append.mp h with h | h
  · rcases List.mem_append.mp h with h | h
    · exact .inr (List.mem_of_mem_take h)
    · exact .inl (List.mem_singleton.mp h)
  · exact .inr (List.mem_of_mem_drop h)

abbrev sWW : Stmt := top 43
abbrev nWW : List Str := ["ways", "crossing", "way"]
theorem scWW : FnScope nWW ["ways", "crossing", "way"] (defScope sWW) := ⟨rfl, rfl, rfl, by decide +kernel, rfl, by decide +kernel, by decide +kernel⟩
def spWW : Sp := fun vs H Q _ => ∃ (u : Addr) (c : Nat) (v : V) (xs : List V), vs = [.ref u, .int (c : Nat), v] ∧ H u = some (.tup xs) ∧ c < xs.length ∧ xs.length ≤ 100 ∧ ∀ (H' : Hp) (q : Addr), Same H H' → H' q = some (.tup (put_ xs c v)) → Q (.ref q) H'
theorem getD_of {α : Type} {xs : List α} {i : Nat} {x d : α} (h : xs[i]? = some x) : xs.getD i d = x := by
  rw [List.getD_eq_getElem?_getD, h]
  rfl
theorem put_off {xs : List V} {c i : Nat} {v : V} (hc : c < xs.length) (h : i ≠ c) : (put_ xs c v)[i]? = xs[i]? := by
  have e : (xs.take c).length = c := by rw [List.length_take]; omega
  unfold put_
  rw [List.append_assoc]
  rcases Nat.lt_or_ge i c with q | q
  · rw [List.getElem?_append_left (by omega), List.getElem?_take, if_pos q]
  · rw [List.getElem?_append_right (by omega), e]
    obtain ⟨d, rfl⟩ : ∃ d, i = c + (d + 1) := ⟨i - c - 1, by omega⟩
    rw [show c + (d + 1) - c = d + 1 by omega]
    show (xs.drop (c + 1))[d]? = _
    rw [List.getElem?_drop]
    congr 1
    omega
section
variable {P : Program} {w : World} {K : PySem.W.Frag} {mg : Str → Option Value} {base : Heap}
theorem ok_ww {f : Addr} {fd : FuncData} (F : Fun K "with_way" "with_way" sWW f fd) : FnOk P w K mg base CX0 1 f fd ["ways", "crossing", "way"] spWW := by
  refine F.ok scWW (fun vs H Q E h => ?_) (fun cdv A outer s H vs Q E hr h => ?_)
  · obtain ⟨u, c, v, xs, rfl, _⟩ := h
    rfl
  · obtain ⟨u, c, v, xs, rfl, hu, hc, hl, k⟩ := h
    refine ⟨_, pss_one (ps_ret (pe_op op_catA (pe_op op_catA (pe_slice sl_tupA (pv 0) po_none (po_some (pv 1))) (pe_tup (pa_cons (pv 2) pa_nil))) (pe_slice sl_tupA (pv 0) (po_some (pe_op op_add (pv 1) pe_int)) po_none))), ?_⟩
    refine ⟨_, rfl, _, rfl, _, rfl, rd_slA hu fun H4 b1 s4 h4 => ?_⟩
    rw [cut_take (by omega)] at h4
    refine ⟨_, rfl, (by show 1 ≤ sizeLine; decide), fun b2 hb2 => ?_⟩
    have s5 := Same.new (o := .tup [v]) hb2
    have h5 := upd_same (H := H4) (a := b2) (o := .tup [v])
    have h45 := s5 _ _ h4
    generalize upd H4 b2 (.tup [v]) = H5 at s5 h5 h45
    have big : ∀ {x y : Nat}, x + y ≤ 200 → x + y ≤ sizeLine := fun h => Nat.le_trans h (by decide)
    refine rd_catA h45 h5 (big (by rw [List.length_take]; show _ + 1 ≤ 200; omega)) fun H6 b3 s6 h6 => ?_
    have s36 := s4.trans (s5.trans s6)
    refine ⟨_, rfl, _, rfl, _, _, rfl, rfl, _, rfl, ?_⟩
    unfold tNoPart
    dsimp only
    refine rd_slA (s36 _ _ hu) fun H7 b4 s7 h7 => ?_
    rw [show ((c : Nat) : Int) + 1 = ((c + 1 : Nat) : Int) by omega, cut_drop (by omega)] at h7
    refine rd_catA (s7 _ _ h6) h7 (big ?_) fun H8 b5 s8 h8 => ?_
    · rw [List.length_append, List.length_take, List.length_drop]
      show _ + 1 + _ ≤ 200
      omega
    exact k H8 b5 (s36.trans (s7.trans s8)) h8
end
theorem set_ok {H : Hp} {u : Addr} {m : Nat} {ws : List Nat} (h : SetAt H u m ws) : ∀ x ∈ nats ws, okW false x = true ∧ TV H x "int" := fun x hx => by
  obtain ⟨z, hz, rfl⟩ := List.mem_map.mp hx
  refine ⟨?_, .int _⟩
  have := h.lt z hz
  show (((decide (0 ≤ ((z : Nat) : Int)) && decide (((z : Nat) : Int) < 3))) || _) = true
  rw [decide_eq_true (by omega : 0 ≤ ((z : Nat) : Int)), decide_eq_true (by omega : ((z : Nat) : Int) < 3)]
  rfl
theorem look_good {C : Addr} {H : Hp} {u : Addr} {m : Nat} {ws : List Nat} {Q : Hp → Prop} {E : XK} (h : SetAt H u m ws) (k : ∀ H', Same H H' → Q H') : LookW C false (.ref u) m H Q E :=
  .inr ⟨u, _, rfl, h.here, (List.length_map _).trans h.len, fun x hx => ⟨_, (set_ok h x hx).2⟩, fun _ H' s => k H' s, fun i x hx hb _ => by
    have := (set_ok h x (List.mem_of_getElem? hx)).1
    rw [hb] at this
    cases this⟩
/-! ### a tuple of small numbers, as data -/
def nsD (rs : List Nat) : PyData := .tuple (rs.map fun x => PyData.int (x : Nat))
theorem dp_ns {K : PySem.W.Frag} {H : Hp} : ∀ rs : List Nat, DpAll K H (nats rs) (rs.map fun x => PyData.int (x : Nat))
  | [] => .nil
  | _ :: r => .cons (.int _) (dp_ns r)
theorem dp_nsD {K : PySem.W.Frag} {H : Hp} {u : Addr} {rs : List Nat} (h : H u = some (.tup (nats rs))) : Dp K H (.ref u) (nsD rs) := .tup (SqT.of h) (dp_ns rs)
theorem ns_all : ∀ rs : List Nat, (∀ x ∈ rs, x < 1000) → PyData.showableAll (rs.map fun x => PyData.int (x : Nat)) = true ∧ PyData.hasDictAll (rs.map fun x => PyData.int (x : Nat)) = false ∧ PyData.depthAll (rs.map fun x => PyData.int (x : Nat)) ≤ 1 ∧ PyData.leavesShortAll 8 (rs.map fun x => PyData.int (x : Nat)) = true ∧ PyData.bulkAll (rs.map fun x => PyData.int (x : Nat)) = rs.length
  | [], _ => ⟨rfl, rfl, Nat.zero_le _, rfl, rfl⟩
  | x :: r, h => by
    obtain ⟨h1, h2, h3, h4, h5⟩ := ns_all r fun q m => h q (List.mem_cons_of_mem _ m)
    have q1 := h x (List.mem_cons_self ..)
    have a1 : PyData.showable (.int (x : Nat)) = true := by
      show decide (((x : Nat) : Int).natAbs.log2 < 1920) = true
      simp only [Int.natAbs_natCast, decide_eq_true_eq]
      exact log_small q1
    have a4 : PyData.leavesShort 8 (.int (x : Nat)) = true := by
      show decide (_ ≤ 8) = true
      simp only [decide_eq_true_eq]
      exact int_short _ q1
    refine ⟨?_, ?_, ?_, ?_, ?_⟩
    · show (PyData.showable (.int (x : Nat)) && PyData.showableAll _) = true
      rw [a1, h1]; rfl
    · show (false || PyData.hasDictAll _) = false
      rw [h2]; rfl
    · show max 0 (PyData.depthAll _) ≤ 1
      exact Nat.max_le.mpr ⟨Nat.zero_le 1, h3⟩
    · show (PyData.leavesShort 8 (.int (x : Nat)) && PyData.leavesShortAll 8 _) = true
      rw [a4, h4]; rfl
    · show 0 + 1 + PyData.bulkAll _ = _
      rw [h5]
      show 0 + 1 + r.length = r.length + 1
      omega
theorem ns_fine {rs : List Nat} (h : ∀ x ∈ rs, x < 1000) (hl : rs.length ≤ 1000) : (nsD rs).showable = true ∧ (nsD rs).hasDict = false ∧ (nsD rs).depth ≤ 16 ∧ (nsD rs).shown.length ≤ sizeLine := by
  obtain ⟨h1, h2, h3, h4, h5⟩ := ns_all rs h
  refine ⟨h1, h2, ?_, ?_⟩
  · show PyData.depthAll _ + 1 ≤ 16
    omega
  · have q := PyData.shown_le_bulk 8 (Nat.le_refl _) (nsD rs) h4
    have e : (nsD rs).bulk = rs.length := h5
    rw [e] at q
    have : (40000 : Nat) ≤ sizeLine := by decide
    omega
theorem repr_ns {K : PySem.W.Frag} {H : Hp} {u : Addr} {rs : List Nat} {Q : VK} (hu : H u = some (.tup (nats rs))) (h : ∀ x ∈ rs, x < 1000) (hl : rs.length ≤ 1000) (q : Q (.str (nsD rs).shown) H) : rRepr K [.ref u] H Q := by
  obtain ⟨h1, h2, h3, h4⟩ := ns_fine h hl
  exact ⟨u, _, rfl, dp_nsD hu, h1, h2, h3, h4, q⟩

end One
end P_U1

section P_V2
set_option linter.all false
set_option maxRecDepth 100000
set_option maxHeartbeats 16000000
namespace One
open PySem PySem.Spec PyProof.Rows L2
abbrev sNS2 : Stmt := top 41
/-- a yard that is refused -/
def BadY (C0 : Addr) (v : V) (H : Hp) (E : XK) : Prop := spFault [v] H (fun r H' => Wrong C0 E r H') E0
/-- ways that are refused -/
def BadW (CS : Addr) (v : V) (m : Nat) (H : Hp) (E : XK) : Prop := (∃ T, TV H v T) ∧ LookW CS false v m H (fun _ => False) E
theorem RWrong.to {C : Addr} {E : XK} {H H1 : Hp} {ns : List Nat} (h : RWrong C E H ns) (s : Same H H1) : RWrong C E H1 ns := fun H' p d s' => h H' p d (s.trans s')
def spNS2 (C0 CS : Addr) : Sp := fun vs H Q E => ∃ (yv v : V), vs = [yv, v] ∧ (BadY C0 yv H E ∨ spNS CS vs H Q E)
section
variable {P : Program} {w : World} {K : PySem.W.Frag} {mg : Str → Option Value} {base : Heap} {C0 CS f3 : Addr} {x3 : Stmt}
theorem ok_ns2 {f fW fC : Addr} {fd fdW fdC : FuncData} (F : Fun K "need_setting" "need_setting" sNS f fd) (T3 : OwnTxt P K x3 "place" CS f3) (O3 : OwnCls K mg "BadSetting" CS f3) (noS : mg "super" = none) (Fa : Cal K mg "ways_fault" fW fdW ["thing", "many", "is_draft"]) (GF : FnOk P w K mg base CX0 3 fW fdW ["thing", "many", "is_draft"] spWays)
    (C : Cal K mg "crossings" fC fdC ["yard"]) (GC : FnOk P w K mg base (L2.CX P w) 6 fC fdC ["yard"] (spCross C0)) : FnOk P w K mg base (L2.CX P w) 7 f fd ["yard", "thing"] (spNS2 C0 CS) := by
  have good := ok_ns F T3 O3 noS Fa GF C GC
  have bad : FnOk P w K mg base (L2.CX P w) 7 f fd ["yard", "thing"] (fun vs H Q E => ∃ (yv v : V), vs = [yv, v] ∧ BadY C0 yv H E) := by
    refine F.okX scNS (fun vs H Q E h => ?_) (fun cdv A outer s H vs Q E hr h => ?_)
    · obtain ⟨yv, v, rfl, _⟩ := h
      rfl
    · obtain ⟨yv, v, rfl, hb⟩ := h
      have nd := scNS.nd
      have hr6 : Room 6 _ := hr
      have hr3 : Room 3 _ := hr.mono (by decide)
      refine ⟨_, pss_cons (ps_set (i := 2) nd rfl (Or.inl rfl) (pe_call GF hr3 rfl Fa.g Fa.kp Fa.b .nil pass0 (pa_cons (pv 1) (pa_cons (pe_call GC hr6 rfl C.g C.kp C.b .nil (passes_call (takes_of rfl rfl rfl rfl) (fun _ _ _ _ h => h)) (pa_cons (pv 0) pa_nil)) (pa_cons pe_bl pa_nil)))))
        (pss_cons (ps_if (pt_cmpR op_notN (pv 2) pe_non (nomark _)) (pss_one (ps_raiseX rfl (Or.inl rfl) T3 O3 noS hr (takes_of rfl rfl rfl rfl) (pa_cons (pv 2) pa_nil) (by rfl))) pss_nil)
        (pss_one (ps_ret (pv 1)))), ?_⟩
      refine ⟨_, rfl, _, rfl, yv, rfl, fault_mono hb fun r H' hq => .inr hq⟩
  refine ⟨fun vs H Q E ⟨yv, v, e, _⟩ => by rw [e]; rfl, fun A outer s H args us vs Q E hr e0 hb hv ⟨yv, v, e, h⟩ => ?_⟩
  rcases h with h | h
  · exact bad.run A outer s H args us vs Q E hr e0 hb hv ⟨yv, v, e, h⟩
  · exact good.run A outer s H args us vs Q E hr e0 hb hv h
end
end One
end P_V2

section P_X3
set_option linter.all false
set_option maxRecDepth 100000
set_option maxHeartbeats 4000000
namespace One
open PySem PySem.Spec PyProof.Rows L2
/-! ### try: .. except x as n: m = n / rest, where the rest may look at the exception that m holds -/
/-- slot i is n's, slot j is m's -/
def wHold (K : PySem.W.Frag) (c : Value) (i j : Nat) (tE : Addr → Value → Option Addr → TS) (Wout : WX) (D : Ends) : WX := fun cls d σ H =>
  ∃ b, PySem.W.exmOne K cls c = some b ∧ (b = true → ∀ a, H a = none → tE a cls d D (((σ.set i (some (.ref a))).set j (some (.ref a))).set i none) H) ∧ (b = false → Wout cls d σ H)
theorem tr_tr {X : Cx} {pins : List (Addr × Obj)} {σ : L2.St} {H : Hp} {s : Shared} {q : Addr × Obj} {xe : Value → Shared → Prop} (I : Inv (X.suite q.1 (q :: (X.pn ++ pins))) [] σ H s) (ok : X.Ok) : Inv (X.tr (q :: (X.pn ++ pins)) xe) [] σ H s :=
  ⟨ok.toTry _ _, I.os, I.bare, I.base, I.loc, I.cell, I.free, I.freeC, I.pin, I.hok, I.len⟩
theorem of_tr {X : Cx} {pins pn' : List (Addr × Obj)} {σ : L2.St} {H : Hp} {s : Shared} {q : Addr × Obj} {xe : Value → Shared → Prop} (I : Inv (X.tr (q :: (X.pn ++ pins)) xe) pn' σ H s) (ok : X.Ok) : Inv X pins σ H s :=
  ⟨ok, I.os, I.bare, I.base, I.loc, I.cell, I.free, I.freeC, fun y hy => I.pin y (List.mem_append_left _ (List.mem_cons_of_mem _ hy)), I.hok, I.len⟩
theorem sp_tr {X : Cx} {pins : List (Addr × Obj)} {q : Addr × Obj} {xe : Value → Shared → Prop} {D : Ends} {f : Flow} {s : Shared} (ok : X.Ok) (h : SP (X.tr (q :: (X.pn ++ pins)) xe) [] D f s) : SP X pins D f s := by
  match f, h with
  | .next, ⟨σ', H', J, z⟩ => exact ⟨σ', H', of_tr J ok, z⟩
  | .brk, ⟨σ', H', J, z⟩ => exact ⟨σ', H', of_tr J ok, z⟩
  | .cont, ⟨σ', H', J, z⟩ => exact ⟨σ', H', of_tr J ok, z⟩
  | .ret u, ⟨v, σ', H', J, r, z⟩ => exact ⟨v, σ', H', of_tr J ok, r, z⟩
section
variable {X : Cx} {x n m : Str} {c : Value} {i j : Nat} {body rest : List Stmt} {np mp mp2 ap pos pos' : Pos} {tb : WX → TS} {t0 : TS} {tE : Addr → Value → Option Addr → TS} {Wout : WX}
theorem pss_hold (hs : X.stack = X.env :: X.outer) (hf : X.env.frame = some X.env.locals) (nd : X.N.Nodup) (hi : X.N[i]? = some n) (hln : X.env.kindOf n = some .local) (hj : X.N[j]? = some m) (hlm : X.env.kindOf m = some .local) (hc : Names X x c) (tk : Takes X Wout)
    (hdb : (n == ("__debug__" : Str)) = false) (hdc : (n == ("__classdict__" : Str)) = false)
    (hb : ∀ (W : WX) (pn : List (Addr × Obj)) (xe : Value → Shared → Prop), Takes (X.tr pn xe) W → PassesOwn (model X.prog X.w) X.A X.env xe → PSs (X.tr pn xe) body (tb W)) (h0 : PSs X rest t0)
    (hE : ∀ (a : Addr) (oe : Obj) (cls : Value) (d : Option Addr) (pn : List (Addr × Obj)), Zc cls d oe → (∃ vs, oe.data = .fields vs) → PSs (X.tr ((a, oe) :: pn) X.xe) rest (tE a cls d)) :
    PSs X (.Try body [.ExceptHandler (some (.Name x np)) (some n) [.Assign [.Name m mp] (.Name n mp2) ap] pos'] [] [] pos :: rest) (fun D σ H => tb (wHold X.K c i j tE Wout D) { D with nx := t0 D } σ H) := by
  refine ⟨fun pins s σ H D I h => ?_⟩
  have ok := I.ok
  have frs0 : X.A.frames = some (X.env :: X.outer) := ok.frames.trans (by rw [hs])
  refine wpAny_execs_cons (wpAny_Try_except ?_)
  let Q2 : Flow → Shared → Prop := fun f s' => match f with
    | .next => wpAny (model X.prog X.w) X.A (execs rest X.env) (SP X pins D) X.xe s'
    | f => SP X pins D f s'
  refine wpAny_mono ((hb (wHold X.K c i j tE Wout D) (X.pn ++ pins) (fun e s1 => wpAny (model X.prog X.w) X.A (noteFrame e X.env) (fun _ s2 => wpAny (model X.prog X.w) X.A (setFlight e none) (fun _ s3 =>
    wpAny (model X.prog X.w) X.A (handleBy e X.env [.ExceptHandler (some (.Name x np)) (some n) [.Assign [.Name m mp] (.Name n mp2) ap] pos']) Q2 X.xe s3) X.xe s2) X.xe s1) (fun u s' air => ?_) PassesOwn.looking).run [] s σ H { D with nx := t0 D } (I.toTry _) h) (fun f s1 hsp => ?_) (fun e s1 he => he)
  · obtain ⟨a, B, sI, pins', σ', H', cls, d, rfl, Jx, nb, up, sky, na, os, ag, b, hb1, yes, no⟩ := air
    have Jo : Inv X pins σ' H' sI := Jx.ofTry ok
    refine (show wpAny (model X.prog X.w) X.A (noteFrame (.ref a) X.env) _ _ _ from ?_)
    refine Sky.land Zc.steady frs0 hf (hs ▸ sky : Sky B (X.env :: X.outer) a (Zc cls d) X.env.locals s'.heap) fun hpl fll upl => ?_
    have Jl : Inv X pins σ' H' { s' with heap := hpl } := Jo.landed nb fll.1 (up.trans upl) os ag
    obtain ⟨oel, vsl, hel, hzl, hdl⟩ := fll.there
    have away : a ∉ frs (X.env :: X.outer) := fun hm => by
      obtain ⟨_, o', e', hnf⟩ := fll.2.2.1.mem hm
      cases hel.symm.trans e'
      exact hnf _ hdl
    have nL : a ≠ X.env.locals := fun z => away (List.mem_filterMap.mpr ⟨X.env, List.mem_cons_self, hf.trans (congrArg some z.symm)⟩)
    have nS : a ∉ X.fs := fun hm => by
      obtain ⟨e, he, q⟩ := List.mem_filterMap.mp hm
      exact away (List.mem_filterMap.mpr ⟨e, List.mem_cons_of_mem _ he, q⟩)
    have Sl := Jl.suite hel hdl na nL nS
    refine wpAny_handleBy_cons (codeAny_handlers_test ?_) (by intro q; cases q)
    have Lty : PySem.W.Looks (model X.prog X.w) hpl (typeOf (.ref a)) cls := fun A Q E s k q => wpAny_typeOf_ref (k _ _ hel) (by rw [hzl.1]; exact q)
    have look : ∀ {Q : Value → Shared → Prop} {E : Value → Shared → Prop}, Q c { s' with heap := hpl } → wpAny (model X.prog X.w) (X.A.mark (some (.ref a))) (eval (.Name x np) X.env) Q E { s' with heap := hpl } := fun {Q E} q => by
      obtain ⟨g1, g2, g3 | ⟨g3, g4, g5⟩⟩ := hc
      · exact ld_glob (X := X.suite a ((a, oel) :: (X.pn ++ pins))) Sl g1 g3 q g2
      · exact ld_blt (X := X.suite a ((a, oel) :: (X.pn ++ pins))) Sl g1 g3 g4 q g5 g2
    refine look ((PySem.W.exm_one (M := model X.prog X.w) Jl.kIn Lty hb1).here ?_)
    cases b with
    | true =>
      refine codeAny_handlers_suite_as (HandSPX.lands_againZ fll fun hpm flm upm => ?_)
      have Jm : Inv X pins σ' H' { s' with heap := hpm } := Jo.landed nb flm.1 ((up.trans upl).trans upm) os ag
      obtain ⟨oem, vsm, hem, hzm, hdm⟩ := flm.there
      have Sm := Jm.suite hem hdm na nL nS
      refine store_ok (X := X.suite a ((a, oem) :: (X.pn ++ pins))) (v := .ref a) Sm nd hi (.inl hln) rfl (fun s5 S5 => ?_) (.inr hln)
      have one : PSs (X.suite a ((a, oem) :: (X.pn ++ pins))) [.Assign [.Name m mp] (.Name n mp2) ap] _ := pss_one (ps_set (i := j) nd hj (.inl hlm) (pe_var (i := i) hi (.inl hln) hdb hdc) (hf := .inr hlm))
      have li : i < σ'.length := by
        rw [Jo.len]
        exact (List.getElem?_eq_some_iff.mp hi).1
      refine wpAny_mono (one.run [] s5 _ H' { nx := fun σ6 H6 => σ6 = (σ'.set i (some (.ref a))).set j (some (.ref a)) ∧ H6 = H', rt := fun _ _ => False } S5 ⟨.ref a, List.getElem?_set_self li, rfl, rfl⟩) (fun f s6 hsp => ?_) (fun _ _ z => False.elim z)
      match f, hsp with
      | .next, ⟨σ6, H6, S6, e1, e2⟩ =>
        subst e1 e2
        refine gone_ok (X := X.suite a ((a, oem) :: (X.pn ++ pins))) S6 nd hi hln fun s7 S7 => ?_
        exact wpAny_mono ((hE a oem cls d (X.pn ++ pins) hzm ⟨_, hdm⟩).run [] s7 _ _ D (tr_tr (q := (a, oem)) S7 ok) (yes rfl a na)) (fun f s8 h8 => sp_tr (q := (a, oem)) ok h8) fun _ _ z => z
      | .brk, ⟨_, _, _, z⟩ => exact z.elim
      | .cont, ⟨_, _, _, z⟩ => exact z.elim
      | .ret u, ⟨_, _, _, _, _, z⟩ => exact z.elim
    | false =>
      refine (show wpAny _ X.A (handleBy (.ref a) X.env []) _ _ _ from wpAny_handleBy_nil ?_)
      obtain ⟨_, _, _, oe, vs, T, oT, ts', he, hz, hd, h1, hr⟩ := id fll
      unfold PySem.passOn
      refine wpAny_bind (wpAny_field he hd h1 ?_); rw [if_neg (show ¬ ((Value.ref T == Value.none) = true) from by simp)]
      have last : wpAny (model X.prog X.w) X.A (setFlight (.ref a) X.env.frame) (fun _ s4 => wpAny (model X.prog X.w) X.A (throw (.ref a) : Sem Flow) Q2 X.xe s4) X.xe { s' with heap := hpl } := by
        rw [hf]
        exact HandSPX.setFlight_upZ fll fun hpm hh4 upm => wpAny_throw (tk _ _ ⟨a, B, sI, pins, σ', H', cls, d, rfl, Jo, nb, (up.trans upl).trans upm, .inr (.inr (by rw [hs]; exact hh4)), na, os, ag, no rfl⟩)
      first
        | exact wpAny_bind (wpAny_pure (wpAny_bind last))
        | exact wpAny_bind last
  · match f, hsp with
    | .next, ⟨σ', H', Jx, q⟩ => exact wpAny_execs_nil (h0.run pins s1 σ' H' D (Jx.ofTry ok) q)
    | .brk, ⟨σ', H', Jx, q⟩ => exact ⟨σ', H', Jx.ofTry ok, q⟩
    | .cont, ⟨σ', H', Jx, q⟩ => exact ⟨σ', H', Jx.ofTry ok, q⟩
    | .ret u, ⟨v, σ', H', Jx, r, q⟩ => exact ⟨v, σ', H', Jx.ofTry ok, r, q⟩
end
end One
end P_X3

section P_X4
set_option linter.all false
set_option maxRecDepth 100000
set_option maxHeartbeats 4000000
namespace One
open PySem PySem.Spec PyProof.Rows L2
/-! ### a held exception is looked at: its class, its fields -/
theorem held_at {X : Cx} {a D dd : Addr} {oe : Obj} {pn pins : List (Addr × Obj)} {xe : Value → Shared → Prop} {σ : L2.St} {H : Hp} {s : Shared} {fs : List (Str × V)} (I : Inv (X.tr ((a, oe) :: pn) xe) pins σ H s) (hz : Zc (.ref D) (some dd) oe) (hf : ∃ vs, oe.data = .fields vs) (hd : H dd = some (.xd fs)) :
    ∃ (od : Obj) (mA : Str → Option Value), PySem.W.InstAt s.heap a oe D (some od) ∧ s.heap.Ns1 dd mA ∧ s.heap.get? dd = some od ∧ ∀ g, RelO (fs.lookup g) (mA g) := by
  obtain ⟨hat, _⟩ := I.pin (a, oe) (List.mem_append.mpr (.inl List.mem_cons_self))
  obtain ⟨vs, hv⟩ := hf
  obtain ⟨mA, hns, hr⟩ := (show ObjOk X.prog X.w H s.heap dd (.xd fs) from I.hok dd _ hd)
  obtain ⟨od, es, ep, ho, _⟩ := id hns
  exact ⟨od, mA, ⟨hat, hz.1, by unfold PySem.W.notCls; rw [hv] <;> rfl, by rw [hz.2]; exact ho⟩, hns, ho, hr⟩
def rIsX (K : PySem.W.Frag) (a : Addr) (cls : Value) (d : Option Addr) : List V → Hp → VK → Prop := fun xs H Q => ∃ (D dd : Addr) (c : V) (cv : Value) (b : Bool) (fs : List (Str × V)), xs = [.ref a, c] ∧ cls = .ref D ∧ d = some dd ∧ ExcC K D ∧
  (∀ u, RelV c u → u = cv) ∧ PySem.W.kitOne K (.ref D) cv = some b ∧ H dd = some (.xd fs) ∧ Q (.bl b) H
section
variable {X : Cx} {a : Addr} {oe : Obj} {cls : Value} {d : Option Addr} {pn : List (Addr × Obj)} {xe : Value → Shared → Prop}
theorem cr_isX (hz : Zc cls d oe) (hf : ∃ vs, oe.data = .fields vs) : CallR (X.tr ((a, oe) :: pn) xe) (.builtin "isinstance") (rIsX X.K a cls d) := by
  intro pins s σ H xs us Q I r h
  obtain ⟨D, dd, c, cv, b, fs, rfl, rfl, rfl, C, hcv, e, hd, q⟩ := h
  cases r with
  | cons rx rr =>
    cases rr with
    | cons rt rr =>
      cases rr
      cases rx
      have ec := hcv _ rt
      subst ec
      obtain ⟨od, mA, J, _, _, _⟩ := held_at I hz hf hd
      have hcl : (PySem.W.clsIn X.K D).isSome = true := by
        obtain ⟨cd, hc, _⟩ := PySem.W.any_some C.hd
        rw [hc]; rfl
      exact PySem.W.kia_one (PySem.W.kitx_exc hcl C.hg C.hk C.hs C.ha C.hn C.ht C.hm) I.kIn J e (fun z => nomatch z) fun tk => ⟨.bl b, H, I.kept (t' := tk) fun _ _ z => z, rfl, q⟩
/-- x.n, x the held exception -/
def tFld (K : PySem.W.Frag) (a : Addr) (cls : Value) (d : Option Addr) (n : Str) (te : TE) : TE := fun σ H Q => te σ H fun x H1 => ∃ (C dd : Addr) (fs : List (Str × V)) (v : V), x = .ref a ∧ cls = .ref C ∧ d = some dd ∧ XfC K C ∧ PySem.W.findIn K (.ref C) n = some none ∧ H1 dd = some (.xd fs) ∧ fs.lookup n = some v ∧ Q v H1
theorem pe_fld {e : Expr} {te : TE} {pos : Pos} {n : Str} (hz : Zc cls d oe) (hf : ∃ vs, oe.data = .fields vs) (he : PE (X.tr ((a, oe) :: pn) xe) e te) (hb : attributeBase e n X.env (eval e X.env) = eval e X.env := by rfl) :
    PE (X.tr ((a, oe) :: pn) xe) (.Attribute e n pos) (tFld X.K a cls d n te) := by
  refine ⟨fun pins s σ H Q I h => attr_of hb (thn (he.run pins s σ H _ I h) fun u s1 ⟨x, H1, I1, rx, C, dd, fs, v, ex, e1, e2, T, hno, hd, l, q⟩ => ?_)⟩
  subst ex e1 e2
  obtain rfl : u = Value.ref a := rx
  obtain ⟨od, mA, J, hns, ho, hr⟩ := held_at I1 hz hf hd
  obtain ⟨od', ho', hl⟩ := lookIn_ns hns
  obtain rfl : od' = od := Option.some.inj (ho'.symm.trans ho)
  obtain ⟨uv, huv, ruv⟩ := RelO.some_of (v := v) (o := mA n) (by rw [← l]; exact hr n)
  exact HandSPX.exc_get I1.kIn J T.ga T.gg T.exC (PySem.W.findObj_own T.hdC hno rfl (by rw [hl, huv])) (handed_of ruv) ⟨v, H1, I1.tok _, ruv, q⟩
end
end One
end P_X4

section P_V3
set_option linter.all false
set_option maxRecDepth 100000
set_option maxHeartbeats 8000000
namespace One
open PySem PySem.Spec PyProof.Rows L2
theorem kit_nots {K : PySem.W.Frag} {t : Value} : ∀ {as : List Addr}, (∀ a ∈ as, PySem.W.kitOne K t (.ref a) = some false) → PySem.W.kitAny K t (as.map Value.ref) = some false
  | [], _ => rfl
  | a :: as, h => by
    show (match PySem.W.kitOne K t (.ref a) with
      | some true => some true
      | some false => PySem.W.kitAny K t (as.map Value.ref)
      | none => none) = some false
    rw [h a (List.mem_cons_self ..)]
    exact kit_nots fun b m => h b (List.mem_cons_of_mem _ m)
theorem vals_refs : ∀ {as : List Addr} {us : List Value}, Vals (refs as) us → us = as.map Value.ref
  | [], us, h => by
    cases h
    rfl
  | a :: as, us, h => by
    cases h with
    | cons r rr =>
      cases r
      rw [vals_refs rr]
      rfl
/-- isinstance(x, (c1, c2, ..)), x the held exception -/
def rIsXT (K : PySem.W.Frag) (a : Addr) (cls : Value) (d : Option Addr) : List V → Hp → VK → Prop := fun xs H Q => ∃ (D dd tp : Addr) (as : List Addr) (b : Bool) (fs : List (Str × V)), xs = [.ref a, .ref tp] ∧ cls = .ref D ∧ d = some dd ∧ ExcC K D ∧
  H tp = some (.tup (refs as)) ∧ PySem.W.kitAny K (.ref D) (as.map Value.ref) = some b ∧ H dd = some (.xd fs) ∧ Q (.bl b) H
section
variable {X : Cx} {a : Addr} {oe : Obj} {cls : Value} {d : Option Addr} {pn : List (Addr × Obj)} {xe : Value → Shared → Prop}
theorem cr_isXT (hz : Zc cls d oe) (hf : ∃ vs, oe.data = .fields vs) : CallR (X.tr ((a, oe) :: pn) xe) (.builtin "isinstance") (rIsXT X.K a cls d) := by
  intro pins s σ H xs us Q I r h
  obtain ⟨D, dd, tp, as, b, fs, rfl, rfl, rfl, C, hT, e, hd, q⟩ := h
  obtain ⟨u1, u2, rfl, r1, r2⟩ := vals2 r
  cases (show u2 = Value.ref tp from r2)
  cases (show u1 = Value.ref a from r1)
  obtain ⟨od, mA, J, _, _, _⟩ := held_at I hz hf hd
  have hcl : (PySem.W.clsIn X.K D).isSome = true := by
    obtain ⟨cd, hc, _⟩ := PySem.W.any_some C.hd
    rw [hc]; rfl
  obtain ⟨_, its, rv, o, h1, h2, n, h3⟩ := (show ObjOk X.prog X.w H s.heap tp (.tup (refs as)) from I.hok tp _ hT)
  have e3 := vals_refs rv
  subst e3
  obtain ⟨oc, oD, dt, sl⟩ := o
  simp only at h2 h3
  subst h2 h3
  exact PySem.W.kia_tup (PySem.W.kitx_exc hcl C.hg C.hk C.hs C.ha C.hn C.ht C.hm) I.kIn J h1 e (fun z => nomatch z) fun tk => ⟨.bl b, H, I.kept (t' := tk) fun _ _ z => z, rfl, q⟩
end
abbrev sSaid : Stmt := top 64
abbrev nSaid : List Str := ["deed", "caught", "found", "e", "some", "kinds", "word", "fits"]
theorem scSaid : FnScope nSaid ["deed"] (defScope sSaid) := ⟨rfl, rfl, rfl, by decide +kernel, rfl, by decide +kernel, by decide +kernel⟩
def wordS (i : Nat) : Str := (["yard", "setting", "end", "out", "turn", "lead"] : List Str).getD i ""
/-- the names of the classes -/
structure SaidN (mg : Str → Option Value) (CL : Nat → Addr) (RE : Addr) : Prop where
  re : mg "RoundError" = some (.ref RE)
  c0 : mg "BadYard" = some (.ref (CL 0))
  c1 : mg "BadSetting" = some (.ref (CL 1))
  c2 : mg "BadEnd" = some (.ref (CL 2))
  c3 : mg "OutOfPlace" = some (.ref (CL 3))
  c4 : mg "BadTurn" = some (.ref (CL 4))
  c5 : mg "BadLead" = some (.ref (CL 5))
  c6 : mg "BadDraft" = some (.ref (CL 6))
  c7 : mg "BadNames" = some (.ref (CL 7))
  c8 : mg "BadSplit" = some (.ref (CL 8))
  c9 : mg "BadText" = some (.ref (CL 9))
  c10 : mg "BadTwins" = some (.ref (CL 10))
  c11 : mg "BadWorths" = some (.ref (CL 11))
  c12 : mg "BadDeed" = some (.ref (CL 12))
  c13 : mg "BadPaper" = some (.ref (CL 13))
  c14 : mg "BadTable" = some (.ref (CL 14))
  c15 : mg "Barred" = some (.ref (CL 15))
  c16 : mg "ManyRounds" = some (.ref (CL 16))
  c17 : mg "NeverOne" = some (.ref (CL 17))
  c18 : mg "TooMany" = some (.ref (CL 18))
  ve : mg "ValueError" = none
structure SaidC (K : PySem.W.Frag) (CL : Nat → Addr) (RE : Addr) (i : Nat) : Prop where
  lt : i < 6
  exc : ExcC K (CL i)
  xf : XfC K (CL i)
  no : PySem.W.findIn K (.ref (CL i)) "place" = some none
  kits : ∀ j, j < 19 → PySem.W.kitOne K (.ref (CL i)) (.ref (CL j)) = some (decide (i = j))
  ve : PySem.W.kitOne K (.ref (CL i)) (.type "ValueError") = some true
  exm : PySem.W.exmOne K (.ref (CL i)) (.ref RE) = some true
/-- what is wished of what the call raises -/
def XSaid (K : PySem.W.Frag) (CL : Nat → Addr) (RE : Addr) (Q : VK) : XK := fun cls d H => ∃ (i : Nat) (dd : Addr) (v : V), SaidC K CL RE i ∧ cls = .ref (CL i) ∧ d = some dd ∧ H dd = some (.xd [("place", v)]) ∧
  ∀ (H' : Hp) (u : Addr), Same H H' → H' u = some (.tup [.str (wordS i), v]) → Q (.ref u) H'
def TTsaid (K : PySem.W.Frag) (CL : Nat → Addr) (RE : Addr) : (XK → Hp → VK → Prop) → Hp → VK → Prop := fun tl H Q => ∀ (H1 : Hp) (R : VK), Same H H1 → (∀ v H', (∀ u, H' u = none → Q (.ref u) (upd H' u (.lst [v]))) → R v H') → tl (XSaid K CL RE Q) H1 R
inductive KS (H : Hp) : List Addr → List (Str × Bool) → Prop
  | nil : KS H [] []
  | cons {a p as ps} : H a = some (.tup [.str p.1, .bl p.2]) → KS H as ps → KS H (a :: as) (p :: ps)
theorem KS.mono {H H' : Hp} {as : List Addr} {ps : List (Str × Bool)} (h : KS H as ps) (k : Same H H') : KS H' as ps := by
  induction h with
  | nil => exact .nil
  | cons e _ ih => exact .cons (k _ _ e) ih
theorem KS.monoT {H H' : Hp} {as : List Addr} {ps : List (Str × Bool)} (h : KS H as ps) (k : ∀ b xs, H b = some (.tup xs) → H' b = some (.tup xs)) : KS H' as ps := by
  induction h with
  | nil => exact .nil
  | cons e _ ih => exact .cons (k _ _ e) ih
theorem KS.app {H : Hp} {as bs : List Addr} {ps qs : List (Str × Bool)} (h : KS H as ps) (k : KS H bs qs) : KS H (as ++ bs) (ps ++ qs) := by
  induction h with
  | nil => exact k
  | cons e _ ih => exact .cons e ih
theorem KS.len {H : Hp} {as : List Addr} {ps : List (Str × Bool)} (h : KS H as ps) : as.length = ps.length := by
  induction h with
  | nil => rfl
  | cons _ _ ih => simp [ih]
theorem KS.get {H : Hp} {as : List Addr} {ps : List (Str × Bool)} (h : KS H as ps) : ∀ {i : Nat} {a : Addr}, as[i]? = some a → ∃ p, ps[i]? = some p ∧ H a = some (.tup [.str p.1, .bl p.2]) := by
  induction h with
  | nil => intro i a e; simp at e
  | cons h1 _ ih =>
    intro i a e
    cases i with
    | zero =>
      cases Option.some.inj e
      exact ⟨_, rfl, h1⟩
    | succ i => exact ih (i := i) (by simpa using e)
def someS (i : Nat) : List (Str × Bool) := [("yard", decide (i = 0)), ("setting", decide (i = 1)), ("end", decide (i = 2)), ("out", decide (i = 3)), ("turn", decide (i = 4)), ("lead", decide (i = 5)), ("else", false), ("else", false), ("else", false)]
theorem some_one : ∀ i, i < 6 → (someS i).filter (·.2) = [(wordS i, true)] := by
  have h : ∀ i : Fin 6, (someS i).filter (·.2) = [(wordS i, true)] := by decide +kernel
  exact fun i hi => h ⟨i, hi⟩
theorem word_other : ∀ i, i < 6 → PyData.eqv (.list [.str (wordS i)]) (.list [.str "else"]) = false := by
  have h : ∀ i : Fin 6, PyData.eqv (.list [.str (wordS i)]) (.list [.str "else"]) = false := by decide +kernel
  exact fun i hi => h ⟨i, hi⟩
theorem word_shaped : ∀ i, i < 6 → SeqAt.shaped (.list [.str (wordS i)]) = true := by
  have h : ∀ i : Fin 6, SeqAt.shaped (.list [.str (wordS i)]) = true := by decide +kernel
  exact fun i hi => h ⟨i, hi⟩
theorem look_one {f : Str} {v : V} : List.lookup f [(f, v)] = some v := by
  rw [lookup_put, if_pos rfl]
/-- (word, isinstance(caught, class)) -/
def tIsS (K : PySem.W.Frag) (CL : Nat → Addr) (a : Addr) (cls : Value) (d : Option Addr) (w : Str) (j : Nat) : TE := tTup (tCons (tC (.str w)) (tCons (tCB (rIsX K a cls d) (tCons (tVar 1) (tCons (tC (.ref (CL j))) tNil))) tNil))
theorem pairS {K : PySem.W.Frag} {CL : Nat → Addr} {RE a dd : Addr} {i j1 j2 : Nat} {w1 w2 : Str} {σ : L2.St} {H : Hp} {Q : VK} {fs : List (Str × V)} (C : SaidC K CL RE i) (hj1 : j1 < 6) (hj2 : j2 < 6) (h1 : σ[1]? = some (some (.ref a))) (hd : H dd = some (.xd fs))
    (q : ∀ (l p1 p2 : Addr) (H' : Hp), Same H H' → H l = none → H' l = some (.lst (refs [p1, p2])) → KS H' [p1, p2] [(w1, decide (i = j1)), (w2, decide (i = j2))] → Q (.ref l) H') :
    tLst (tCons (tIsS K CL a (.ref (CL i)) (some dd) w1 j1) (tCons (tIsS K CL a (.ref (CL i)) (some dd) w2 j2) tNil)) σ H Q := by
  refine ⟨_, h1, CL i, dd, .ref (CL j1), .ref (CL j1), _, fs, rfl, rfl, rfl, C.exc, fun u r => r, C.kits j1 (by omega), hd, two_le, fun p1 hp1 => ?_⟩
  have s1 := Same.new (o := .tup [.str w1, .bl (decide (i = j1))]) hp1
  refine ⟨_, h1, CL i, dd, .ref (CL j2), .ref (CL j2), _, fs, rfl, rfl, rfl, C.exc, fun u r => r, C.kits j2 (by omega), s1 _ _ hd, two_le, fun p2 hp2 => ?_⟩
  have s2 := Same.new (o := .tup [.str w2, .bl (decide (i = j2))]) hp2
  refine ⟨two_le, fun l hl => ?_⟩
  have s3 := Same.new (o := .lst [V.ref p1, V.ref p2]) hl
  exact q l p1 p2 _ (s1.trans (s2.trans s3)) ((s1.trans s2).free hl) upd_same (.cons (s3 _ _ (s2 _ _ upd_same)) (.cons (s3 _ _ upd_same) .nil))
theorem catS {K : PySem.W.Frag} {CL : Nat → Addr} {RE a dd : Addr} {i j1 j2 : Nat} {w1 w2 : Str} {σ : L2.St} {H : Hp} {Q : VK} {fs : List (Str × V)} {L : Addr} {as : List Addr} {ps : List (Str × Bool)} (C : SaidC K CL RE i) (hj1 : j1 < 6) (hj2 : j2 < 6) (h1 : σ[1]? = some (some (.ref a))) (h4 : σ[4]? = some (some (.ref L))) (hd : H dd = some (.xd fs))
    (hL : H L = some (.lst (refs as))) (hK : KS H as ps) (hn : as.length ≤ 20) (q : ∀ (l : Addr) (bs : List Addr) (H' : Hp), Same H H' → H l = none → H' l = some (.lst (refs bs)) → KS H' bs (ps ++ [(w1, decide (i = j1)), (w2, decide (i = j2))]) → Q (.ref l) H') :
    tOp (rCatS K) (tVar 4) (tLst (tCons (tIsS K CL a (.ref (CL i)) (some dd) w1 j1) (tCons (tIsS K CL a (.ref (CL i)) (some dd) w2 j2) tNil))) σ H Q := by
  refine ⟨_, h4, pairS C hj1 hj2 h1 hd fun l p1 p2 H1 s1 hl hl1 hk1 => ?_⟩
  refine ⟨L, l, _, _, rfl, rfl, SqL.of (s1 _ _ hL), hl1, Nat.le_of_lt (small1000 (by rw [List.length_map]; show _ + 2 ≤ 1000; omega)), fun l2 hl2 => ?_⟩
  have s2 := Same.new (o := .lst (refs as ++ refs [p1, p2])) hl2
  refine q l2 (as ++ [p1, p2]) _ (s1.trans s2) (s1.free hl2) ?_ ((hK.mono (s1.trans s2)).app (hk1.mono s2))
  rw [upd_same, refs_app]
/-- ("else", isinstance(caught, (..))) -/
theorem otherS {K : PySem.W.Frag} {CL : Nat → Addr} {RE a dd : Addr} {i : Nat} {js : List Nat} {tt : TA} {σ : L2.St} {H : Hp} {Q : VK} {fs : List (Str × V)} (C : SaidC K CL RE i) (hjs : ∀ j ∈ js, j < 19 ∧ i ≠ j) (hl : js.length ≤ 10) (h1 : σ[1]? = some (some (.ref a))) (hd : H dd = some (.xd fs))
    (ht : ∀ R : List V → Hp → Prop, R (refs (js.map CL)) H → tt σ H R) (q : ∀ (p : Addr) (H' : Hp), Same H H' → H' p = some (.tup [.str "else", .bl false]) → Q (.ref p) H') :
    tTup (tCons (tC (.str "else")) (tCons (tCB (rIsXT K a (.ref (CL i)) (some dd)) (tCons (tVar 1) (tCons (tTup tt) tNil))) tNil)) σ H Q := by
  refine ⟨_, h1, ht _ ⟨?_, fun tp htp => ?_⟩⟩
  · exact Nat.le_of_lt (small1000 (by rw [List.length_map, List.length_map]; omega))
  · have s1 := Same.new (o := .tup (refs (js.map CL))) htp
    refine ⟨CL i, dd, tp, js.map CL, false, fs, rfl, rfl, rfl, C.exc, upd_same, kit_nots fun b m => ?_, s1 _ _ hd, two_le, fun p hp => q p _ (s1.trans (Same.new hp)) upd_same⟩
    obtain ⟨j, hj, rfl⟩ := List.mem_map.mp m
    rw [C.kits j (hjs j hj).1, decide_eq_false (hjs j hj).2]
theorem lst_one {t : TE} {σ : L2.St} {H : Hp} {Q : VK} (h : t σ H fun v H1 => 1 ≤ sizeLine ∧ ∀ a, H1 a = none → Q (.ref a) (upd H1 a (.lst [v]))) : tLst (tCons t tNil) σ H Q := h
/-- .. behind what is there -/
theorem catO {K : PySem.W.Frag} {CL : Nat → Addr} {RE a dd : Addr} {i : Nat} {js : List Nat} {tt : TA} {σ : L2.St} {H : Hp} {Q : VK} {fs : List (Str × V)} {L : Addr} {as : List Addr} {ps : List (Str × Bool)} (C : SaidC K CL RE i) (hjs : ∀ j ∈ js, j < 19 ∧ i ≠ j) (hl : js.length ≤ 10) (h1 : σ[1]? = some (some (.ref a))) (h4 : σ[4]? = some (some (.ref L))) (hd : H dd = some (.xd fs))
    (ht : ∀ R : List V → Hp → Prop, R (refs (js.map CL)) H → tt σ H R) (hL : H L = some (.lst (refs as))) (hK : KS H as ps) (hn : as.length ≤ 20) (q : ∀ (l : Addr) (bs : List Addr) (H' : Hp), Same H H' → H l = none → H' l = some (.lst (refs bs)) → KS H' bs (ps ++ [(("else" : Str), false)]) → Q (.ref l) H') :
    tOp (rCatS K) (tVar 4) (tLst (tCons (tTup (tCons (tC (.str "else")) (tCons (tCB (rIsXT K a (.ref (CL i)) (some dd)) (tCons (tVar 1) (tCons (tTup tt) tNil))) tNil))) tNil)) σ H Q := by
  refine ⟨_, h4, ?_⟩
  refine lst_one ?_
  refine otherS C hjs hl h1 hd ht fun p H1 s1 hp => ⟨by show 1 ≤ sizeLine; decide, fun l hl1 => ?_⟩
  have s2 := Same.new (o := .lst [V.ref p]) hl1
  refine ⟨L, l, _, _, rfl, rfl, SqL.of ((s1.trans s2) _ _ hL), upd_same, Nat.le_of_lt (small1000 (by rw [List.length_map]; show _ + 1 ≤ 1000; omega)), fun l2 hl2 => ?_⟩
  have s3 := Same.new (o := .lst (refs as ++ [V.ref p])) hl2
  have s123 := s1.trans (s2.trans s3)
  refine q l2 (as ++ [p]) _ s123 ((s1.trans s2).free hl2) ?_ ((hK.mono s123).app (.cons ((s2.trans s3) _ _ hp) .nil (p := ("else", false))))
  rw [upd_same, refs_app]
  rfl
end One
end P_V3

section P_V9
set_option linter.all false
set_option maxRecDepth 100000
set_option maxHeartbeats 8000000
namespace One
open PySem PySem.Spec PyProof.Rows L2
/-! ### yards that are refused: a list, and the lines from the last to the first -/
theorem wrong_of {C0 : Addr} {E : XK} {H H' : Hp} {p : Addr} {ns : List Nat} (h : RWrong C0 E H ns) (s : Same H H') (hp : H' p = some (.tup (nats ns))) (hl : ns.length ≤ 100) (hs : ∀ n ∈ ns, n < 1000) : Wrong C0 E (.ref p) H' :=
  ⟨p, ns, rfl, hp, hl, hs, fun d hd => h _ p d (s.trans (Same.new hd)) ((Same.new hd) _ _ hp) upd_same⟩
theorem bad_list {C0 q : Addr} {E : XK} {H : Hp} {xs : List V} (hq : H q = some (.lst xs)) (h : RWrong C0 E H []) : BadY C0 (.ref q) H E :=
  ⟨_, rfl, .inl ⟨.inl ⟨"list", .lst hq, by decide⟩, fun H' p s hp => wrong_of h s hp (Nat.zero_le _) (fun n hn => absurd hn (by simp))⟩⟩
theorem goF_rev {n : Nat} {ps : List (Nat × Nat)} (Y : Yard n ps) : goF 0 [] none (ps.reverse.map some) = some 1 := by
  have hl : ps.reverse.length = 2 * n := by rw [List.length_reverse, Y.lines.len]
  have up := List.pairwise_reverse.mpr Y.up
  have pos := Y.pos
  match hr : ps.reverse, hl, up with
  | [], hl, _ => simp at hl; omega
  | [_], hl, _ => simp at hl; omega
  | a :: b :: r, _, up =>
    have lt : ltP b a := (List.pairwise_cons.mp up).1 b (List.mem_cons_self ..)
    have le : leB b a = true := by
      unfold ltP at lt
      unfold leB
      rw [Bool.or_eq_true, Bool.and_eq_true, decide_eq_true_eq, decide_eq_true_eq, decide_eq_true_eq]
      omega
    show (if notUp a none || ([] : List Nat).contains a.1 || ([] : List Nat).contains a.2 then some 0 else goF 1 ([] ++ [a.1, a.2]) (some a) (some b :: r.map some)) = some 1
    have e1 : (notUp a none || ([] : List Nat).contains a.1 || ([] : List Nat).contains a.2) = false := rfl
    rw [e1, if_neg (by decide)]
    show (if leB b a || _ || _ then some 1 else _) = some 1
    rw [le]
    rfl
theorem PL.rev {H : Hp} {as : List Addr} {ps : List (Nat × Nat)} (h : PL H as ps) : PL H as.reverse ps.reverse := by
  induction h with
  | nil => exact .nil
  | @cons a p as ps h1 _ ih =>
    rw [List.reverse_cons, List.reverse_cons]
    exact ih.app (.cons h1 .nil)
theorem bad_rev {C0 y q : Addr} {E : XK} {H : Hp} {n : Nat} {ps : List (Nat × Nat)} {as : List Addr} (Y : Yard n ps) (hP : PL H as ps) (h40 : n ≤ 40) (hq : H q = some (.tup (refs as).reverse)) (h : RWrong C0 E H [1]) : BadY C0 (.ref q) H E := by
  have er : (refs as).reverse = refs as.reverse := by
    unfold refs
    rw [List.map_reverse]
  rw [er] at hq
  have hl : (refs as.reverse).length = 2 * n := by rw [List.length_map, List.length_reverse, hP.len, Y.lines.len]
  have hpos := Y.pos
  refine ⟨_, rfl, .inr ⟨q, refs as.reverse, ps.reverse.map some, rfl, hq, ?_, ?_, fun k hk => ?_, fun hno => ?_⟩⟩
  · unfold canBe
    rw [hl]
    simp only [Bool.and_eq_true, decide_eq_true_eq]
    omega
  · rw [hl]
    refine il_of hP.rev fun p m => ?_
    have m := List.mem_reverse.mp m
    exact ⟨(Y.lt p m).1, by have := (Y.lt p m).2; omega⟩
  · rw [goF_rev Y] at hk
    cases hk
    exact fun H' p s hp => wrong_of h s (ns := [1]) hp (by show 1 ≤ 100; decide) (fun n hn => by rw [List.mem_singleton.mp hn]; decide)
  · rw [goF_rev Y] at hno
    cases hno
end One
end P_V9

section P_V4
set_option linter.all false
set_option maxRecDepth 100000
set_option maxHeartbeats 16000000
namespace One
open PySem PySem.Spec PyProof.Rows L2
section
variable {X : Cx}
theorem takes_len {W : WX} (tk : Takes X W) : Takes X fun cls d σ H => σ.length = X.N.length → W cls d σ H := fun u s' ⟨a, B, sI, pins, σ, H, cls, d, e, I, nb, up, sky, na, os, ag, w⟩ => tk u s' ⟨a, B, sI, pins, σ, H, cls, d, e, I, nb, up, sky, na, os, ag, w I.len⟩
def RSaid (K : PySem.W.Frag) (CL : Nat → Addr) (RE a : Addr) (cls : Value) (d : Option Addr) : TS := fun D σ H => ∃ (i : Nat) (dd : Addr) (v : V), SaidC K CL RE i ∧ cls = .ref (CL i) ∧ d = some dd ∧ H dd = some (.xd [("place", v)]) ∧
  (∀ (H' : Hp) (u : Addr), Same H H' → H' u = some (.tup [.str (wordS i), v]) → D.rt (.ref u) H') ∧ σ.length = 8 ∧ σ[1]? = some (some (.ref a))
theorem said_gives {CL : Nat → Addr} {RE g : Addr} {cdg : Value} {q : Str} {k : Nat} (T : TB X.mg) (Nm : SaidN X.mg CL RE) (hr : Room k X.A) :
    LamX.GivesTo X nSaid "_law_said" (defScope sSaid) g cdg (defBody sSaid) "deed" q (TTsaid X.K CL RE) := by
  intro f c' s H Q tl act hc h
  have nd := scSaid.nd
  let cx : Cx := cxOf C8.CX0 X.prog X.w X.K X.mg X.base nSaid "_law_said" (defScope sSaid) g cdg X.A X.stack s H C8.E0
  have hu : (X.A.deeper (envOfC "_law_said" (defScope sSaid) s.heap.objs.size g cdg)).units + 64 < cLine := by
    show X.A.units + 3 + 64 < cLine
    have := hr.un
    omega
  have gl : ∀ {x : Str}, (defScope sSaid).names.lookup x = some .globalImplicit → Gl cx.nox x := fun h => h
  have iw : ∀ {a : Addr} {oe : Obj} {cls : Value} {d : Option Addr} {pn : List (Addr × Obj)} {w x : Str} {j n : Nat} {p0 p1 p2 p3 p4 p5 : Pos} (hz : Zc cls d oe) (hf : ∃ vs, oe.data = .fields vs) (hx : (defScope sSaid).names.lookup x = some .globalImplicit) (hm : X.mg x = some (.ref (CL j))) (hdb : (x == ("__debug__" : Str)) = false),
      PE (cx.nox.tr ((a, oe) :: pn) cx.nox.xe) (.Tuple [.Constant (.str w) n p0, .Call (.Name "isinstance" p1) [.Name "caught" p2, .Name x p3] [] p4] 0 p5) (tIsS X.K CL a cls d w j) := fun hz hf hx hm hdb =>
    pe_tup (pa_cons pe_str (pa_cons (pe_callB (cr_isX hz hf) (gl (by decide +kernel)) T.isinstance boot_isinstance (pa_cons (pv 1) (pa_cons (pe_glob (v := .ref (CL _)) (gl hx) hm rfl hdb) pa_nil))) pa_nil))
  have nam : ∀ {a : Addr} {oe : Obj} {pn : List (Addr × Obj)} {x : Str} {j : Nat} {p : Pos} (hx : (defScope sSaid).names.lookup x = some .globalImplicit) (hm : X.mg x = some (.ref (CL j))) (hdb : (x == ("__debug__" : Str)) = false),
      PE (cx.nox.tr ((a, oe) :: pn) cx.nox.xe) (.Name x p) (tC (.ref (CL j))) := fun hx hm hdb => pe_glob (v := .ref (CL _)) (gl hx) hm rfl hdb
  have ixl : ∀ {a : Addr} {oe : Obj} {pn : List (Addr × Obj)}, IxR (cx.nox.tr ((a, oe) :: pn) cx.nox.xe) (rIxL X.K) := ix_list
  have opc : ∀ {a : Addr} {oe : Obj} {pn : List (Addr × Obj)}, OpR (cx.nox.tr ((a, oe) :: pn) cx.nox.xe) (binaryOp .Add) (rCatS X.K) := op_catS
  have eqd : ∀ {a : Addr} {oe : Obj} {pn : List (Addr × Obj)}, OpR (cx.nox.tr ((a, oe) :: pn) cx.nox.xe) (compareOp .Eq) (rEqD X.K) := op_eqD (by exact hu)
  have lenc : ∀ {a : Addr} {oe : Obj} {pn : List (Addr × Obj)}, CallR (cx.nox.tr ((a, oe) :: pn) cx.nox.xe) (.builtin "len") (fun xs H Q => ∃ p ys, xs = [.ref p] ∧ (SqL X.K H p ys ∨ SqT X.K H p ys) ∧ Q (.int ys.length) H) := call_len_seq
  have pil : ∀ {a : Addr} {oe : Obj} {pn : List (Addr × Obj)} {tg : Expr} {p : Pos}, PI (cx.nox.tr ((a, oe) :: pn) cx.nox.xe) tg (.Name "some" p) (iList X.K (tVar 4)) := pi_list (pv 4)
  have fld : ∀ {a : Addr} {oe : Obj} {cls : Value} {d : Option Addr} {pn : List (Addr × Obj)} {n : Str} {p0 p1 : Pos} (hz : Zc cls d oe) (hf : ∃ vs, oe.data = .fields vs), PE (cx.nox.tr ((a, oe) :: pn) cx.nox.xe) (.Attribute (.Name "caught" p0) n p1) (tFld X.K a cls d n (tVar 1)) := fun hz hf => pe_fld hz hf (pv 1)
  have hE : ∀ (a : Addr) (oe : Obj) (cls : Value) (d : Option Addr) (pn : List (Addr × Obj)), Zc cls d oe → (∃ vs, oe.data = .fields vs) → PSs (cx.nox.tr ((a, oe) :: pn) cx.nox.xe) ((defBody sSaid).drop 2) (RSaid X.K CL RE a cls d) := fun a oe cls d pn hz hf => by
    obtain ⟨t, ht, hm⟩ : ∃ t, PSs (cx.nox.tr ((a, oe) :: pn) cx.nox.xe) ((defBody sSaid).drop 2) t ∧ ∀ D σ H, RSaid X.K CL RE a cls d D σ H → t D σ H := by
      refine ⟨_, (pss_cons (ps_if (pt_cmpR op_isN (pv 1) pe_non (nomark _)) (pss_one (ps_ret (pv 2))) pss_nil)
      (pss_cons (ps_set (i := 4) nd rfl (Or.inl rfl) (pe_lst (pa_cons (iw (j := 0) hz hf (by decide +kernel) Nm.c0 (by decide +kernel)) (pa_cons (iw (j := 1) hz hf (by decide +kernel) Nm.c1 (by decide +kernel)) pa_nil))))
      (pss_cons (ps_set (i := 4) nd rfl (Or.inl rfl) (pe_op opc (pv 4) (pe_lst (pa_cons (iw (j := 2) hz hf (by decide +kernel) Nm.c2 (by decide +kernel)) (pa_cons (iw (j := 3) hz hf (by decide +kernel) Nm.c3 (by decide +kernel)) pa_nil)))))
      (pss_cons (ps_set (i := 4) nd rfl (Or.inl rfl) (pe_op opc (pv 4) (pe_lst (pa_cons (iw (j := 4) hz hf (by decide +kernel) Nm.c4 (by decide +kernel)) (pa_cons (iw (j := 5) hz hf (by decide +kernel) Nm.c5 (by decide +kernel)) pa_nil)))))
      (pss_cons (ps_set (i := 4) nd rfl (Or.inl rfl) (pe_op opc (pv 4) (pe_lst (pa_cons (pe_tup (pa_cons pe_str (pa_cons (pe_callB (cr_isXT hz hf) (gl (by decide +kernel)) T.isinstance boot_isinstance (pa_cons (pv 1) (pa_cons (pe_tup
              (pa_cons (nam (j := 6) (by decide +kernel) Nm.c6 (by decide +kernel)) (pa_cons (nam (j := 7) (by decide +kernel) Nm.c7 (by decide +kernel)) (pa_cons (nam (j := 8) (by decide +kernel) Nm.c8 (by decide +kernel)) (pa_cons (nam (j := 9) (by decide +kernel) Nm.c9 (by decide +kernel)) (pa_cons (nam (j := 10) (by decide +kernel) Nm.c10 (by decide +kernel))
                (pa_cons (nam (j := 11) (by decide +kernel) Nm.c11 (by decide +kernel)) pa_nil))))))) pa_nil))) pa_nil))) pa_nil))))
      (pss_cons (ps_set (i := 4) nd rfl (Or.inl rfl) (pe_op opc (pv 4) (pe_lst (pa_cons (pe_tup (pa_cons pe_str (pa_cons (pe_callB (cr_isXT hz hf) (gl (by decide +kernel)) T.isinstance boot_isinstance (pa_cons (pv 1) (pa_cons (pe_tup
              (pa_cons (nam (j := 12) (by decide +kernel) Nm.c12 (by decide +kernel)) (pa_cons (nam (j := 13) (by decide +kernel) Nm.c13 (by decide +kernel)) (pa_cons (nam (j := 14) (by decide +kernel) Nm.c14 (by decide +kernel)) pa_nil)))) pa_nil))) pa_nil))) pa_nil))))
      (pss_cons (ps_set (i := 4) nd rfl (Or.inl rfl) (pe_op opc (pv 4) (pe_lst (pa_cons (pe_tup (pa_cons pe_str (pa_cons (pe_callB (cr_isXT hz hf) (gl (by decide +kernel)) T.isinstance boot_isinstance (pa_cons (pv 1) (pa_cons (pe_tup
              (pa_cons (nam (j := 15) (by decide +kernel) Nm.c15 (by decide +kernel)) (pa_cons (nam (j := 16) (by decide +kernel) Nm.c16 (by decide +kernel)) (pa_cons (nam (j := 17) (by decide +kernel) Nm.c17 (by decide +kernel)) (pa_cons (nam (j := 18) (by decide +kernel) Nm.c18 (by decide +kernel)) pa_nil))))) pa_nil))) pa_nil))) pa_nil))))
      (pss_cons (ps_setLc (i := 5) (own := [("word", 6), ("fits", 7)]) (g := gTup X.K 2 (gCons (gName 6) (gCons (gName 7) gNil))) (tt := tB (tVar 7)) (te := tVar 6) rfl nd rfl rfl (sw_true rfl rfl rfl (by decide +kernel)) pil (blkOk_by (N := nSaid) (sc := defScope sSaid) (by decide +kernel))
              (fun _ _ _ _ _ => pg_tup rfl (pgs_cons (pg_name (i := 6) nd rfl (Or.inl rfl)) (pgs_cons (pg_name (i := 7) nd rfl (Or.inl rfl)) pgs_nil))) (fun _ _ _ _ _ => pts_one (pt_val (pv 7))) (fun _ _ _ _ _ => pv 6))
      (pss_cons (ps_if (PW.pt (pw_or (pt_cmpR op_ne (pe_callB lenc (gl (by decide +kernel)) T.len PySem.boot_len (pa_cons (pv 5) pa_nil)) pe_int (nomark _))
              (pw_or (pt_cmpR eqd (pv 5) (pe_lst (pa_cons pe_str pa_nil)) (nomark _))
              (pw_or1 (pt_not (pt_val (pe_callB (cr_isX hz hf) (gl (by decide +kernel)) T.isinstance boot_isinstance (pa_cons (pv 1) (pa_cons (pe_bltn (v := .ty "ValueError") (gl (by decide +kernel)) Nm.ve PyProof.Rows.Boot.«ValueError» rfl) pa_nil))))))))) (pss_one (ps_ret pe_str)) pss_nil)
      (pss_one (ps_ret (pe_tup (pa_cons (pe_ix ixl (pv 5) pe_int (fun _ _ => rfl)) (pa_cons (fld hz hf) pa_nil)))))))))))))), ?_⟩
      rintro D σ H1 ⟨i, dd, v, C, rfl, rfl, hd, k, hl, h1⟩
      obtain ⟨s0, s1, s2, s3, s4, s5, s6, s7, rfl⟩ : ∃ s0 s1 s2 s3 s4 s5 s6 s7, σ = [s0, s1, s2, s3, s4, s5, s6, s7] := by
        match σ, hl with
        | [s0, s1, s2, s3, s4, s5, s6, s7], _ => exact ⟨s0, s1, s2, s3, s4, s5, s6, s7, rfl⟩
      cases h1
      refine ⟨_, rfl, rfl, _, rfl, iteF ?_⟩
      unfold tNext tSeq tAsg
      dsimp only
      refine pairS (j1 := 0) (j2 := 1) C (by decide) (by decide) (by rfl) hd fun l1 q1 q2 H2 z2 f2 e2 k2 => ?_
      have hd2 := z2 _ _ hd
      show tOp (rCatS X.K) _ _ _ _ _
      refine catS (j1 := 2) (j2 := 3) C (by decide) (by decide) (by rfl) (by rfl) hd2 e2 k2 (by rw [k2.len]; exact Nat.le_of_ble_eq_true rfl) fun l2 b2 H3 z3 f3 e3 k3 => ?_
      have hd3 := z3 _ _ hd2
      show tOp (rCatS X.K) _ _ _ _ _
      refine catS (j1 := 4) (j2 := 5) C (by decide) (by decide) (by rfl) (by rfl) hd3 e3 k3 (by rw [k3.len]; exact Nat.le_of_ble_eq_true rfl) fun l3 b3 H4 z4 f4 e4 k4 => ?_
      have hd4 := z4 _ _ hd3
      have lt := C.lt
      show tOp (rCatS X.K) _ _ _ _ _
      refine catO (js := [6, 7, 8, 9, 10, 11]) C (fun j hj => ?_) (by decide) (by rfl) (by rfl) hd4 (fun R h => h) e4 k4 (by rw [k4.len]; exact Nat.le_of_ble_eq_true rfl) fun l5 b5 H5 z5 f5 e5 k5 => ?_
      · simp only [List.mem_cons, List.not_mem_nil, or_false] at hj
        omega
      have hd5 := z5 _ _ hd4
      show tOp (rCatS X.K) _ _ _ _ _
      refine catO (js := [12, 13, 14]) C (fun j hj => ?_) (by decide) (by rfl) (by rfl) hd5 (fun R h => h) e5 k5 (by rw [k5.len]; exact Nat.le_of_ble_eq_true rfl) fun l6 b6 H6 z6 f6 e6 k6 => ?_
      · simp only [List.mem_cons, List.not_mem_nil, or_false] at hj
        omega
      have hd6 := z6 _ _ hd5
      show tOp (rCatS X.K) _ _ _ _ _
      refine catO (js := [15, 16, 17, 18]) C (fun j hj => ?_) (by decide) (by rfl) (by rfl) hd6 (fun R h => h) e6 k6 (by rw [k6.len]; exact Nat.le_of_ble_eq_true rfl) fun l4 bs H9 z7 f7 e9 k9 => ?_
      · simp only [List.mem_cons, List.not_mem_nil, or_false] at hj
        omega
      have hd9 := z7 _ _ hd6
      have s9 := z2.trans (z3.trans (z4.trans (z5.trans (z6.trans z7))))
      have k9 : KS H9 bs (someS i) := k9
      have lbs : bs.length = 9 := k9.len
      refine ⟨_, rfl, l4, rfl, ⟨_, SqL.of e9⟩, fun D' hD => ?_⟩
      have sD := Same.new (o := .lst []) hD
      refine lc_it (walk_list (K := X.K) (a := l4) (xs := refs bs)) (fun n H6 => ∃ acc : List V, H6 D' = some (.lst acc) ∧ acc = (((someS i).take n).filter (·.2)).map (fun p => V.str p.1) ∧ n ≤ 9 ∧ Same H9 H6) ⟨[], upd_same, rfl, Nat.zero_le _, sD⟩ (fun n H6 _ ⟨_, _, _, _, s6⟩ => SqL.of (s6 _ _ e9)) ?_ ?_
      · rintro n x HA HB hn ⟨acc, hDA, ea, h10, sA⟩ ⟨rfl, hx⟩
        have hn8 : n < 9 := by rw [List.length_map, lbs] at hn; exact hn
        have hx : (refs bs)[n]? = some x := hx
        rw [List.getElem?_map, List.getElem?_eq_getElem (by omega : n < bs.length)] at hx
        cases hx
        obtain ⟨p, hp, hpa⟩ := k9.get (List.getElem?_eq_getElem (by omega : n < bs.length))
        have h6 := sA _ _ hpa
        have step : (someS i).take (n + 1) = (someS i).take n ++ [p] := by
          rw [List.take_succ, hp]
          rfl
        refine ⟨_, _, rfl, SqT.of h6, rfl, _, _, rfl, _, _, rfl, rfl, rfl, ?_⟩
        refine ⟨_, rfl, _, rfl, ?_⟩
        refine ite2 (fun hb => ?_) (fun hb => ?_)
        · have hlen : acc.length ≤ 9 := by
            rw [ea, List.length_map]
            exact Nat.le_trans (List.length_filter_le _ _) (by rw [List.length_take]; omega)
          refine ⟨_, rfl, acc, hDA, small1000 (by omega), acc ++ [V.str p.1], upd_same, ?_, by omega, fun b o e => ?_⟩
          · rw [step, List.filter_append, List.map_append, ← ea]
            have : [p].filter (·.2) = [p] := by rw [List.filter_cons, if_pos hb, List.filter_nil]
            rw [this]
            rfl
          · rw [upd_ne (ne_of_none e hD)]
            exact sA _ _ e
        · refine ⟨acc, hDA, ?_, by omega, sA⟩
          rw [step, List.filter_append]
          have : [p].filter (·.2) = [] := by rw [List.filter_cons, if_neg hb, List.filter_nil]
          rw [this, List.append_nil]
          exact ea
      · rintro HA ⟨acc, hDA, ea, _, sA⟩
        have e10 : (refs bs).length = 9 := by rw [List.length_map, lbs]
        rw [e10, show (someS i).take 9 = someS i from rfl, some_one i C.lt] at ea
        have ea : acc = [V.str (wordS i)] := ea
        subst ea
        have hdA := sA _ _ hd9
        have s1A := s9.trans sA
        refine ⟨_, rfl, D', _, rfl, .inl (SqL.of hDA), rfl, _, rfl, ?_⟩
        refine ite2 (fun hb => absurd hb (by simp)) fun _ => ?_
        refine ⟨_, rfl, (by show 1 ≤ sizeLine; decide), fun o ho => ?_⟩
        have so := Same.new (o := .lst [V.str "else"]) ho
        have hDo := so _ _ hDA
        refine ⟨.list [.str (wordS i)], .list [.str "else"], .lst (SqL.of hDo) (.cons (.str _) .nil), .lst (SqL.of upd_same) (.cons (.str _) .nil), word_shaped i C.lt, by decide +kernel, _, rfl, ?_⟩
        rw [word_other i C.lt]
        refine iteF ?_
        have hdo := so _ _ hdA
        have s1o := s1A.trans so
        generalize upd HA o (.lst [V.str "else"]) = HO' at so hDo hdo s1o
        refine ⟨_, rfl, CL i, dd, .ty "ValueError", .type "ValueError", true, _, rfl, rfl, rfl, C.exc, fun u r => r, C.ve, hdo, true, rfl, iteF ?_⟩
        refine ⟨_, rfl, D', _, 0, _, rfl, rfl, SqL.of hDo, rfl, ?_⟩
        exact ⟨_, rfl, CL i, dd, _, v, rfl, rfl, rfl, C.xf, C.no, hdo, look_one, two_le, fun u hu => k _ u (s1o.trans (Same.new hu)) upd_same⟩
    exact ⟨fun pins s σ H D I h => ht.run pins s σ H D I (hm D σ H h)⟩
  refine ⟨_, pss_cons (ps_asg (pe_tup (pa_cons pe_non (pa_cons pe_non pa_nil))) (pg_tup rfl (pgs_cons (pg_name (i := 1) nd rfl (Or.inl rfl)) (pgs_cons (pg_name (i := 2) nd rfl (Or.inl rfl)) pgs_nil)))) (pss_hold (X := cx.nox) (rest := (defBody sSaid).drop 2) (i := 3) (j := 1) (c := .ref RE) (Wout := fun _ _ _ _ => False)
    (tb := fun W D σ H => ∃ Ech : XK, (∀ cls d σ' H', Ech cls d H' → σ'.length = 8 → W cls d σ' H') ∧ σ[0]? = some (some (.ref f)) ∧ H c' = some (LamX.CodeO c' q) ∧ tl Ech H fun v H' => 1 ≤ sizeLine ∧ ∀ u, H' u = none → D.nx (σ.set 2 (some (.ref u))) (upd H' u (.lst [v])))
    rfl rfl nd rfl rfl rfl rfl ⟨gl (by decide +kernel), by decide +kernel, .inl Nm.re⟩ LamX.takes0 (by decide +kernel) (by decide +kernel) (fun W pn xe tk _ => ?_)
    (pss_cons (ps_if (pt_cmpR op_isN (pv 1) pe_non (nomark _)) (pss_one (ps_ret (pv 2))) pss_nil) pss_never)
    hE), ?_⟩
  · exact ⟨fun pins s' σ H' D I ⟨Ech, hW, h1, h2, h3⟩ => (pss_one (ps_set (i := 2) nd rfl (Or.inl rfl) (pe_lst (pa_cons (act (fun cls d σ H => σ.length = 8 → W cls d σ H) pn xe Ech _ _ (takes_len tk) hW) pa_nil)))).run pins s' σ H' D I ⟨h1, h2, h3⟩⟩
  · refine ⟨two_le, fun t0 ht0 => ⟨t0, _, rfl, SqT.of upd_same, rfl, _, _, rfl, _, _, rfl, rfl, ?_⟩⟩
    have st := Same.new (o := .tup [V.non, V.non]) ht0
    refine ⟨XSaid X.K CL RE Q, fun cls d σ' H1 hx hl => ?_, rfl, st _ _ hc, h _ _ st fun v H' hq => ?_⟩
    · obtain ⟨i, dd, v, C, rfl, rfl, hd, hk⟩ := hx
      refine ⟨true, C.exm, fun _ a ha => ?_, fun z => nomatch z⟩
      obtain ⟨s0, s1, s2, s3, s4, s5, s6, s7, rfl⟩ : ∃ s0 s1 s2 s3 s4 s5 s6 s7, σ' = [s0, s1, s2, s3, s4, s5, s6, s7] := by
        match σ', hl with
        | [s0, s1, s2, s3, s4, s5, s6, s7], _ => exact ⟨s0, s1, s2, s3, s4, s5, s6, s7, rfl⟩
      exact ⟨i, dd, v, C, rfl, rfl, hd, hk, rfl, rfl⟩
    · exact ⟨by show 1 ≤ sizeLine; decide, fun u hu => ⟨_, rfl, rfl, _, rfl, iteT ⟨_, rfl, hq u hu⟩⟩⟩
end
end One
end P_V4

section P_V7
set_option linter.all false
set_option maxRecDepth 100000
set_option maxHeartbeats 4000000
namespace HT
open PySem PySem.Spec PyProof.Rows
section
variable {A : Around} {prog : Program} {w : World} {s : Shared} {E : Value → Shared → Prop}
theorem sliceApplied_rev {sl : Addr} {u : Tok} {n : Nat} {Q : Int × Int × Nat → Shared → Prop} (hs : s.heap.IsSliceOf sl .none .none (.int (-1) u)) (h : Q ((n : Int) - 1, -1, n) s) : wpAny (model prog w) A (Builtin.Slice.sliceApplied (.ref sl) (pure (n : Int))) Q E s := by
  have ⟨os, ho1, hc1, hd1⟩ := hs
  unfold Builtin.Slice.sliceApplied
  unfold Builtin.Slice.sliceFields
  refine wpAny_bind (wpAny_bind (wpAny_field ho1 hd1 (x := .none) rfl (wpAny_bind (wpAny_field ho1 hd1 (x := .none) rfl (wpAny_bind (wpAny_field ho1 hd1 (x := .int (-1) u) rfl (wpAny_pure ?_)))))))
  refine wpAny_bind (slicePart_ (.int (-1) u) ?_)
  show wpAny _ _ (if ((-1 : Int) == 0) = true then _ else _) _ _ s
  rw [if_neg (by decide)]
  refine wpAny_bind (slicePart_none (wpAny_bind (slicePart_none (wpAny_bind (wpAny_pure ?_)))))
  have e : Builtin.Slice.sliceAdjust none none (-1) (n : Int) = ((n : Int) - 1, -1) := rfl
  show wpAny _ _ (match Builtin.Slice.sliceAdjust none none (-1) (n : Int) with | (lo, hi) => pure (lo, (-1 : Int), Builtin.Slice.slicePlaces lo hi (-1))) _ _ s
  rw [e]
  have e2 : Builtin.Slice.slicePlaces ((n : Int) - 1) (-1) (-1) = n := by
    delta Builtin.Slice.slicePlaces
    rw [if_neg (by decide)]
    simp only [Int.neg_neg, Int.ediv_one]
    split <;> omega
  show wpAny _ _ (pure ((n : Int) - 1, (-1 : Int), Builtin.Slice.slicePlaces ((n : Int) - 1) (-1) (-1))) _ _ s
  rw [e2]
  exact wpAny_pure h
theorem fm_map {f : Nat → Option Value} {g : Nat → Value} : ∀ {l : List Nat}, (∀ m ∈ l, f m = some (g m)) → l.filterMap f = l.map g
  | [], _ => rfl
  | x :: l, h => by
    rw [List.filterMap_cons, h x (List.mem_cons_self ..), List.map_cons, fm_map fun m hm => h m (List.mem_cons_of_mem _ hm)]
theorem pick_rev (xs : Array Value) : ((List.range xs.size).filterMap fun (m : Nat) => xs[(((xs.size : Int) - 1) + (m : Int) * (-1)).toNat]?).toArray = xs.toList.reverse.toArray := by
  congr 1
  refine List.ext_getElem? fun i => ?_
  have e : (List.range xs.size).filterMap (fun (m : Nat) => xs[(((xs.size : Int) - 1) + (m : Int) * (-1)).toNat]?) = (List.range xs.size).map fun m => xs.toList.getD (xs.size - 1 - m) default := by
    refine fm_map fun m hm => ?_
    have hm := List.mem_range.mp hm
    rw [show (((xs.size : Int) - 1) + (m : Int) * (-1)).toNat = xs.size - 1 - m by omega]
    rw [List.getD_eq_getElem?_getD, Array.getElem?_toList, Array.getElem?_eq_getElem (by omega)]
    rfl
  rw [e, List.getElem?_map]
  rcases Nat.lt_or_ge i xs.size with h | h
  · rw [List.getElem?_range h, List.getElem?_reverse (by rw [Array.length_toList]; exact h), Array.length_toList]
    show some (xs.toList.getD (xs.size - 1 - i) default) = _
    rw [List.getD_eq_getElem?_getD, List.getElem?_eq_getElem (by rw [Array.length_toList]; omega)]
    rfl
  · rw [List.getElem?_eq_none (by rw [List.length_range]; exact h), List.getElem?_eq_none (by rw [List.length_reverse, Array.length_toList]; exact h)]
    rfl
theorem getItem_tuple_rev {t sl : Addr} {items : Array Value} {u : Tok} {Q : Value → Shared → Prop} (ht : IsTup s.heap t items) (hs : s.heap.IsSliceOf sl .none .none (.int (-1) u))
    (h : Q (.ref s.heap.objs.size) { s with heap := s.heap.push { cls := .type "tuple", data := .seq items.toList.reverse.toArray } })
    (short : items.size ≤ sizeLine) : wpAny (model prog w) A (getItem (Value.ref t) (Value.ref sl)) Q E s := by
  have fits : sizeOk (.seq items.toList.reverse.toArray) := by
    show items.toList.reverse.toArray.size ≤ sizeLine
    rw [List.size_toArray, List.length_reverse, Array.length_toList]
    omega
  have ⟨os, ho1, hc1, hd1⟩ := hs
  have tySl : s.TypeIs (Value.ref sl) "slice" := ⟨os, ho1, hc1⟩
  unfold getItem
  have slot := PyProof.Rows.slot_tuple_getitem
  have tyT := ht.typeIs
  try with_reducible (refine wpAny_holding ?_)
  first | (refine wpAny_bind (wpAny_pure ?_)) | skip
  refine wpAny_bind (wpAny_sequenceKey tyT (by decide) (wpAny_bind (wpAny_callSpecial?_slot (name := Str.ofString "__getitem__") tyT slot (wpAny_call_entry slot tyT entry_tuple_getitem ?_ (args_tuple_getitem _ _)))))
  show wpAny _ _ (Builtin.Tuple.tupleItemsOf (Value.ref t) >>= _) _ _ s
  refine wpAny_bind (tupleItemsOf_ ht (wpAny_bind (wpAny_typeOf tySl ?_)))
  rw [if_pos (by decide)]
  refine wpAny_bind (sliceApplied_rev hs ?_)
  have unlike : ¬ ((((items.size : Int) - 1) == 0 && (-1 : Int) == 1 && items.size == items.size) = true) := by
    intro q
    simp at q
  show wpAny _ _ (if (((items.size : Int) - 1) == 0 && (-1 : Int) == 1 && items.size == items.size) = true then _ else _) _ _ s
  rw [if_neg unlike, pick_rev]
  have told := wpAny_pure (M := model prog w) (A := A) (E := E) (s := { s with heap := s.heap.push { cls := .type "tuple", data := .seq items.toList.reverse.toArray } }) h
  first
    | exact wpAny_bind (m := Builtin.Tuple.tupleExact _) (wpAny_newObj_type (wpAny_pure ⟨_, rfl, told⟩) fits)
    | exact wpAny_bind (m := Builtin.Tuple.tupleExact _) (wpAny_newObj_type (wpAny_bind (wpAny_pure (wpAny_pure ⟨_, rfl, told⟩))) fits)
    | exact wpAny_bind (wpAny_bind (m := Builtin.Tuple.tupleExact _) (wpAny_newObj_type (wpAny_pure (wpAny_pure ⟨_, rfl, told⟩)) fits))
    | exact wpAny_bind (wpAny_bind (m := Builtin.Tuple.tupleExact _) (wpAny_newObj_type (wpAny_pure ⟨_, rfl, told⟩) fits))
end
end HT
namespace One
open PySem PySem.Spec PyProof.Rows L2
section
variable {X : Cx}
/-! ### t[::-1], t a tuple -/
def tRevT (K : PySem.W.Frag) (te : TE) : TE := fun σ H Q => te σ H fun x H1 => ∃ a xs, x = .ref a ∧ SqT K H1 a xs ∧ ∀ p, H1 p = none → Q (.ref p) (upd H1 p (.tup xs.reverse))
theorem pe_revT {e : Expr} {te : TE} {k : Nat} {p1 p2 p3 pos : Pos} (he : PE X e te) : PE X (.Subscript e (.Slice none none (some (.UnaryOp .USub (.Constant (.int 1) k p1) p2)) p3) pos) (tRevT X.K te) := by
  have hst : PO X (some (.UnaryOp .USub (.Constant (.int 1) k p1) p2)) (tPart (tUn (rU fun i => V.int (-i)) (tC (V.int 1)))) := po_some (pe_un un_neg pe_int)
  refine ⟨fun pins s σ H Q I w0 => Subscript_ (thn (he.run pins s σ H _ I w0) fun v s1 ⟨x, H1, I1, r1, a, xs, ex, hx, q⟩ => ?_)⟩
  subst ex
  cases r1
  have none1 := fun (z : Shared) (G : Hp) (J : Inv X pins σ G z) => (po_none (X := X)).run pins z σ G (fun o G' => o = none ∧ G' = G) J ⟨rfl, rfl⟩
  refine wpAny_Slice (thn (none1 s1 H1 I1) fun vl s2 ⟨l, H2, I2, pl, el, e2⟩ => ?_)
  subst el e2
  refine thn (none1 s2 H2 I2) fun vu s3 ⟨u, H3, I3, pu, eu, e3⟩ => ?_
  subst eu e3
  refine thn (hst.run pins s3 σ H3 (fun o G => o = some (-1) ∧ G = H3) I3 ⟨1, rfl, -1, rfl, rfl, rfl⟩) fun vs s4 ⟨o, H4, I4, ps, eo, e4⟩ => ?_
  subst eo e4
  cases pl
  cases pu
  cases ps with
  | int _ t =>
    have I5 : Inv X pins σ H4 { s4 with heap := s4.heap.push { cls := .type "slice", data := .fields #[.none, .none, .int (-1) t] } } := I4.kept (t' := s4.toks) fun b ob q => Heap.get?_push_of_some _ q
    obtain ⟨its, r, ht, hz⟩ := I5.tuple hx
    have hlen := r.length
    show wpAny (model X.prog X.w) X.A (subscriptTail e (.Slice none none (some (.UnaryOp .USub (.Constant (.int 1) k p1) p2)) p3) (.ref a) (.ref s4.heap.objs.size)) (EP X pins σ Q) X.xe { s4 with heap := s4.heap.push { cls := .type "slice", data := .fields #[.none, .none, .int (-1) t] } }
    refine tail_any (ops := [.ref a, .ref s4.heap.objs.size]) ht.typeIs (PyProof.Rows.slot_tuple_getitem.lookup) ?_ (by with_unfolding_all rfl)
    refine HT.getItem_tuple_rev ht (Heap.IsSliceOf.new _ .none .none (.int (-1) t)) ?_ (by rw [List.size_toArray]; omega)
    refine ⟨.ref _, _, I5.laid (t' := s4.toks) (o := .tup xs.reverse) (fun b ob q => Heap.get?_push_of_some _ q) (Nat.le_refl _) ?_, rfl, q _ (I5.hok.fresh (Nat.le_refl _))⟩
    exact ⟨by rw [List.length_reverse]; exact hz, _, r.reverse, IsTup.new _ _⟩
end
end One
end P_V7

section P_V1
set_option linter.all false
set_option maxRecDepth 100000
set_option maxHeartbeats 4000000
namespace One
open PySem PySem.Spec PyProof.Rows L2
/-! ### repr of anything that the laws hand in: also where empty dicts stand in it -/
mutual
inductive Dq (H : Hp) : V → PyData → Prop
  | non : Dq H .non .none
  | bl (b : Bool) : Dq H (.bl b) (.bool b)
  | int (i : Int) : Dq H (.int i) (.int i)
  | str (x : Str) : Dq H (.str x) (.str x)
  | lst {a : Addr} {xs : List V} {ds : List PyData} : a ≠ sysModules → H a = some (.lst xs) → DqAll H xs ds → Dq H (.ref a) (.list ds)
  | tup {a : Addr} {xs : List V} {ds : List PyData} : H a = some (.tup xs) → DqAll H xs ds → Dq H (.ref a) (.tuple ds)
  | emp {a : Addr} : H a = some (.dK []) → Dq H (.ref a) (.dict [])
inductive DqAll (H : Hp) : List V → List PyData → Prop
  | nil : DqAll H [] []
  | cons {v : V} {vs : List V} {d : PyData} {ds : List PyData} : Dq H v d → DqAll H vs ds → DqAll H (v :: vs) (d :: ds)
end
section
variable {X : Cx} {pins : List (Addr × Obj)} {σ : L2.St} {H : Hp} {s : Shared}
mutual
theorem Dq.reads (I : Inv X pins σ H s) : ∀ (d : PyData) (v : V) (u : Value), Dq H v d → RelV v u → ∃ as, Reads s.heap u d as ∧ sysModules ∉ as
  | .none, _, _, h, r => by
    cases h
    cases r
    exact ⟨_, Reads.none, by simp⟩
  | .bool b, _, _, h, r => by
    cases h
    cases r
    exact ⟨_, Reads.bool b, by simp⟩
  | .int i, _, _, h, r => by
    cases h
    obtain ⟨t, rfl⟩ := r
    exact ⟨_, Reads.int i t, by simp⟩
  | .str x, _, _, h, r => by
    cases h
    obtain ⟨t, rfl⟩ := r
    exact ⟨_, Reads.str x t, by simp⟩
  | .list ds, _, _, h, r => by
    cases h with
    | lst hne hs ha =>
      cases r
      obtain ⟨its, rv, ⟨o, n, ho, hc, _, hd⟩, _⟩ := I.list (SqL.of hs)
      obtain ⟨as, hr, hn⟩ := Dq.readsAll I ds _ its ha rv
      refine ⟨_, Reads.list ho hc hd hr, fun m => ?_⟩
      rcases List.mem_cons.mp m with e | m
      · exact hne e.symm
      · exact hn m
  | .tuple ds, _, _, h, r => by
    cases h with
    | tup hs ha =>
      cases r
      obtain ⟨its, rv, ⟨o, ho, hc, n, hd⟩, _⟩ := I.tuple (SqT.of hs)
      obtain ⟨as, hr, hn⟩ := Dq.readsAll I ds _ its ha rv
      exact ⟨_, Reads.tuple ho hc hd hr, hn⟩
  | .dict kvs, _, _, h, r => by
    cases h with
    | @emp a hs =>
      cases r
      obtain ⟨_, hne, vs, hkv, o, es, ep, ho, hex, hda, _, hp, _⟩ := (show ObjOk X.prog X.w H s.heap a (.dK []) from I.hok a _ hs)
      cases hkv
      have e0 : es.toList = [] := by
        generalize es.toList = l at hp
        cases hp
        rfl
      refine ⟨_, Reads.dict ho hex.1 hda (by rw [e0]; exact .nil) (by rw [e0]; exact .nil), fun m => ?_⟩
      have e : sysModules = a := List.mem_singleton.mp (by simpa using m)
      exact beq_eq_false_iff_ne.mp hne e.symm
theorem Dq.readsAll (I : Inv X pins σ H s) : ∀ (ds : List PyData) (vs : List V) (us : List Value), DqAll H vs ds → Vals vs us → ∃ as, ReadsAll s.heap us ds as ∧ sysModules ∉ as
  | [], _, _, h, r => by
    cases h
    cases r
    exact ⟨_, ReadsAll.nil, by simp⟩
  | d :: ds, _, _, h, r => by
    cases h with
    | cons h1 h2 =>
      cases r with
      | cons r1 r2 =>
        obtain ⟨as, q1, n1⟩ := Dq.reads I d _ _ h1 r1
        obtain ⟨bs, q2, n2⟩ := Dq.readsAll I ds _ _ h2 r2
        exact ⟨_, ReadsAll.cons q1 q2, fun m => (List.mem_append.mp m).elim n1 n2⟩
end
end
def rReprQ (K : PySem.W.Frag) : List V → Hp → VK → Prop := fun xs H Q => ∃ (v : V) (d : PyData), xs = [v] ∧ (Dp K H v d ∧ d.hasDict = false ∨ Dq H v d) ∧ d.showable = true ∧ d.depth ≤ 16 ∧ d.shown.length ≤ sizeLine ∧ Q (.str d.shown) H
theorem cr_reprQ {X : Cx} (hgd : X.A.guards = some []) (hu : X.A.units + 64 < cLine) : CallR X (.builtin "repr") (rReprQ X.K) := by
  intro pins s σ H xs us Q I r h
  obtain ⟨v, d, rfl, hd, h1, h3, h4, q⟩ := h
  obtain ⟨u, rfl, e⟩ := vals1 r
  have rd : ∀ {a : Addr}, u = .ref a → ∃ as, Reads s.heap u d as ∧ (d.hasDict = true → sysModules ∉ as) := fun {a} ea => by
    rcases hd with ⟨hd, hn⟩ | hd
    · obtain ⟨as, hR⟩ := Dp.reads I d _ _ hd e
      exact ⟨as, hR, fun z => Bool.noConfusion (hn.symm.trans z)⟩
    · obtain ⟨as, hR, hn⟩ := Dq.reads I d _ _ hd e
      exact ⟨as, hR, fun _ => hn⟩
  have big : ∀ {a : Addr}, u = .ref a → wpAny (model X.prog X.w) X.A (call (.builtin "repr") [u]) (EP X pins σ Q) X.xe s := fun {a} ea => by
    obtain ⟨as, hR, hn⟩ := rd ea
    subst ea
    exact repr_of_reads' hR h1 hn hgd (by omega) (fun _ _ e => e) (fun h' u tk hk => ⟨.str d.shown, H, I.kept hk, ⟨_, rfl⟩, q⟩) h4
  cases v with
  | non =>
    have ed : d = .none := by
      rcases hd with ⟨hd, _⟩ | hd <;> cases hd <;> rfl
    subst ed
    cases e
    exact PySem.P.repr_of_none ⟨.str _, H, I.tok _, ⟨_, rfl⟩, q⟩
  | bl b =>
    have ed : d = .bool b := by
      rcases hd with ⟨hd, _⟩ | hd <;> cases hd <;> rfl
    subst ed
    cases e
    refine PySem.P.repr_of_bool ⟨.str _, H, I.tok _, ⟨_, rfl⟩, ?_⟩
    cases b <;> exact q
  | int i =>
    have ed : d = .int i := by
      rcases hd with ⟨hd, _⟩ | hd <;> cases hd <;> rfl
    subst ed
    obtain ⟨t, rfl⟩ := e
    exact PySem.P.repr_of_int (of_decide_eq_true h1) ⟨.str _, H, I.tok _, ⟨_, rfl⟩, q⟩
  | str x =>
    have ed : d = .str x := by
      rcases hd with ⟨hd, _⟩ | hd <;> cases hd <;> rfl
    subst ed
    obtain ⟨t, rfl⟩ := e
    exact PySem.P.repr_of_str ⟨.str _, H, I.tok _, ⟨_, rfl⟩, q⟩ h4
  | ref a => exact big e
  | _ => exfalso; rcases hd with ⟨hd, _⟩ | hd <;> cases hd
end One
end P_V1

section P_DA
set_option linter.all false
set_option maxRecDepth 100000
set_option maxHeartbeats 16000000
namespace One
open PySem PySem.Spec PyProof.Rows L2
theorem tup_off {H : Hp} {p a l t : Addr} {n : Nat} {xs : List V} (M : ML H p a l n) (h : H t = some (.tup xs)) : t ≠ p ∧ t ≠ l := by
  obtain ⟨_, _, _, h1, _, h3, _⟩ := M.ex
  exact ⟨ne_of h h1 (by intro z; cases z), ne_of h h3 (by intro z; cases z)⟩
/-- all stays but the dice and the tables -/
def ExtT (p l : Addr) (H H' : Hp) : Prop := ∀ b o, b ≠ p → b ≠ l → (∀ ps, o ≠ .tbl ps) → H b = some o → H' b = some o
theorem ExtT.refl (p l : Addr) (H : Hp) : ExtT p l H H := fun _ _ _ _ _ e => e
theorem ExtT.trans {p l : Addr} {H H1 H2 : Hp} (a : ExtT p l H H1) (b : ExtT p l H1 H2) : ExtT p l H H2 := fun c o x y z e => b c o x y z (a c o x y z e)
theorem ExtT.ofL {p l : Addr} {H H1 : Hp} (a : ExtL p l H H1) : ExtT p l H H1 := fun c o x y _ e => a c o x y e
theorem ExtT.ofS {p l : Addr} {H H1 : Hp} (a : Same H H1) : ExtT p l H H1 := fun c o _ _ _ e => a c o e
theorem ExtT.ofN {p l : Addr} {H H1 : Hp} (a : LamX.ExtN H H1) : ExtT p l H H1 := fun c o _ _ z e => a c o e z
theorem ML.keepN {H H' : Hp} {p a l : Addr} {n : Nat} (M : ML H p a l n) (k : LamX.ExtN H H') : ML H' p a l n := by
  obtain ⟨zs, ds, q, h1, h2, h3, r⟩ := M.ex
  exact ⟨⟨zs, ds, q, k _ _ h1 (fun _ z => nomatch z), k _ _ h2 (fun _ z => nomatch z), k _ _ h3 (fun _ z => nomatch z), r⟩, M.ne, M.nn⟩
/-- the tables stay where only lists and dicts are written -/
theorem tabs_soft {T : List (Addr × Str)} {H H' : Hp} (t : LamX.Tabs T H) (e : ∀ b o, (∀ xs, o ≠ .lst xs) → (∀ kvs, o ≠ .dK kvs) → H b = some o → H' b = some o) : LamX.Tabs T H' := fun q hq => by
  obtain ⟨ps, h1, h2, h3⟩ := t q hq
  refine ⟨ps, e _ _ (fun _ z => nomatch z) (fun _ z => nomatch z) h1, h2, fun pos cv hcv => ?_⟩
  obtain ⟨c', rfl, hc⟩ := h3 pos cv hcv
  exact ⟨c', rfl, e _ _ (fun _ z => nomatch z) (fun _ z => nomatch z) hc⟩
/-- how it stands since -/
structure Since (T : List (Addr × Str)) (p a l : Addr) (n : Nat) (H H' : Hp) : Prop where
  e : ExtT p l H H'
  M : ML H' p a l n
  t : LamX.Tabs T H'
section
variable {T : List (Addr × Str)} {p a l : Addr} {n : Nat} {H H1 H2 : Hp}
theorem Since.refl (M : ML H p a l n) (t : LamX.Tabs T H) : Since T p a l n H H := ⟨fun _ _ _ _ _ e => e, M, t⟩
theorem Since.same (S : Since T p a l n H H1) (s : Same H1 H2) : Since T p a l n H H2 := ⟨S.e.trans (ExtT.ofL (ExtL.same s)), S.M.keep s, S.t.ext s⟩
theorem Since.extn (S : Since T p a l n H H1) (k : LamX.ExtN H1 H2) (t : LamX.Tabs T H2) : Since T p a l n H H2 := ⟨S.e.trans (ExtT.ofN k), S.M.keepN k, t⟩
theorem Since.extl {m : Nat} (S : Since T p a l n H H1) (M : ML H2 p a l m) (e : ExtL p l H1 H2) : Since T p a l m H H2 :=
  ⟨S.e.trans (ExtT.ofL e), M, tabs_soft S.t fun b o n1 n2 h => by
    obtain ⟨_, _, _, h1, _, h3, _⟩ := S.M.ex
    refine e b o (fun z => ?_) (fun z => ?_) h
    · subst z
      exact n2 _ (Option.some.inj (h.symm.trans h1))
    · subst z
      exact n1 _ (Option.some.inj (h.symm.trans h3))⟩
theorem Since.wr {L : Addr} {xs ys : List V} (S : Since T p a l n H H1) (M0 : ML H p a l n) (h0 : H L = none) (h1 : H1 L = some (.lst xs)) : Since T p a l n H (upd H1 L (.lst ys)) :=
  ⟨fun b o x y z e => (upd_ne (ne_of_none e h0)).trans (S.e b o x y z e), ML.wrN M0 h0 S.M, tabs_soft S.t fun b o n1 _ h => by
    refine (upd_ne fun z => ?_).trans h
    subst z
    exact n1 _ (Option.some.inj (h.symm.trans h1))⟩
theorem Since.tup (M0 : ML H p a l n) (S : Since T p a l n H H1) : ∀ b xs, H b = some (.tup xs) → H1 b = some (.tup xs) := fun b xs h => by
  obtain ⟨q1, q2⟩ := tup_off M0 h
  exact S.e _ _ q1 q2 (fun _ z => nomatch z) h
end
/-- a place is told to the catcher -/
theorem said_wrong {K : PySem.W.Frag} {CL : Nat → Addr} {RE : Addr} {H : Hp} {Q : VK} {i : Nat} {ns : List Nat} (R : SaidC K CL RE i) (hQ : ∀ (H' : Hp) (u q : Addr), Same H H' → H' u = some (.tup [.str (wordS i), .ref q]) → H' q = some (.tup (nats ns)) → Q (.ref u) H') :
    RWrong (CL i) (XSaid K CL RE Q) H ns := fun H' q d s hp hd => ⟨i, d, .ref q, R, rfl, rfl, hd, fun H'' u s' hu => hQ H'' u q (s.trans s') hu (s' _ _ hp)⟩
/-- a lambda handed to the catcher -/
theorem lam_go {K : PySem.W.Frag} {CL : Nat → Addr} {RE p a l : Addr} {T : List (Addr × Str)} {n : Nat} {H Hn : Hp} {t : XK → TE} {σ : L2.St} {Q : VK} (S : Since T p a l n H Hn)
    (good : ∀ (Hb : Hp) (R : VK), LamX.ExtN Hn Hb → Since T p a l n H Hb → (∀ v H', (∀ u, H' u = none → Q (.ref u) (upd H' u (.lst [v]))) → R v H') → t (XSaid K CL RE Q) σ Hb R) :
    LamX.tLam T (TTsaid K CL RE) t σ Hn Q :=
  ⟨S.t, fun Ha ea ta Hb R sb hR => good Hb R (ea.trans (LamX.ExtN.of sb)) ((S.extn ea ta).same sb) hR⟩
/-! ### things as data, away from the dice -/
mutual
inductive Da (p l : Addr) (H : Hp) : V → PyData → Prop
  | non : Da p l H .non .none
  | bl (b : Bool) : Da p l H (.bl b) (.bool b)
  | int (i : Int) : Da p l H (.int i) (.int i)
  | str (x : Str) : Da p l H (.str x) (.str x)
  | lst {a : Addr} {xs : List V} {ds : List PyData} : a ≠ p → a ≠ l → a ≠ sysModules → H a = some (.lst xs) → DaAll p l H xs ds → Da p l H (.ref a) (.list ds)
  | tup {a : Addr} {xs : List V} {ds : List PyData} : a ≠ p → a ≠ l → H a = some (.tup xs) → DaAll p l H xs ds → Da p l H (.ref a) (.tuple ds)
  | emp {a : Addr} : a ≠ p → a ≠ l → H a = some (.dK []) → Da p l H (.ref a) (.dict [])
inductive DaAll (p l : Addr) (H : Hp) : List V → List PyData → Prop
  | nil : DaAll p l H [] []
  | cons {v : V} {vs : List V} {d : PyData} {ds : List PyData} : Da p l H v d → DaAll p l H vs ds → DaAll p l H (v :: vs) (d :: ds)
end
mutual
theorem Da.extT {p l : Addr} {H H' : Hp} (e : ExtT p l H H') : ∀ (d : PyData) (v : V), Da p l H v d → Da p l H' v d
  | .none, _, h => by cases h; exact .non
  | .bool _, _, h => by cases h; exact .bl _
  | .int _, _, h => by cases h; exact .int _
  | .str _, _, h => by cases h; exact .str _
  | .list ds, _, h => by
    cases h with
    | lst a b c f g => exact .lst a b c (e _ _ a b (by intro _ z; cases z) f) (DaAll.extT e ds _ g)
  | .tuple ds, _, h => by
    cases h with
    | tup a b f g => exact .tup a b (e _ _ a b (by intro _ z; cases z) f) (DaAll.extT e ds _ g)
  | .dict _, _, h => by
    cases h with
    | emp a b f => exact .emp a b (e _ _ a b (by intro _ z; cases z) f)
theorem DaAll.extT {p l : Addr} {H H' : Hp} (e : ExtT p l H H') : ∀ (ds : List PyData) (vs : List V), DaAll p l H vs ds → DaAll p l H' vs ds
  | [], _, h => by cases h; exact .nil
  | d :: ds, _, h => by
    cases h with
    | cons a b => exact .cons (Da.extT e d _ a) (DaAll.extT e ds _ b)
end
mutual
theorem Da.q {p l : Addr} {H : Hp} : ∀ (d : PyData) (v : V), Da p l H v d → Dq H v d
  | .none, _, h => by cases h; exact .non
  | .bool _, _, h => by cases h; exact .bl _
  | .int _, _, h => by cases h; exact .int _
  | .str _, _, h => by cases h; exact .str _
  | .list ds, _, h => by
    cases h with
    | lst a b c f g => exact .lst c f (DaAll.q ds _ g)
  | .tuple ds, _, h => by
    cases h with
    | tup a b f g => exact .tup f (DaAll.q ds _ g)
  | .dict _, _, h => by
    cases h with
    | emp a b f => exact .emp f
theorem DaAll.q {p l : Addr} {H : Hp} : ∀ (ds : List PyData) (vs : List V), DaAll p l H vs ds → DqAll H vs ds
  | [], _, h => by cases h; exact .nil
  | d :: ds, _, h => by
    cases h with
    | cons a b => exact .cons (Da.q d _ a) (DaAll.q ds _ b)
end
theorem Da.tv {p l : Addr} {H : Hp} {v : V} {d : PyData} (h : Da p l H v d) : ∃ T, TV H v T := by
  cases h with
  | non => exact ⟨_, .non⟩
  | bl b => exact ⟨_, .bl b⟩
  | int i => exact ⟨_, .int i⟩
  | str x => exact ⟨_, .str x⟩
  | lst a b c f g => exact ⟨_, .lst f⟩
  | tup a b f g => exact ⟨_, .tup f⟩
  | emp a b f => exact ⟨_, .dct f⟩
section
variable {p l : Addr} {H : Hp}
theorem DaAll.len {vs : List V} {ds : List PyData} : DaAll p l H vs ds → vs.length = ds.length := by
  induction ds generalizing vs with
  | nil => intro h; cases h; rfl
  | cons d ds ih =>
    intro h
    cases h with
    | cons a b => exact congrArg (· + 1) (ih b)
theorem DaAll.app {vs ws : List V} {ds es : List PyData} (k : DaAll p l H ws es) : DaAll p l H vs ds → DaAll p l H (vs ++ ws) (ds ++ es) := by
  induction ds generalizing vs with
  | nil => intro h; cases h; exact k
  | cons d ds ih =>
    intro h
    cases h with
    | cons a b => exact .cons a (ih b)
theorem DaAll.take {vs : List V} {ds : List PyData} (n : Nat) : DaAll p l H vs ds → DaAll p l H (vs.take n) (ds.take n) := by
  induction ds generalizing vs n with
  | nil => intro h; cases h; rw [List.take_nil, List.take_nil]; exact .nil
  | cons d ds ih =>
    intro h
    cases h with
    | cons a b =>
      cases n with
      | zero => exact .nil
      | succ n => exact .cons a (ih n b)
theorem DaAll.drop {vs : List V} {ds : List PyData} (n : Nat) : DaAll p l H vs ds → DaAll p l H (vs.drop n) (ds.drop n) := by
  induction ds generalizing vs n with
  | nil => intro h; cases h; rw [List.drop_nil, List.drop_nil]; exact .nil
  | cons d ds ih =>
    intro h
    cases h with
    | cons a b =>
      cases n with
      | zero => exact .cons a b
      | succ n => exact ih n b
theorem DaAll.rev {vs : List V} {ds : List PyData} : DaAll p l H vs ds → DaAll p l H vs.reverse ds.reverse := by
  induction ds generalizing vs with
  | nil => intro h; cases h; exact .nil
  | cons d ds ih =>
    intro h
    cases h with
    | cons a b =>
      rw [List.reverse_cons, List.reverse_cons]
      exact DaAll.app (.cons a .nil) (ih b)
theorem DaAll.get {vs : List V} {ds : List PyData} {i : Nat} {v : V} : DaAll p l H vs ds → vs[i]? = some v → ∃ d, ds[i]? = some d ∧ Da p l H v d := by
  induction ds generalizing vs i with
  | nil => intro h e; cases h; simp at e
  | cons d ds ih =>
    intro h e
    cases h with
    | cons a b =>
      cases i with
      | zero =>
        cases e
        exact ⟨_, rfl, a⟩
      | succ i => exact ih b (by simpa using e)
theorem DaAll.got {vs : List V} {ds : List PyData} {i : Nat} {d : PyData} (h : DaAll p l H vs ds) (e : ds[i]? = some d) : ∃ v, vs[i]? = some v ∧ Da p l H v d := by
  have hi := (List.getElem?_eq_some_iff.mp e).1
  obtain ⟨d', e', h'⟩ := h.get (List.getElem?_eq_getElem (by rw [h.len]; exact hi))
  cases e.symm.trans e'
  exact ⟨_, List.getElem?_eq_getElem (by rw [h.len]; exact hi), h'⟩
theorem da_nats : ∀ ns : List Nat, DaAll p l H (nats ns) (ns.map fun x => PyData.int (x : Nat))
  | [] => .nil
  | _ :: ns => .cons (.int _) (da_nats ns)
end
/-! ### how large: what is shown -/
structure Fx (d : PyData) (k n : Nat) : Prop where
  sh : d.showable = true
  dp : d.depth ≤ k
  lf : d.leavesShort 48 = true
  bk : d.bulk ≤ n
structure FxA (ds : List PyData) (k n : Nat) : Prop where
  sh : PyData.showableAll ds = true
  dp : PyData.depthAll ds ≤ k
  lf : PyData.leavesShortAll 48 ds = true
  bk : PyData.bulkAll ds ≤ n
theorem FxA.nil {k n : Nat} : FxA [] k n := ⟨rfl, Nat.zero_le _, rfl, Nat.zero_le _⟩
theorem FxA.cons {d : PyData} {ds : List PyData} {k n m : Nat} (a : Fx d k n) (b : FxA ds k m) : FxA (d :: ds) k (n + 1 + m) := by
  refine ⟨?_, ?_, ?_, ?_⟩
  · show (d.showable && PyData.showableAll ds) = true
    rw [a.sh, b.sh]; rfl
  · show max d.depth (PyData.depthAll ds) ≤ k
    exact Nat.max_le.mpr ⟨a.dp, b.dp⟩
  · show (d.leavesShort 48 && PyData.leavesShortAll 48 ds) = true
    rw [a.lf, b.lf]; rfl
  · show d.bulk + 1 + PyData.bulkAll ds ≤ _
    have := a.bk
    have := b.bk
    omega
theorem FxA.tup {ds : List PyData} {k n : Nat} (a : FxA ds k n) : Fx (.tuple ds) (k + 1) n := ⟨a.sh, Nat.succ_le_succ a.dp, a.lf, a.bk⟩
theorem FxA.lst {ds : List PyData} {k n : Nat} (a : FxA ds k n) : Fx (.list ds) (k + 1) n := ⟨a.sh, Nat.succ_le_succ a.dp, a.lf, a.bk⟩
theorem Fx.up {d : PyData} {k j n m : Nat} (a : Fx d k n) (h : k ≤ j) (h2 : n ≤ m) : Fx d j m := ⟨a.sh, Nat.le_trans a.dp h, a.lf, Nat.le_trans a.bk h2⟩
/-- items of a size each -/
theorem fxA_all {k n : Nat} : ∀ {ds : List PyData}, (∀ d ∈ ds, Fx d k n) → FxA ds k ((n + 1) * ds.length)
  | [], _ => .nil
  | d :: ds, h => by
    have a := FxA.cons (h d (List.mem_cons_self ..)) (fxA_all fun e he => h e (List.mem_cons_of_mem _ he))
    refine ⟨a.sh, a.dp, a.lf, ?_⟩
    have b := a.bk
    rw [List.length_cons, Nat.mul_succ]
    omega
theorem Fx.short {d : PyData} {k n : Nat} (h : Fx d k n) (hn : n ≤ 10000) : d.shown.length ≤ 500048 := by
  have q := PyData.shown_le_bulk 48 (by decide) d h.lf
  have := h.bk
  omega
theorem rq_da {K : PySem.W.Frag} {p l : Addr} {H : Hp} {v : V} {d : PyData} {k n : Nat} {Q : VK} (h : Da p l H v d) (f : Fx d k n) (hk : k ≤ 16) (hn : n ≤ 10000) (q : Q (.str d.shown) H) : rReprQ K [v] H Q :=
  ⟨v, d, rfl, .inr (Da.q d v h), f.sh, Nat.le_trans f.dp hk, Nat.le_trans (f.short hn) (by decide), q⟩
/-! ### list(t), where a list stands that is not the modules' dict -/
section
variable {X : Cx}
def rListN (K : PySem.W.Frag) : List V → Hp → VK → Prop := fun xs H Q => ∃ p ys, xs = [.ref p] ∧ SqT K H p ys ∧ ∀ l, l ≠ sysModules → H l = none → Q (.ref l) (upd H l (.lst ys))
theorem call_listN : CallR X (.type "list") (rListN X.K) := by
  intro pins s σ H xs us Q I r h
  obtain ⟨p, ys, rfl, hq, q⟩ := h
  obtain ⟨u, rfl, rx⟩ := vals1 r
  cases rx
  have fin : ∀ (its : List Value), Vals ys its → ys.length ≤ sizeLine → ∀ (h' : Heap) (c' : Nat), (∀ b o', s.heap.get? b = some o' → h'.get? b = some o') →
      h'.get? s.heap.objs.size = some { cls := .type "list", dict := none, data := .seq its.toArray c', slots := #[] } → EP X pins σ Q (.ref s.heap.objs.size) { s with heap := h' } := fun its r' hz h' c' kp e =>
    ⟨.ref s.heap.objs.size, _, I.laid (t' := s.toks) kp (Nat.le_refl _) (show ObjOk X.prog X.w _ h' _ (.lst ys) from ⟨hz, its, c', r', e⟩), rfl, q _ (Nat.ne_of_gt I.big) (I.hok.fresh (Nat.le_refl _))⟩
  obtain ⟨its, r', pl, hz⟩ := I.tuple hq
  have hlen := r'.length
  obtain ⟨o, ho, hc, n, hd⟩ := pl
  exact call_list_seq p (.inr rfl) ho hc hd (fun h' c' kp e => fin its r' hz h' c' kp e) (by simp only [List.size_toArray] <;> omega)
/-! ### [a, ..] the same -/
def tLstN (t : TA) : TE := fun σ H Q => t σ H fun xs H1 => xs.length ≤ sizeLine ∧ ∀ p, p ≠ sysModules → H1 p = none → Q (.ref p) (upd H1 p (.lst xs))
theorem pe_lstN {es : List Expr} {t : TA} {pos : Pos} (h : PA X es t) : PE X (.List es pos) (tLstN t) := by
  refine ⟨fun pins s σ H Q I hq => ?_⟩
  refine wpAny_List_spliced (thn (h.run pos pins s σ H _ I hq) fun us s1 ⟨xs, H1, I1, r, z, q⟩ => ⟨by rw [← r.length]; exact z, ?_⟩)
  have hf : H1 s1.heap.objs.size = none := I1.hok.fresh (Nat.le_refl _)
  refine ⟨.ref s1.heap.objs.size, upd H1 s1.heap.objs.size (.lst xs), I1.laid (t' := s1.toks) (fun b u e => Heap.get?_push_of_some _ e) (Nat.le_refl _) ?_, rfl, q _ (Nat.ne_of_gt I1.big) hf⟩
  exact ⟨z, us, 0, r, Heap.get?_push_size _ rfl⟩
end
/-! ### the same in own words -/
theorem rq_of {K : PySem.W.Frag} {H : Hp} {xs : List V} {Q : VK} (h : rRepr K xs H Q) : rReprQ K xs H Q := by
  obtain ⟨a, d, e, hd, h1, h2, h3, h4, q⟩ := h
  exact ⟨.ref a, d, e, .inl ⟨hd, h2⟩, h1, h3, h4, q⟩
/-- a statement that does not end, then anything -/
theorem pss_stop {X : Cx} {st : Stmt} {rest : List Stmt} {t : TS} (h1 : PS X st t) : PSs X (st :: rest) (fun D σ H => t { D with nx := fun _ _ => False } σ H) := by
  refine ⟨fun pins s σ H D I h => ?_⟩
  refine wpAny_execs_cons (thn (h1.run pins s σ H { D with nx := fun _ _ => False } I h) fun f s1 q => ?_)
  cases f with
  | next =>
    obtain ⟨σ', H', I', q⟩ := q
    exact q.elim
  | ret v => exact q
  | brk => exact q
  | cont => exact q
end One
end P_DA

section P_KA
set_option linter.all false
set_option maxRecDepth 100000
set_option maxHeartbeats 8000000
namespace One
open PySem PySem.Spec PyProof.Rows L2
abbrev sMR : Stmt := top 48
abbrev sRA : Stmt := top 49
abbrev sMT : Stmt := top 50
abbrev sNX : Stmt := top 51
abbrev sOWy : Stmt := top 54
abbrev nMR : List Str := ["yard", "setting"]
abbrev nRA : List Str := ["yard", "setting", "end", "fars", "ends", "least", "one"]
abbrev nMT : List Str := ["yard", "setting", "crossing", "rounds"]
abbrev nNX : List Str := ["thing", "many"]
abbrev nOWy : List Str := ["yard", "setting", "crossing", "first", "behind"]
theorem scMR : FnScope nMR ["yard", "setting"] (defScope sMR) := ⟨rfl, rfl, rfl, by decide +kernel, rfl, by decide +kernel, by decide +kernel⟩
theorem scRA : FnScope nRA ["yard", "setting", "end"] (defScope sRA) := ⟨rfl, rfl, rfl, by decide +kernel, rfl, by decide +kernel, by decide +kernel⟩
theorem scMT : FnScope nMT ["yard", "setting", "crossing"] (defScope sMT) := ⟨rfl, rfl, rfl, by decide +kernel, rfl, by decide +kernel, by decide +kernel⟩
theorem scNX : FnScope nNX ["thing", "many"] (defScope sNX) := ⟨rfl, rfl, rfl, by decide +kernel, rfl, by decide +kernel, by decide +kernel⟩
theorem scOWy : FnScope nOWy ["yard", "setting", "crossing"] (defScope sOWy) := ⟨rfl, rfl, rfl, by decide +kernel, rfl, by decide +kernel, by decide +kernel⟩
def spRO2 (C0 CS : Addr) : Sp := fun vs H Q E => ∃ (yv sv : V), vs = [yv, sv] ∧ (BadY C0 yv H E ∨ ∃ (y : Addr) (m : Nat) (ps : List (Nat × Nat)), yv = .ref y ∧ YAt H y m ps ∧ m ≤ 40 ∧ (BadW CS sv m H E ∨ ∃ (u : Addr) (ws : List Nat), sv = .ref u ∧ SetAt H u m ws ∧
  ∀ (H' : Hp) (r : Addr) (as : List Addr) (rs : List (Nat × Nat)), Same H H' → H' r = some (.tup (refs as)) → RsAt (nextE (far ps) (wayL ws)) H' as rs → Rounds (far ps) (wayL ws) m rs → Q (.ref r) H'))
def spFR (C0 CS : Addr) : Sp := fun vs H Q E => ∃ (yv sv : V), vs = [yv, sv] ∧ (BadY C0 yv H E ∨ ∃ (y : Addr) (m : Nat) (ps : List (Nat × Nat)), yv = .ref y ∧ YAt H y m ps ∧ m ≤ 40 ∧ BadW CS sv m H E)
/-- a spot of a setting of a yard, and one of the three is refused -/
def Spot (C0 CS CE : Addr) (four : Nat) (yv sv ev : V) (H : Hp) (E : XK) : Prop :=
  BadY C0 yv H E ∨ ∃ (y : Addr) (m : Nat) (ps : List (Nat × Nat)), yv = .ref y ∧ YAt H y m ps ∧ m ≤ 40 ∧ (BadW CS sv m H E ∨ ∃ (u : Addr) (ws : List Nat), sv = .ref u ∧ SetAt H u m ws ∧ (∃ T, TV H ev T) ∧ belowV ev ((four * m : Nat) : Int) = false ∧ RWrong CE E H [])
def spSpot (C0 CS CE : Addr) (four : Nat) : Sp := fun vs H Q E => ∃ (yv sv ev : V), vs = [yv, sv, ev] ∧ Spot C0 CS CE four yv sv ev H E
def spNX2 (CO : Addr) : Sp := fun vs H Q E => ∃ (ev : V) (m : Nat), vs = [ev, .int (m : Nat)] ∧ (∃ T, TV H ev T) ∧ belowV ev (m : Nat) = false ∧ RWrong CO E H []
section
variable {P : Program} {w : World} {K : PySem.W.Frag} {mg : Str → Option Value} {base : Heap} {C0 CS CE CO f2 f6 : Addr} {x2 x6 : Stmt}
theorem ok_ro2 {f fN fR fF : Addr} {fd fdN fdR fdF : FuncData} (F : Fun K "rounds_of" "rounds_of" sRO f fd) (N : Cal K mg "need_setting" fN fdN ["yard", "thing"]) (GN : FnOk P w K mg base (L2.CX P w) 7 fN fdN ["yard", "thing"] (spNS2 C0 CS))
    (Rb : Cal K mg "rounds_by_fars" fR fdR ["fars", "setting"]) (GR : FnOk P w K mg base CX0 4 fR fdR ["fars", "setting"] spRB) (Fa : Cal K mg "fars_of_lines" fF fdF ["lines"]) (GF : FnOk P w K mg base CX0 1 fF fdF ["lines"] spFars) : FnOk P w K mg base (L2.CX P w) 8 f fd ["yard", "setting"] (spRO2 C0 CS) := by
  refine F.okX scRO (fun vs H Q E h => ?_) (fun cdv A outer s H vs Q E hr h => ?_)
  · obtain ⟨yv, sv, rfl, _⟩ := h
    rfl
  · obtain ⟨yv, sv, rfl, h⟩ := h
    have nd := scRO.nd
    have hr7 : Room 7 _ := hr
    have hr4 : Room 4 _ := hr.mono (by decide)
    have hr1 : Room 1 _ := hr.mono (by decide)
    refine ⟨_, pss_cons (ps_expr (pe_call GN hr7 rfl N.g N.kp N.b .nil (passes_call (takes_of rfl rfl rfl rfl) (fun _ _ _ _ h => h)) (pa_cons (pv 0) (pa_cons (pv 1) pa_nil))))
      (pss_one (ps_ret (pe_call GR hr4 rfl Rb.g Rb.kp Rb.b .nil pass0 (pa_cons (pe_call GF hr1 rfl Fa.g Fa.kp Fa.b .nil pass0 (pa_cons (pv 0) pa_nil)) (pa_cons (pv 1) pa_nil))))), ?_⟩
    rcases h with hb | ⟨y, m, ps, rfl, hY, h40, h⟩
    · exact ⟨_, rfl, _, rfl, yv, sv, rfl, .inl hb⟩
    rcases h with ⟨⟨T, hv⟩, hb⟩ | ⟨u, ws, rfl, hS, k⟩
    · exact ⟨_, rfl, _, rfl, .ref y, sv, rfl, .inr ⟨y, sv, T, m, ps, rfl, hY, h40, hv, hb.mono fun _ _ h => h.elim⟩⟩
    obtain ⟨Y, as, ht, hP⟩ := id hY
    refine ⟨_, rfl, _, rfl, .ref y, .ref u, rfl, .inr ⟨y, .ref u, "tuple", m, ps, rfl, hY, h40, .tup hS.here, look_good hS fun H1 s1 => ?_⟩⟩
    refine ⟨_, rfl, y, m, as, ps, rfl, s1 _ _ ht, hP.mono (sameT s1), Y.lines, by omega, fun H2 L s2 _ hL => ?_⟩
    exact ⟨_, rfl, L, u, far ps, m, ws, rfl, hL, hS.mono (sameT (s1.trans s2)), far_inv Y.lines, by omega, fun H3 r bs rs s3 hu hR hr' => k H3 r bs rs (s1.trans (s2.trans s3)) hu hR hr'⟩
theorem ok_mr3 {f fO : Addr} {fd fdO : FuncData} (F : Fun K "many_rounds" "many_rounds" sMR f fd) (T : TB mg) (O : Cal K mg "rounds_of" fO fdO ["yard", "setting"]) (GO : FnOk P w K mg base (L2.CX P w) 8 fO fdO ["yard", "setting"] (spRO2 C0 CS)) : FnOk P w K mg base (L2.CX P w) 9 f fd ["yard", "setting"] (spFR C0 CS) := by
  refine F.okX scMR (fun vs H Q E h => ?_) (fun cdv A outer s H vs Q E hr h => ?_)
  · obtain ⟨yv, sv, rfl, _⟩ := h
    rfl
  · obtain ⟨yv, sv, rfl, h⟩ := h
    have hr8 : Room 8 _ := hr
    refine ⟨_, pss_one (ps_ret (pe_callB call_len_seq (by rfl) T.len PySem.boot_len (pa_cons (pe_call GO hr8 rfl O.g O.kp O.b .nil (passes_call (takes_of rfl rfl rfl rfl) (fun _ _ _ _ h => h)) (pa_cons (pv 0) (pa_cons (pv 1) pa_nil))) pa_nil))), ?_⟩
    rcases h with hb | ⟨y, m, ps, rfl, hY, h40, hb⟩
    · exact ⟨_, rfl, _, rfl, yv, sv, rfl, .inl hb⟩
    · exact ⟨_, rfl, _, rfl, .ref y, sv, rfl, .inr ⟨y, m, ps, rfl, hY, h40, .inl hb⟩⟩
theorem ok_nx2 {f fB : Addr} {fd fdB : FuncData} (F : Fun K "need_crossing" "need_crossing" sNX f fd) (T6 : OwnTxt P K x6 "place" CO f6) (O6 : OwnCls K mg "OutOfPlace" CO f6) (noS : mg "super" = none) (B : Cal K mg "is_below" fB fdB ["thing", "many"]) (GB : FnOk P w K mg base CX0 2 fB fdB ["thing", "many"] spIsBelow) : FnOk P w K mg base (L2.CX P w) 7 f fd ["thing", "many"] (spNX2 CO) := by
  refine F.okX scNX (fun vs H Q E h => ?_) (fun cdv A outer s H vs Q E hr h => ?_)
  · obtain ⟨ev, m, rfl, _⟩ := h
    rfl
  · obtain ⟨ev, m, rfl, ⟨Te, he⟩, hb, hR⟩ := h
    have nd := scNX.nd
    have hr2 : Room 2 _ := hr.mono (by decide)
    refine ⟨_, pss_stop (ps_if (pt_not (pt_val (pe_call GB hr2 rfl B.g B.kp B.b .nil pass0 (pa_cons (pv 0) (pa_cons (pv 1) pa_nil))))) (pss_one (ps_raiseX rfl (Or.inl rfl) T6 O6 noS hr (takes_of rfl rfl rfl rfl) (pa_cons (pe_tup pa_nil) pa_nil) (by rfl))) pss_nil), ?_⟩
    refine ⟨_, rfl, _, rfl, ev, _, Te, rfl, he, ?_⟩
    refine ⟨_, rfl, ?_⟩
    rw [hb]
    refine iteT ⟨Nat.zero_le _, fun p hp => ⟨_, rfl, .tup [] (SqT.of upd_same) (Nat.zero_le _) (fun n h => absurd h (by simp)), fun d hd => ?_⟩⟩
    exact hR _ p d ((Same.new hp).trans (Same.new hd)) ((Same.new hd) _ _ upd_same) upd_same
theorem ok_ra2 {f fN fF fB : Addr} {fd fdN fdF fdB : FuncData} (F : Fun K "round_at" "round_at" sRA f fd) (T : TB mg) (T2 : OwnTxt P K x2 "place" CE f2) (O2 : OwnCls K mg "BadEnd" CE f2) (noS : mg "super" = none)
    (N : Cal K mg "need_setting" fN fdN ["yard", "thing"]) (GN : FnOk P w K mg base (L2.CX P w) 7 fN fdN ["yard", "thing"] (spNS2 C0 CS)) (Fa : Cal K mg "fars_of_lines" fF fdF ["lines"]) (GF : FnOk P w K mg base CX0 1 fF fdF ["lines"] spFars)
    (B : Cal K mg "is_below" fB fdB ["thing", "many"]) (GB : FnOk P w K mg base CX0 2 fB fdB ["thing", "many"] spIsBelow) : FnOk P w K mg base (L2.CX P w) 8 f fd ["yard", "setting", "end"] (spSpot C0 CS CE 4) := by
  refine F.okX scRA (fun vs H Q E h => ?_) (fun cdv A outer s H vs Q E hr h => ?_)
  · obtain ⟨yv, sv, ev, rfl, _⟩ := h
    rfl
  · obtain ⟨yv, sv, ev, rfl, h⟩ := h
    have nd := scRA.nd
    have hr7 : Room 7 _ := hr
    have hr2 : Room 2 _ := hr.mono (by decide)
    have hr1 : Room 1 _ := hr.mono (by decide)
    refine ⟨_, pss_cons (ps_expr (pe_call GN hr7 rfl N.g N.kp N.b .nil (passes_call (takes_of rfl rfl rfl rfl) (fun _ _ _ _ h => h)) (pa_cons (pv 0) (pa_cons (pv 1) pa_nil))))
      (pss_cons (ps_set (i := 3) nd rfl (Or.inr rfl) (pe_call GF hr1 rfl Fa.g Fa.kp Fa.b .nil pass0 (pa_cons (pv 0) pa_nil)))
      (pss_stop (ps_if (pt_not (pt_val (pe_call GB hr2 rfl B.g B.kp B.b .nil pass0 (pa_cons (pv 2) (pa_cons (pe_callB call_len_seq (by rfl) T.len PySem.boot_len (pa_cons (pv 3) pa_nil)) pa_nil))))) (pss_one (ps_raiseX rfl (Or.inl rfl) T2 O2 noS hr (takes_of rfl rfl rfl rfl) (pa_cons (pe_tup pa_nil) pa_nil) (by rfl))) pss_nil))), ?_⟩
    rcases h with hb | ⟨y, m, ps, rfl, hY, h40, h⟩
    · exact ⟨_, rfl, _, rfl, yv, sv, rfl, .inl hb⟩
    rcases h with ⟨⟨T, hv⟩, hb⟩ | ⟨u, ws, rfl, hS, ⟨Te, he⟩, hb, hR⟩
    · exact ⟨_, rfl, _, rfl, .ref y, sv, rfl, .inr ⟨y, sv, T, m, ps, rfl, hY, h40, hv, hb.mono fun _ _ h => h.elim⟩⟩
    obtain ⟨Y, as, ht, hP⟩ := id hY
    refine ⟨_, rfl, _, rfl, .ref y, .ref u, rfl, .inr ⟨y, .ref u, "tuple", m, ps, rfl, hY, h40, .tup hS.here, look_good hS fun H1 s1 => ?_⟩⟩
    refine ⟨_, rfl, y, m, as, ps, rfl, s1 _ _ ht, hP.mono (sameT s1), Y.lines, by omega, fun H2 L s2 _ hL => ?_⟩
    have s12 := s1.trans s2
    refine ⟨_, rfl, _, rfl, L, _, rfl, .inl (SqL.of hL), ev, _, Te, rfl, he.mono s12, ?_⟩
    rw [farL_len]
    refine ⟨_, rfl, ?_⟩
    rw [hb]
    refine iteT ⟨Nat.zero_le _, fun p hp => ⟨_, rfl, .tup [] (SqT.of upd_same) (Nat.zero_le _) (fun n h => absurd h (by simp)), fun d hd => ?_⟩⟩
    exact hR _ p d (s12.trans ((Same.new hp).trans (Same.new hd))) ((Same.new hd) _ _ upd_same) upd_same
theorem ok_mt2 {f fO fX : Addr} {fd fdO fdX : FuncData} (F : Fun K "meeting" "meeting" sMT f fd) (T : TB mg) (O : Cal K mg "rounds_of" fO fdO ["yard", "setting"]) (GO : FnOk P w K mg base (L2.CX P w) 8 fO fdO ["yard", "setting"] (spRO2 C0 CS))
    (Nx : Cal K mg "need_crossing" fX fdX ["thing", "many"]) (GX : FnOk P w K mg base (L2.CX P w) 7 fX fdX ["thing", "many"] (spNX2 CO)) : FnOk P w K mg base (L2.CX P w) 9 f fd ["yard", "setting", "crossing"] (spSpot C0 CS CO 1) := by
  refine F.okX scMT (fun vs H Q E h => ?_) (fun cdv A outer s H vs Q E hr h => ?_)
  · obtain ⟨yv, sv, ev, rfl, _⟩ := h
    rfl
  · obtain ⟨yv, sv, ev, rfl, h⟩ := h
    have nd := scMT.nd
    have hr8 : Room 8 _ := hr
    have hr7 : Room 7 _ := hr.mono (by decide)
    refine ⟨_, pss_cons (ps_set (i := 3) nd rfl (Or.inl rfl) (pe_call GO hr8 rfl O.g O.kp O.b .nil (passes_call (takes_of rfl rfl rfl rfl) (fun _ _ _ _ h => h)) (pa_cons (pv 0) (pa_cons (pv 1) pa_nil))))
      (pss_stop (ps_expr (pe_call GX hr7 rfl Nx.g Nx.kp Nx.b .nil (passes_call (takes_of rfl rfl rfl rfl) (fun _ _ _ _ h => h)) (pa_cons (pv 2) (pa_cons (pe_callB call_len_seq (by rfl) T.len PySem.boot_len (pa_cons (pv 1) pa_nil)) pa_nil))))), ?_⟩
    rcases h with hb | ⟨y, m, ps, rfl, hY, h40, h⟩
    · exact ⟨_, rfl, _, rfl, yv, sv, rfl, .inl hb⟩
    rcases h with hb | ⟨u, ws, rfl, hS, ⟨Te, he⟩, hb, hR⟩
    · exact ⟨_, rfl, _, rfl, .ref y, sv, rfl, .inr ⟨y, m, ps, rfl, hY, h40, .inl hb⟩⟩
    refine ⟨_, rfl, _, rfl, .ref y, .ref u, rfl, .inr ⟨y, m, ps, rfl, hY, h40, .inr ⟨u, ws, rfl, hS, fun H1 r as rs s1 hr' hR' R => ?_⟩⟩⟩
    have ln : (nats ws).length = m := (List.length_map _).trans hS.len
    rw [Nat.one_mul] at hb
    refine ⟨_, rfl, _, rfl, u, _, rfl, .inr (SqT.of (s1 _ _ hS.here)), ?_⟩
    rw [ln]
    exact ⟨ev, m, rfl, ⟨Te, he.mono s1⟩, hb, hR.to s1⟩
theorem ok_ow2 {f fN fX : Addr} {fd fdN fdX : FuncData} (F : Fun K "outer_way" "outer_way" sOWy f fd) (T : TB mg) (N : Cal K mg "need_setting" fN fdN ["yard", "thing"]) (GN : FnOk P w K mg base (L2.CX P w) 7 fN fdN ["yard", "thing"] (spNS2 C0 CS))
    (Nx : Cal K mg "need_crossing" fX fdX ["thing", "many"]) (GX : FnOk P w K mg base (L2.CX P w) 7 fX fdX ["thing", "many"] (spNX2 CO)) : FnOk P w K mg base (L2.CX P w) 8 f fd ["yard", "setting", "crossing"] (spSpot C0 CS CO 1) := by
  refine F.okX scOWy (fun vs H Q E h => ?_) (fun cdv A outer s H vs Q E hr h => ?_)
  · obtain ⟨yv, sv, ev, rfl, _⟩ := h
    rfl
  · obtain ⟨yv, sv, ev, rfl, h⟩ := h
    have nd := scOWy.nd
    have hr7 : Room 7 _ := hr
    refine ⟨_, pss_cons (ps_expr (pe_call GN hr7 rfl N.g N.kp N.b .nil (passes_call (takes_of rfl rfl rfl rfl) (fun _ _ _ _ h => h)) (pa_cons (pv 0) (pa_cons (pv 1) pa_nil))))
      (pss_stop (ps_expr (pe_call GX hr7 rfl Nx.g Nx.kp Nx.b .nil (passes_call (takes_of rfl rfl rfl rfl) (fun _ _ _ _ h => h)) (pa_cons (pv 2) (pa_cons (pe_callB call_len_seq (by rfl) T.len PySem.boot_len (pa_cons (pv 1) pa_nil)) pa_nil))))), ?_⟩
    rcases h with hb | ⟨y, m, ps, rfl, hY, h40, h⟩
    · exact ⟨_, rfl, _, rfl, yv, sv, rfl, .inl hb⟩
    rcases h with ⟨⟨T, hv⟩, hb⟩ | ⟨u, ws, rfl, hS, ⟨Te, he⟩, hb, hR⟩
    · exact ⟨_, rfl, _, rfl, .ref y, sv, rfl, .inr ⟨y, sv, T, m, ps, rfl, hY, h40, hv, hb.mono fun _ _ h => h.elim⟩⟩
    have ln : (nats ws).length = m := (List.length_map _).trans hS.len
    rw [Nat.one_mul] at hb
    refine ⟨_, rfl, _, rfl, .ref y, .ref u, rfl, .inr ⟨y, .ref u, "tuple", m, ps, rfl, hY, h40, .tup hS.here, look_good hS fun H1 s1 => ?_⟩⟩
    refine ⟨_, rfl, _, rfl, u, _, rfl, .inr (SqT.of (s1 _ _ hS.here)), ?_⟩
    rw [ln]
    exact ⟨ev, m, rfl, ⟨Te, he.mono s1⟩, hb, hR.to s1⟩
end
end One
end P_KA

section P_KB
set_option linter.all false
set_option maxRecDepth 100000
set_option maxHeartbeats 8000000
namespace One
open PySem PySem.Spec PyProof.Rows L2
/-! ### yards that are refused -/
theorem bad_other {C0 : Addr} {v : V} {Tv : String} {E : XK} {H : Hp} (hv : TV H v Tv) (hT : isTup Tv = false) (h : RWrong C0 E H []) : BadY C0 v H E :=
  ⟨_, rfl, .inl ⟨.inl ⟨Tv, hv, hT⟩, fun H' p s hp => wrong_of h s hp (Nat.zero_le _) (fun n hn => absurd hn (by simp))⟩⟩
theorem bad_count {C0 t : Addr} {xs : List V} {E : XK} {H : Hp} (ht : H t = some (.tup xs)) (hc : canBe (xs.length : Nat) = false) (h : RWrong C0 E H []) : BadY C0 (.ref t) H E :=
  ⟨_, rfl, .inl ⟨.inr ⟨t, xs, rfl, ht, hc⟩, fun H' p s hp => wrong_of h s hp (Nat.zero_le _) (fun n hn => absurd hn (by simp))⟩⟩
theorem goF_app : ∀ (ps : List (Nat × Nat)) (r : List (Option (Nat × Nat))) (k : Nat) (met : List Nat) (ah : Option (Nat × Nat)), (∀ q, ah = some q → ∀ p ∈ ps, ltP q p) → ps.Pairwise ltP → (met ++ ends ps).Nodup →
    ∃ ah', goF k met ah (ps.map some ++ r) = goF (k + ps.length) (met ++ ends ps) ah' r
  | [], r, k, met, ah, _, _, _ => ⟨ah, by
    show goF k met ah r = goF k (met ++ []) ah r
    rw [List.append_nil]⟩
  | p :: ps, r, k, met, ah, h1, h2, h3 => by
    obtain ⟨hp, hr⟩ := List.pairwise_cons.mp h2
    have h3 : (met ++ (p.1 :: p.2 :: ends ps)).Nodup := h3
    have n1 : ¬ p.1 ∈ met := fun m => (List.nodup_append.mp h3).2.2 _ m p.1 (by simp) rfl
    have n2 : ¬ p.2 ∈ met := fun m => (List.nodup_append.mp h3).2.2 _ m p.2 (by simp) rfl
    have up : notUp p ah = false := by
      cases e : ah with
      | none => rfl
      | some q =>
        have := h1 q e p (List.mem_cons.mpr (.inl rfl))
        unfold ltP at this
        unfold notUp leB
        simp only [Bool.or_eq_false_iff, Bool.and_eq_false_iff, decide_eq_false_iff_not]
        omega
    obtain ⟨ah', e⟩ := goF_app ps r (k + 1) (met ++ [p.1, p.2]) (some p) (fun q e x hx => by cases e; exact hp x hx) hr (by rw [List.append_assoc]; exact h3)
    refine ⟨ah', ?_⟩
    show (if notUp p ah || met.contains p.1 || met.contains p.2 then some k else goF (k + 1) (met ++ [p.1, p.2]) (some p) (ps.map some ++ r)) = _
    rw [if_neg (by simp [up, n1, n2]), e, List.append_assoc, List.length_cons, Nat.add_assoc, Nat.add_comm 1]
    rfl
section
variable {C0 y q : Addr} {E : XK} {H : Hp} {n : Nat} {ps : List (Nat × Nat)} {as : List Addr}
theorem can_be {n k : Nat} (h : k = 2 * n) (h0 : 0 < n) (h1 : n ≤ 40) : canBe (k : Nat) = true := by
  unfold canBe
  simp only [Bool.and_eq_true, decide_eq_true_eq]
  omega
theorem can_not {k : Nat} (h : 80 < k) : canBe (k : Nat) = false := by
  unfold canBe
  rw [decide_eq_false (p := ((k : Nat) : Int) ≤ 80) (by omega), Bool.and_false]
  rfl
/-- a fault at a number -/
theorem bad_at {xs : List V} {os : List (Option (Nat × Nat))} {k : Nat} (hq : H q = some (.tup xs)) (hc : canBe (xs.length : Nat) = true) (hi : IL H (2 * xs.length) xs os) (hk : goF 0 [] none os = some k) (hs : k < 1000) (h : RWrong C0 E H [k]) : BadY C0 (.ref q) H E := by
  refine ⟨_, rfl, .inr ⟨q, xs, os, rfl, hq, hc, hi, fun k' hk' => ?_, fun hno => ?_⟩⟩
  · rw [hk] at hk'
    cases hk'
    exact fun H' p s hp => wrong_of h s (ns := [k]) hp (by show 1 ≤ 100; decide) (fun n hn => by rw [List.mem_singleton.mp hn]; exact hs)
  · rw [hk] at hno
    cases hno
theorem IL.app {N : Nat} {xs ys : List V} {os us : List (Option (Nat × Nat))} (h : IL H N xs os) (g : IL H N ys us) : IL H N (xs ++ ys) (os ++ us) := by
  induction h with
  | nil => exact g
  | line a b c _ ih => exact .line a b c ih
  | flat a b _ ih => exact .flat a b ih
  | tup a b c _ ih => exact .tup a b c ih
theorem bad_twice (Y : Yard n ps) (hP : PL H as ps) (h20 : n ≤ 20) (hq : H q = some (.tup (refs as ++ refs as))) (h : RWrong C0 E H [2 * n]) : BadY C0 (.ref q) H E := by
  have hl : (refs as).length = 2 * n := by rw [show (refs as).length = as.length from List.length_map _, hP.len, Y.lines.len]
  have hl2 : (refs as ++ refs as).length = 2 * (2 * n) := by rw [List.length_append, hl]; omega
  have hpos := Y.pos
  have I : IL H (2 * (refs as ++ refs as).length) (refs as) (ps.map some) := il_of hP fun p m => ⟨(Y.lt p m).1, by have := (Y.lt p m).2; rw [hl2]; omega⟩
  refine bad_at hq (can_be hl2 (by omega) (by omega)) (I.app I) ?_ (by omega) h
  obtain ⟨ah, e⟩ := goF_app ps (ps.map some) 0 [] none (fun _ e => by cases e) Y.up (by simpa using Y.lines.nd)
  rw [e]
  match hr : ps, Y.lines.len with
  | p :: r, hl =>
    show (if notUp p ah || ([] ++ ends (p :: r)).contains p.1 || _ then _ else _) = _
    have c : ([] ++ ends (p :: r)).contains p.1 = true := by
      rw [List.contains_iff_mem]
      exact List.mem_cons_self ..
    rw [c, Bool.or_true, Bool.true_or, if_pos rfl, hl, Nat.zero_add]
  | [], hl => simp at hl; omega
theorem bad_last {x : V} (Y : Yard n ps) (h40 : n ≤ 40) (hP : PL H as ps) (hq : H q = some (.tup ((refs as).take (2 * n - 1) ++ [x]))) (hx : IL H (2 * (2 * n)) [x] [none]) (h : RWrong C0 E H [2 * n - 1]) : BadY C0 (.ref q) H E := by
  have hl : (refs as).length = 2 * n := by rw [show (refs as).length = as.length from List.length_map _, hP.len, Y.lines.len]
  have hl2 : ((refs as).take (2 * n - 1) ++ [x]).length = 2 * n := by
    have hpos := Y.pos
    rw [List.length_append, List.length_take, hl]
    show min (2 * n - 1) (2 * n) + 1 = 2 * n
    omega
  have hpos := Y.pos
  have I : IL H (2 * (2 * n)) (refs as) (ps.map some) := il_of hP fun p m => ⟨(Y.lt p m).1, by have := (Y.lt p m).2; omega⟩
  have tk : ∀ {N : Nat} {xs : List V} {os : List (Option (Nat × Nat))}, IL H N xs os → ∀ k, IL H N (xs.take k) (os.take k) := fun I => by
    induction I with
    | nil => intro k; rw [List.take_nil, List.take_nil]; exact .nil
    | line a b c _ ih => intro k; cases k with
      | zero => exact .nil
      | succ k => exact .line a b c (ih k)
    | flat a b _ ih => intro k; cases k with
      | zero => exact .nil
      | succ k => exact .flat a b (ih k)
    | tup a b c _ ih => intro k; cases k with
      | zero => exact .nil
      | succ k => exact .tup a b c (ih k)
  have J := (tk I (2 * n - 1)).app hx
  refine bad_at hq (can_be hl2 (by omega) (by omega)) (os := (ps.map some).take (2 * n - 1) ++ [none]) (by rw [hl2]; exact J) ?_ (by omega) h
  rw [← List.map_take]
  obtain ⟨ah, e⟩ := goF_app (ps.take (2 * n - 1)) [none] 0 [] none (fun _ e => by cases e) (Y.up.sublist (List.take_sublist ..)) (by
    have : (ends (ps.take (2 * n - 1))).Nodup := by
      have nd := Y.lines.nd
      rw [← List.take_append_drop (2 * n - 1) ps] at nd
      rw [show ends (ps.take (2 * n - 1) ++ ps.drop (2 * n - 1)) = ends (ps.take (2 * n - 1)) ++ ends (ps.drop (2 * n - 1)) from ends_append ..] at nd
      exact (List.nodup_append.mp nd).1
    simpa using this)
  rw [e]
  show some (0 + (ps.take (2 * n - 1)).length) = _
  rw [List.length_take, Y.lines.len, Nat.zero_add, Nat.min_eq_left (by omega)]
def shift (k : Nat) (ps : List (Nat × Nat)) : List (Nat × Nat) := ps.map fun p => (p.1 + k, p.2 + k)
theorem bad_apart {bs : List Addr} (Y : Yard n ps) (hP : PL H as ps) (hB : PL H bs (shift (4 * n) ps)) (h20 : n ≤ 20) (hq : H q = some (.tup (refs as ++ refs bs))) (h : RWrong C0 E H [4 * n]) : BadY C0 (.ref q) H E := by
  have la : (refs as).length = 2 * n := by rw [show (refs as).length = as.length from List.length_map _, hP.len, Y.lines.len]
  have lb : (refs bs).length = 2 * n := by rw [show (refs bs).length = bs.length from List.length_map _, hB.len, show (shift (4 * n) ps).length = ps.length from List.length_map _, Y.lines.len]
  have hl2 : (refs as ++ refs bs).length = 2 * (2 * n) := by rw [List.length_append, la, lb]; omega
  have hpos := Y.pos
  have sh : ∀ p ∈ shift (4 * n) ps, ∃ p' ∈ ps, p = (p'.1 + 4 * n, p'.2 + 4 * n) := fun p hp => by
    obtain ⟨p', h1, rfl⟩ := List.mem_map.mp hp
    exact ⟨p', h1, rfl⟩
  have I : IL H (2 * (refs as ++ refs bs).length) (refs as) (ps.map some) := il_of hP fun p m => ⟨(Y.lt p m).1, by have := (Y.lt p m).2; rw [hl2]; omega⟩
  have J : IL H (2 * (refs as ++ refs bs).length) (refs bs) ((shift (4 * n) ps).map some) := il_of hB fun p m => by
    obtain ⟨p', m', rfl⟩ := sh p m
    have := Y.lt p' m'
    rw [hl2]
    constructor <;> show _ < _ <;> omega
  have esh : ∀ L : List (Nat × Nat), ends (shift (4 * n) L) = (ends L).map (· + 4 * n) := fun L => by
    induction L with
    | nil => rfl
    | cons p L ih =>
      show (p.1 + 4 * n) :: (p.2 + 4 * n) :: ends (shift (4 * n) L) = _
      rw [ih]
      rfl
  have up : (ps ++ shift (4 * n) ps).Pairwise ltP := by
    refine List.pairwise_append.mpr ⟨Y.up, ?_, fun a ha b hb => ?_⟩
    · refine List.pairwise_map.mpr (Y.up.imp fun {a b} h => ?_)
      unfold ltP at h ⊢
      show _ < _ ∨ _ ∧ _ < _
      omega
    · obtain ⟨p', m', rfl⟩ := sh b hb
      have := Y.lt a ha
      unfold ltP
      refine .inl ?_
      show a.1 < p'.1 + 4 * n
      omega
  have nd : (ends (ps ++ shift (4 * n) ps)).Nodup := by
    rw [show ends (ps ++ shift (4 * n) ps) = ends ps ++ ends (shift (4 * n) ps) from ends_append .., esh]
    refine List.nodup_append.mpr ⟨Y.lines.nd, ?_, fun a ha b hb => ?_⟩
    · exact List.pairwise_map.mpr (Y.lines.nd.imp fun {a b} h z => h (Nat.add_right_cancel z))
    · obtain ⟨b', hb', rfl⟩ := List.mem_map.mp hb
      have := Y.lines.lt a ha
      omega
  have e0 : ps.map some ++ (shift (4 * n) ps).map some = (ps ++ shift (4 * n) ps).map some := List.map_append.symm
  have gd : goF 0 [] none (ps.map some ++ (shift (4 * n) ps).map some) = none := by
    rw [e0]
    exact goF_good _ 0 [] none (fun _ e => by cases e) up (by simpa using nd)
  refine ⟨_, rfl, .inr ⟨q, _, _, rfl, hq, can_be hl2 (by omega) (by omega), I.app J, fun k hk => ?_, fun _ L hL => ⟨fun hw => ?_, fun _ H' p s hp => ?_⟩⟩⟩
  · rw [gd] at hk
    cases hk
  · exfalso
    rw [e0] at hL
    have hL := map_some_inj hL
    subst hL
    rw [hl2, show 2 * (2 * n) / 2 = 2 * n by omega] at hw
    have := hw (fun c => c < n) (fun p hp => ?_) hpos n (by omega)
    · omega
    · rcases List.mem_append.mp hp with hp | hp
      · have := Y.lt p hp
        show p.1 / 4 < n ↔ p.2 / 4 < n
        omega
      · obtain ⟨p', m', rfl⟩ := sh p hp
        show (p'.1 + 4 * n) / 4 < n ↔ (p'.2 + 4 * n) / 4 < n
        omega
  · rw [hl2] at hp
    exact wrong_of h s (ns := [4 * n]) (by rw [show 4 * n = 2 * (2 * n) by omega]; exact hp) (by show 1 ≤ 100; decide) (fun x hx => by rw [List.mem_singleton.mp hx]; omega)
end
end One
end P_KB

section P_LO
set_option linter.all false
set_option maxRecDepth 100000
set_option maxHeartbeats 16000000
namespace One
open PySem PySem.Spec PyProof.Rows L2
def CPowB (i j : Int) : Prop := 0 ≤ j ∧ (Builtin.Int.intBits i : Int) * j ≤ 2 ^ 27
theorem op_powB {X : Cx} : OpR X (binaryOp .Pow) (rI CPowB fun i j => .int (i ^ j.toNat)) := opI fun _ _ _ _ _ _ _ hc q => pow_int hc.1 hc.2 q
theorem powB_30 : CPowB 10 30 := ⟨by decide, by decide +kernel⟩
theorem da_new {p a l q : Addr} {H : Hp} {n : Nat} {xs : List V} {ds : List PyData} (M : ML H p a l n) (hq : H q = none) (h : DaAll p l H xs ds) : Da p l (upd H q (.tup xs)) (.ref q) (.tuple ds) :=
  .tup (M.apart hq).1 (M.apart hq).2 upd_same (DaAll.extT (ExtT.ofS (Same.new hq)) _ _ h)
theorem int_short2 : ∀ i : Int, -1000 ≤ i → i < 1000 → (PyData.shown (.int i)).length ≤ 8 ∧ PyData.showable (.int i) = true := by
  have h : ∀ n : Fin 2000, (PyData.shown (.int (((n : Nat) : Int) - 1000))).length ≤ 8 ∧ PyData.showable (.int (((n : Nat) : Int) - 1000)) = true := by decide +kernel
  intro i h0 h1
  have := h ⟨(i + 1000).toNat, by omega⟩
  rwa [show ((((⟨(i + 1000).toNat, by omega⟩ : Fin 2000) : Nat) : Int)) - 1000 = i by
    show (((i + 1000).toNat : Nat) : Int) - 1000 = i
    omega] at this
theorem fxI {i : Int} (a : -1000 ≤ i) (b : i < 1000) : Fx (.int i) 0 0 := by
  obtain ⟨s1, s2⟩ := int_short2 i a b
  refine ⟨s2, Nat.le_refl _, ?_, Nat.zero_le _⟩
  show decide (_ ≤ 48) = true
  exact decide_eq_true (Nat.le_trans s1 (by decide))
theorem fx2 {x y : PyData} (a : Fx x 0 0) (b : Fx y 0 0) : Fx (.tuple [x, y]) 2 10 := (FxA.cons a (FxA.cons b (FxA.nil (n := 0)))).tup.up (by decide) (by decide)
def FxL (ds : List PyData) : Prop := ∀ d ∈ ds, Fx d 2 10
theorem FxL.nil : FxL [] := fun d h => absurd h (by simp)
theorem FxL.cons {d : PyData} {ds : List PyData} (a : Fx d 2 10) (b : FxL ds) : FxL (d :: ds) := fun e he => by
  rcases List.mem_cons.mp he with rfl | he
  · exact a
  · exact b e he
end One
end P_LO

section P_LB
set_option linter.all false
set_option maxRecDepth 100000
set_option maxHeartbeats 16000000
namespace One
open PySem PySem.Spec PyProof.Rows L2
/-- rows of things that are small -/
def Lk (p l : Addr) (H : Hp) (xs : List V) (n : Nat) : Prop := ∃ ds, DaAll p l H xs ds ∧ FxL ds ∧ xs.length ≤ n
section
variable {p l : Addr} {H H' : Hp} {xs ys : List V} {n k : Nat}
theorem Lk.extT (h : Lk p l H xs n) (e : ExtT p l H H') : Lk p l H' xs n := by
  obtain ⟨ds, a, b, c⟩ := h
  exact ⟨ds, DaAll.extT e _ _ a, b, c⟩
theorem Lk.same (h : Lk p l H xs n) (e : Same H H') : Lk p l H' xs n := h.extT (ExtT.ofS e)
theorem Lk.cut (h : Lk p l H xs n) (lo hi : Option Int) : Lk p l H (cutV xs lo hi) n := by
  obtain ⟨ds, a, b, c⟩ := h
  unfold cutV
  refine ⟨_, (a.drop _).take _, fun d hd => b d (List.mem_of_mem_drop (List.mem_of_mem_take hd)), ?_⟩
  rw [List.length_take, List.length_drop]
  omega
theorem Lk.app (h : Lk p l H xs n) (g : Lk p l H ys k) : Lk p l H (xs ++ ys) (n + k) := by
  obtain ⟨ds, a, b, c⟩ := h
  obtain ⟨es, a', b', c'⟩ := g
  refine ⟨_, DaAll.app a' a, fun d hd => ?_, by rw [List.length_append]; omega⟩
  rcases List.mem_append.mp hd with hd | hd
  · exact b d hd
  · exact b' d hd
theorem Lk.rev (h : Lk p l H xs n) : Lk p l H xs.reverse n := by
  obtain ⟨ds, a, b, c⟩ := h
  exact ⟨_, a.rev, fun d hd => b d (List.mem_reverse.mp hd), by rw [List.length_reverse]; exact c⟩
theorem Lk.one {v : V} {d : PyData} (h : Da p l H v d) (f : Fx d 2 10) : Lk p l H [v] 1 := ⟨[d], .cons h .nil, FxL.cons f FxL.nil, Nat.le_refl 1⟩
theorem Lk.len (h : Lk p l H xs n) : xs.length ≤ n := h.choose_spec.2.2
/-- the tuple of them -/
theorem Lk.tup {t : Addr} (h : Lk p l H xs n) (ht : H t = some (.tup xs)) (a : t ≠ p) (b : t ≠ l) (hn : n ≤ 800) : ∃ d, Da p l H (.ref t) d ∧ Fx d 3 9000 := by
  obtain ⟨ds, g, f, c⟩ := h
  have := fxA_all f
  have hl := g.len
  refine ⟨_, .tup a b ht g, this.tup.up (by decide) ?_⟩
  have : (10 + 1) * ds.length ≤ 11 * 800 := Nat.mul_le_mul_left 11 (by omega)
  omega
end
section
variable {K : PySem.W.Frag} {σ : L2.St} {i j : Nat} {q : Addr} {z : Int} {xs : List V} {H : Hp} {Q : VK}
theorem sl_to (hi : σ[i]? = some (some (V.ref q))) (hj : σ[j]? = some (some (V.int z))) (hq : H q = some (.tup xs)) (k : ∀ (H' : Hp) (t : Addr), Same H H' → H' t = some (.tup (cutV xs none (some z))) → Q (.ref t) H') : tSl (rSlA K) (tVar i) tNoPart (tPart (tVar j)) σ H Q :=
  ⟨_, hi, _, hj, _, rfl, rd_slA hq k⟩
theorem sl_from (hi : σ[i]? = some (some (V.ref q))) (hj : σ[j]? = some (some (V.int z))) (hq : H q = some (.tup xs)) (k : ∀ (H' : Hp) (t : Addr), Same H H' → H' t = some (.tup (cutV xs (some z) none)) → Q (.ref t) H') : tSl (rSlA K) (tVar i) (tPart (tVar j)) tNoPart σ H Q :=
  ⟨_, hi, _, hj, _, rfl, by unfold tNoPart; dsimp only; exact rd_slA hq k⟩
theorem sl_from1 {c : Int} (hi : σ[i]? = some (some (V.ref q))) (hj : σ[j]? = some (some (V.int z))) (hq : H q = some (.tup xs)) (k : ∀ (H' : Hp) (t : Addr), Same H H' → H' t = some (.tup (cutV xs (some (z + c)) none)) → Q (.ref t) H') :
    tSl (rSlA K) (tVar i) (tPart (tOp (rI0 fun i j => .int (i + j)) (tVar j) (tC (V.int c)))) tNoPart σ H Q :=
  ⟨_, hi, _, hj, _, _, rfl, rfl, _, rfl, by unfold tNoPart; dsimp only; exact rd_slA hq k⟩
theorem sl_one {c : Int} (hi : σ[i]? = some (some (V.ref q))) (hj : σ[j]? = some (some (V.int z))) (hq : H q = some (.tup xs)) (k : ∀ (H' : Hp) (t : Addr), Same H H' → H' t = some (.tup (cutV xs (some z) (some (z + c)))) → Q (.ref t) H') :
    tSl (rSlA K) (tVar i) (tPart (tVar j)) (tPart (tOp (rI0 fun i j => .int (i + j)) (tVar j) (tC (V.int c)))) σ H Q :=
  ⟨_, hi, _, hj, _, rfl, _, hj, _, _, rfl, rfl, _, rfl, rd_slA hq k⟩
theorem sl_two {c e : Int} (hi : σ[i]? = some (some (V.ref q))) (hj : σ[j]? = some (some (V.int z))) (hq : H q = some (.tup xs)) (k : ∀ (H' : Hp) (t : Addr), Same H H' → H' t = some (.tup (cutV xs (some (z + c)) (some (z + e)))) → Q (.ref t) H') :
    tSl (rSlA K) (tVar i) (tPart (tOp (rI0 fun i j => .int (i + j)) (tVar j) (tC (V.int c)))) (tPart (tOp (rI0 fun i j => .int (i + j)) (tVar j) (tC (V.int e)))) σ H Q :=
  ⟨_, hi, _, hj, _, _, rfl, rfl, _, rfl, _, hj, _, _, rfl, rfl, _, rfl, rd_slA hq k⟩
end
end One
end P_LB

section P_KC
set_option linter.all false
set_option maxRecDepth 100000
set_option maxHeartbeats 16000000
namespace One
open PySem PySem.Spec PyProof.Rows L2
/-! ### what a setting's place is, told of data -/
def okD : PyData → Bool
  | .int i => decide (0 ≤ i) && decide (i < 3)
  | _ => false
def firstBad : List PyData → Nat → Option Nat
  | [], _ => none
  | d :: ds, k => if okD d then firstBad ds (k + 1) else some k
def placeD (n : Nat) : PyData → Option (List Nat)
  | .tuple ds => if ds.length = n then (firstBad ds 0).map fun k => [k] else some []
  | _ => some []
theorem firstBad_lt : ∀ {ds : List PyData} {k r : Nat}, firstBad ds k = some r → k ≤ r ∧ r < k + ds.length
  | [], _, _, h => by cases h
  | d :: ds, k, r, h => by
    unfold firstBad at h
    split at h
    · have := firstBad_lt h
      rw [List.length_cons]
      omega
    · cases h
      rw [List.length_cons]
      omega
theorem firstBad_none : ∀ {ds : List PyData} {k : Nat}, firstBad ds k = none → ds.all okD = true
  | [], _, _ => rfl
  | d :: ds, k, h => by
    unfold firstBad at h
    split at h
    · rename_i hd
      rw [List.all_cons, hd, firstBad_none h]
      rfl
    · cases h
theorem firstBad_at : ∀ {ds : List PyData} {k i : Nat} {d : PyData}, ds[i]? = some d → okD d = false → (ds.take i).all okD = true → firstBad ds k = some (k + i)
  | d :: ds, k, 0, x, e, h, _ => by
    cases e
    unfold firstBad
    rw [h]
    rfl
  | d :: ds, k, i + 1, x, e, h, a => by
    rw [List.take_succ_cons, List.all_cons, Bool.and_eq_true] at a
    unfold firstBad
    rw [if_pos a.1, firstBad_at (i := i) (by simpa using e) h a.2]
    congr 1
    omega
  | [], _, _, _, e, _, _ => by simp at e
theorem place_small {n : Nat} {d : PyData} {pl : List Nat} (h : placeD n d = some pl) (hn : n ≤ 40) : pl.length ≤ 1 ∧ ∀ x ∈ pl, x < 1000 := by
  have nil : pl = [] → pl.length ≤ 1 ∧ ∀ x ∈ pl, x < 1000 := fun e => by
    subst e
    exact ⟨Nat.zero_le _, fun x hx => absurd hx (by simp)⟩
  cases d with
  | tuple ds =>
    have h : (if ds.length = n then (firstBad ds 0).map fun k => [k] else some []) = some pl := h
    split at h
    · cases hf : firstBad ds 0 with
      | none => rw [hf] at h; cases h
      | some k =>
        rw [hf] at h
        cases h
        have := firstBad_lt hf
        exact ⟨Nat.le_refl 1, fun x hx => by rw [List.mem_singleton.mp hx]; omega⟩
    · exact nil (Option.some.inj h).symm
  | _ => exact nil (Option.some.inj h).symm
/-- ways, let by or told their place -/
def LookP (v : V) (m : Nat) (H : Hp) (G : Prop) (B : List Nat → Prop) : Prop :=
  ((∀ t xs, v = .ref t → H t = some (.tup xs) → xs.length ≠ m) ∧ B []) ∨
   ∃ (t : Addr) (xs : List V), v = .ref t ∧ H t = some (.tup xs) ∧ xs.length = m ∧ (∀ x ∈ xs, ∃ T, TV H x T) ∧ (xs.all (okW false) = true → G) ∧
     ∀ (i : Nat) (x : V), xs[i]? = some x → okW false x = false → (xs.take i).all (okW false) = true → B [i]
theorem ok_da {p l : Addr} {H : Hp} {v : V} {d : PyData} (h : Da p l H v d) : okW false v = okD d := by
  cases h with
  | int i => show (belowV (.int i) 3 || false) = _; rw [Bool.or_false]; rfl
  | _ => rfl
theorem ok_all {p l : Addr} {H : Hp} : ∀ {vs : List V} {ds : List PyData}, DaAll p l H vs ds → vs.all (okW false) = ds.all okD
  | _, [], h => by cases h; rfl
  | _, d :: ds, h => by
    cases h with
    | cons a b => rw [List.all_cons, List.all_cons, ok_da a, ok_all b]
theorem DaAll.tvs {p l : Addr} {H : Hp} : ∀ {vs : List V} {ds : List PyData}, DaAll p l H vs ds → ∀ x ∈ vs, ∃ T, TV H x T
  | _, [], h, x, hx => by cases h; exact absurd hx (by simp)
  | _, d :: ds, h, x, hx => by
    cases h with
    | cons a b =>
      rcases List.mem_cons.mp hx with rfl | hx
      · exact a.tv
      · exact b.tvs x hx
theorem look_da {p l : Addr} {H : Hp} {v : V} {d : PyData} {n : Nat} {G : Prop} {B : List Nat → Prop} (h : Da p l H v d) (g : placeD n d = none → G) (b : ∀ pl, placeD n d = some pl → B pl) : LookP v n H G B := by
  have flat : (∀ t xs, v = .ref t → H t = some (.tup xs) → xs.length ≠ n) → placeD n d = some [] → LookP v n H G B := fun h1 h2 => .inl ⟨h1, b _ h2⟩
  cases h with
  | non => exact flat (fun t xs e => by cases e) rfl
  | bl b => exact flat (fun t xs e => by cases e) rfl
  | int i => exact flat (fun t xs e => by cases e) rfl
  | str x => exact flat (fun t xs e => by cases e) rfl
  | lst a b c f g => exact flat (fun t xs e ht => by cases e; cases ht.symm.trans f) rfl
  | emp a b f => exact flat (fun t xs e ht => by cases e; cases ht.symm.trans f) rfl
  | @tup t xs ds a1 a2 f k =>
    have hle := k.len
    by_cases hl : ds.length = n
    · have e0 : placeD n (.tuple ds) = (firstBad ds 0).map fun k => [k] := if_pos hl
      refine .inr ⟨t, xs, rfl, f, by omega, k.tvs, fun ha => g ?_, fun i x hi hx hp => b _ ?_⟩
      · rw [ok_all k] at ha
        rw [e0]
        cases hf : firstBad ds 0 with
        | none => rfl
        | some j =>
          exfalso
          obtain ⟨_, hj⟩ := firstBad_lt hf
          have : ∀ (ds : List PyData) (k j : Nat), firstBad ds k = some j → ds.all okD = true → False := fun ds => by
            induction ds with
            | nil => intro k j h _; cases h
            | cons d ds ih =>
              intro k j h a
              rw [List.all_cons, Bool.and_eq_true] at a
              unfold firstBad at h
              rw [if_pos a.1] at h
              exact ih _ _ h a.2
          exact this _ _ _ hf ha
      · obtain ⟨d, hd, hda⟩ := k.get hi
        rw [e0, firstBad_at hd (by rw [← ok_da hda]; exact hx) (by rw [← ok_all (k.take i)]; exact hp), Nat.zero_add]
        rfl
    · exact flat (fun t' xs' e ht => by
        cases e
        cases ht.symm.trans f
        omega) (if_neg hl)
abbrev sPl : Stmt := top 65
abbrev nPl : List Str := ["many", "thing", "number", "way"]
theorem scPl : FnScope nPl ["many", "thing"] (defScope sPl) := ⟨rfl, rfl, rfl, by decide +kernel, rfl, by decide +kernel, by decide +kernel⟩
def spPL : Sp := fun vs H Q _ => ∃ (v : V) (n : Nat) (p l : Addr) (d : PyData), vs = [.int (n : Nat), v] ∧ Da p l H v d ∧ (placeD n d = none → ∀ H', Same H H' → Q .non H') ∧ ∀ pl, placeD n d = some pl → ∀ (H' : Hp) (q : Addr), Same H H' → H' q = some (.tup (nats pl)) → Q (.ref q) H'
section
variable {P : Program} {w : World} {K : PySem.W.Frag} {mg : Str → Option Value} {base : Heap}
theorem ok_pl {f : Addr} {fd : FuncData} (F : Fun K "_law_place" "_law_place" sPl f fd) (T : TB mg) : FnOk P w K mg base CX0 1 f fd ["many", "thing"] spPL := by
  refine F.ok scPl (fun vs H Q E h => ?_) (fun cdv A outer s H vs Q E hr h => ?_)
  · obtain ⟨v, n, p, l, d, rfl, _⟩ := h
    rfl
  · obtain ⟨v, n, p, l, d, rfl, hda, kg, kb⟩ := h
    have nd := scPl.nd
    refine ⟨_, pss_cons (ps_if (PW.pt (pw_or (pt_not (pt_val (pe_callB call_isi (by rfl) T.isinstance boot_isinstance (pa_cons (pv 1) (pa_cons (pe_bltn (v := .ty "tuple") (by rfl) T.tuple boot_tuple rfl) pa_nil))))) (pw_or1 (pt_cmpR op_ne (pe_callB call_len_seq (by rfl) T.len PySem.boot_len (pa_cons (pv 1) pa_nil)) (pv 0) (nomark _))))) (pss_one (ps_ret (pe_tup pa_nil))) pss_nil)
      (pss_cons (ps_for PassesOwn.never rfl (pi_enumT (by rfl) T.enumerate (pa_cons (pv 1) pa_nil)) (pg_tup rfl (pgs_cons (pg_name (i := 2) nd rfl (Or.inl rfl)) (pgs_cons (pg_name (i := 3) nd rfl (Or.inl rfl)) pgs_nil)))
        (pss_one (ps_if (PW.pt (pw_or (pt_not (pt_val (pe_callB call_isi (by rfl) T.isinstance boot_isinstance (pa_cons (pv 3) (pa_cons (pe_bltn (v := .ty "int") (by rfl) T.int PyProof.Rows.boot_int rfl) pa_nil))))) (pw_or (pt_val (pe_callB call_isi (by rfl) T.isinstance boot_isinstance (pa_cons (pv 3) (pa_cons (pe_bltn (v := .ty "bool") (by rfl) T.bool (by decide +kernel) rfl) pa_nil)))) (pw_or (pt_cmpR op_lt (pv 3) pe_int (nomark _)) (pw_or1 (pt_cmpR op_gt (pv 3) pe_int (nomark _))))))) (pss_one (ps_ret (pe_tup (pa_cons (pv 2) pa_nil)))) pss_nil)))
      (pss_one (ps_ret pe_non))), ?_⟩
    obtain ⟨Tt, hv⟩ := hda.tv
    refine ⟨_, rfl, _, _, _, _, _, rfl, .ty _, hv.tyx, hv.kTup, _, rfl, ?_⟩
    rcases look_da (n := n) hda kg kb with ⟨hno, k⟩ | ⟨t, xs, rfl, ht, hl, hx, kgood, kbad⟩
    · cases hT : isTup Tt with
      | false => exact iteT (iteT ⟨Nat.zero_le _, fun p hp => k _ p (Same.new hp) upd_same⟩)
      | true =>
        obtain ⟨t, xs, rfl, ht⟩ : ∃ t xs, v = .ref t ∧ H t = some (.tup xs) := by
          cases hv with
          | @tup a xs e => exact ⟨a, xs, rfl, e⟩
          | non => exact absurd hT (by decide)
          | bl b => exact absurd hT (by decide)
          | int i => exact absurd hT (by decide)
          | str x => exact absurd hT (by decide)
          | lst e => exact absurd hT (by decide)
          | dct e => exact absurd hT (by decide)
        have hne := hno t xs rfl ht
        refine iteF ⟨_, rfl, t, _, rfl, .inr (SqT.of ht), _, rfl, rfl, _, rfl, ?_⟩
        have e : decide (V.int (xs.length : Nat) = V.int (n : Nat)) = false := decide_eq_false fun z => hne (by
          have := V.int.inj z
          omega)
        rw [e]
        exact iteT ⟨Nat.zero_le _, fun p hp => k _ p (Same.new hp) upd_same⟩
    · have eT : isTup Tt = true := by
        cases hv with
        | tup e => rfl
        | lst e => cases ht.symm.trans e
        | dct e => cases ht.symm.trans e
      rw [eT]
      refine iteF ⟨_, rfl, t, _, rfl, .inr (SqT.of ht), _, rfl, rfl, _, rfl, ?_⟩
      have e : decide (V.int (xs.length : Nat) = V.int (n : Nat)) = true := decide_eq_true (by rw [hl])
      rw [e]
      refine iteF ?_
      refine ⟨_, rfl, t, _, rfl, SqT.of ht, for_it (walk_enumT (K := K) (a := t) (xs := xs)) (fun i σ H2 => ∃ v3 v4 : Option V, σ = [some (.int (n : Nat)), some (.ref t), v3, v4] ∧ Same H H2 ∧ (xs.take i).all (okW false) = true) ⟨none, none, rfl, Same.refl H, rfl⟩ (fun i σ H2 _ ⟨_, _, _, s', _⟩ => SqT.of (s' _ _ ht)) ?_ ?_⟩
      · rintro i x σ H2 H3 hi ⟨v3, v4, rfl, s2, a2⟩ ⟨q, x', y', rfl, hq, rfl, ex, ey⟩
        cases ex
        have ey : xs[i]? = some y' := ey
        have s3 := Same.new (o := .tup [V.int (i : Nat), y']) hq
        have sA := s2.trans s3
        obtain ⟨Ty, hy⟩ := hx y' (List.mem_of_getElem? ey)
        refine ⟨q, _, rfl, SqT.of upd_same, rfl, _, _, rfl, _, _, rfl, rfl, ?_⟩
        generalize upd H2 q (.tup [V.int (i : Nat), y']) = H3 at sA
        have a3 : okW false y' = true → (xs.take (i + 1)).all (okW false) = true := fun h => by
          rw [List.take_succ, ey, Option.toList_some, List.all_append, a2]
          show (true && (okW false y' && true)) = true
          rw [h]
          rfl
        have hyA := hy.mono sA
        have bad : okW false y' = false → 1 ≤ sizeLine ∧ ∀ p, H3 p = none → Q (.ref p) (upd H3 p (.tup [V.int (i : Nat)])) := fun hb => ⟨by decide, fun p hp => kbad i y' ey hb a2 _ p (sA.trans (Same.new hp)) upd_same⟩
        obtain ⟨b, kb1, g1, g2⟩ := hyA.kInt (K := K)
        refine ⟨_, rfl, _, _, _, _, _, rfl, .ty _, hyA.tyx, kb1, _, rfl, ?_⟩
        have notI : isI y' = false → okW false y' = false := fun h => by
          cases y' with
          | int z => cases h
          | _ => rfl
        cases b with
        | false => exact iteT (iteT ⟨_, rfl, bad (notI (g2 rfl))⟩)
        | true =>
          obtain ⟨b2, kb2, e2⟩ := g1 rfl
          refine iteF ⟨_, rfl, _, _, _, _, _, rfl, .ty _, hyA.tyx, kb2, _, rfl, ?_⟩
          cases b2 with
          | true => exact iteT (iteT ⟨_, rfl, bad (notI e2)⟩)
          | false =>
            obtain ⟨z, rfl⟩ : ∃ z, y' = .int z := by
              cases y' with
              | int z => exact ⟨z, rfl⟩
              | _ => cases e2
            have ez : okW false (.int z) = (decide (0 ≤ z) && decide (z < 3)) := by
              show (belowV (.int z) 3 || false) = _
              rw [Bool.or_false]
              rfl
            refine iteF ⟨_, rfl, _, _, rfl, rfl, _, rfl, ?_⟩
            refine ite2 (fun h1 => ?_) (fun h1 => ?_)
            · have h1 := of_decide_eq_true h1
              exact iteT ⟨_, rfl, bad (by rw [ez, decide_eq_false (by omega)]; rfl)⟩
            · have h1 : ¬ z < 0 := fun h => h1 (decide_eq_true h)
              refine ⟨_, rfl, _, _, rfl, rfl, _, rfl, ?_⟩
              refine ite2 (fun h2 => ?_) (fun h2 => ?_)
              · have h2 := of_decide_eq_true h2
                exact ⟨_, rfl, bad (by rw [ez, decide_eq_false (p := z < 3) (by omega), Bool.and_false])⟩
              · have h2 : ¬ 2 < z := fun h => h2 (decide_eq_true h)
                exact ⟨_, _, rfl, sA, a3 (by rw [ez, decide_eq_true (by omega : 0 ≤ z), decide_eq_true (by omega : z < 3)]; rfl)⟩
      · rintro σ H2 ⟨v3, v4, rfl, s2, a2⟩
        rw [show xs.take xs.length = xs from List.take_length] at a2
        exact kgood a2 _ s2
end
end One
end P_KC

section P_KD
set_option linter.all false
set_option maxRecDepth 100000
set_option maxHeartbeats 16000000
namespace One
open PySem PySem.Spec PyProof.Rows L2
theorem powB_40 : CPowB 10 40 := ⟨by decide, by decide +kernel⟩
abbrev sOd : Stmt := top 66
abbrev nOd : List Str := ["state", "some"]
theorem scOd : FnScope nOd ["state"] (defScope sOd) := ⟨rfl, rfl, rfl, by decide +kernel, rfl, by decide +kernel, by decide +kernel⟩
def spOd : Sp := fun vs H Q _ => ∃ (p a l : Addr) (n : Nat), vs = [.ref p] ∧ ML H p a l n ∧ n ≤ 900000 ∧ ∀ (H' : Hp) (v : V) (d : PyData), ML H' p a l (n + 1) → ExtL p l H H' → Da p l H' v d → Fx d 2 10 → Q v H'
section
variable {P : Program} {w : World} {K : PySem.W.Frag} {mg : Str → Option Value} {base : Heap}
theorem ok_od {f fD : Addr} {fd fdD : FuncData} (F : Fun K "_law_odd" "_law_odd" sOd f fd) (T : TB mg) (D : Cal K mg "_law_draw" fD fdD ["state", "many"]) (GD : FnOk P w K mg base CX0 2 fD fdD ["state", "many"] spDR) : FnOk P w K mg base CX0 3 f fd ["state"] spOd := by
  refine F.ok scOd (fun vs H Q E h => ?_) (fun cdv A outer s H vs Q E hr h => ?_)
  · obtain ⟨p, a, l, n, rfl, _⟩ := h
    rfl
  obtain ⟨p, a, l, n, rfl, M, hn, k⟩ := h
  · have nd := scOd.nd
    have hr2 : Room 2 _ := hr
    refine ⟨_, pss_cons (ps_set (i := 1) nd rfl (Or.inl rfl) (pe_lst (pa_cons pe_int (pa_cons (pe_un un_neg pe_int) (pa_cons pe_bl (pa_cons pe_bl (pa_cons pe_non (pa_cons pe_str (pa_cons (pe_tup (pa_cons pe_int pa_nil)) (pa_cons (pe_lstN pa_nil) (pa_cons (pe_op op_powB pe_int pe_int) (pa_cons (pe_op op_sub pe_int (pe_op op_powB pe_int pe_int)) (pa_cons pe_int (pa_cons pe_int (pa_cons pe_dnewK pa_nil)))))))))))))))
      (pss_one (ps_ret (pe_ix ix_list (pv 1) (pe_call GD hr2 rfl D.g D.kp D.b .nil pass0 (pa_cons (pv 0) (pa_cons pe_int pa_nil))) (fun _ _ => rfl)))), ?_⟩
    refine ⟨_, rfl, by show 1 ≤ sizeLine; decide, fun q1 h1 => ?_⟩
    have s1 := Same.new (o := .tup [V.int 1]) h1
    have g1 := upd_same (H := H) (a := q1) (o := .tup [V.int 1])
    obtain ⟨p1, l1⟩ := M.apart h1
    generalize upd H q1 (.tup [V.int 1]) = H1 at s1 g1
    have M1 := M.keep s1
    refine ⟨Nat.zero_le _, fun q2 n2 h2 => ?_⟩
    have s2 := Same.new (o := .lst []) h2
    have g2 := upd_same (H := H1) (a := q2) (o := .lst [])
    obtain ⟨p2, l2⟩ := M1.apart h2
    generalize upd H1 q2 (.lst []) = H2 at s2 g2
    have M2 := M1.keep s2
    refine ⟨_, _, rfl, rfl, powB_40, _, _, rfl, rfl, powB_40, _, _, rfl, rfl, ?_⟩
    intro q3 h3
    have s3 := Same.new (o := .dK []) h3
    have g3 := upd_same (H := H2) (a := q3) (o := .dK [])
    obtain ⟨p3, l3⟩ := M2.apart h3
    generalize upd H2 q3 (.dK []) = H3 at s3 g3
    have M3 := M2.keep s3
    refine ⟨by show 13 ≤ sizeLine; decide, fun L hL => ?_⟩
    have s4 := Same.new (o := .lst [V.int 3, (fun i : Int => V.int (-i)) 1, V.bl true, V.bl false, V.non, V.str "1", V.ref q1, V.ref q2, (fun i j : Int => V.int (i ^ j.toNat)) 10 40, (fun i j : Int => V.int (i - j)) 0 (10 ^ Int.toNat 40), V.int 0, V.int 2, V.ref q3]) hL
    have gL : (upd H3 L (.lst [V.int 3, (fun i : Int => V.int (-i)) 1, V.bl true, V.bl false, V.non, V.str "1", V.ref q1, V.ref q2, (fun i j : Int => V.int (i ^ j.toNat)) 10 40, (fun i j : Int => V.int (i - j)) 0 (10 ^ Int.toNat 40), V.int 0, V.int 2, V.ref q3])) L = some (.lst [V.int 3, V.int (-1), V.bl true, V.bl false, V.non, V.str "1", V.ref q1, V.ref q2, V.int (10 ^ 40), V.int (0 - 10 ^ 40), V.int 0, V.int 2, V.ref q3]) := upd_same
    obtain ⟨pL, lL⟩ := M3.apart hL
    generalize h4 : upd H3 L (.lst [V.int 3, (fun i : Int => V.int (-i)) 1, V.bl true, V.bl false, V.non, V.str "1", V.ref q1, V.ref q2, (fun i j : Int => V.int (i ^ j.toNat)) 10 40, (fun i j : Int => V.int (i - j)) 0 (10 ^ Int.toNat 40), V.int 0, V.int 2, V.ref q3]) = H4 at s4 gL
    have M4 := M3.keep s4
    have y1 : Da p l H4 (.ref q1) (.tuple [.int 1]) := .tup p1 l1 (s4 _ _ (s3 _ _ (s2 _ _ g1))) (.cons (.int 1) .nil)
    have y2 : Da p l H4 (.ref q2) (.list []) := .lst p2 l2 n2 (s4 _ _ (s3 _ _ g2)) .nil
    have all : DaAll p l H4 [V.int 3, V.int (-1), V.bl true, V.bl false, V.non, V.str "1", V.ref q1, V.ref q2, V.int (10 ^ 40), V.int (0 - 10 ^ 40), V.int 0, V.int 2, V.ref q3] [.int 3, .int (-1), .bool true, .bool false, .none, .str "1", .tuple [.int 1], .list [], .int (10 ^ 40), .int (0 - 10 ^ 40), .int 0, .int 2, .dict []] := .cons (.int 3) (.cons (.int (-1)) (.cons (.bl true) (.cons (.bl false) (.cons (.non) (.cons (.str "1") (.cons y1 (.cons y2 (.cons (.int (10 ^ 40)) (.cons (.int (0 - 10 ^ 40)) (.cons (.int 0) (.cons (.int 2) (.cons (.emp p3 l3 (s4 _ _ g3)) (.nil)))))))))))))
    have fit : FxL [.int 3, .int (-1), .bool true, .bool false, .none, .str "1", .tuple [.int 1], .list [], .int (10 ^ 40), .int (0 - 10 ^ 40), .int 0, .int 2, .dict []] := FxL.cons (⟨by decide +kernel, by decide +kernel, by decide +kernel, by decide +kernel⟩) (FxL.cons (⟨by decide +kernel, by decide +kernel, by decide +kernel, by decide +kernel⟩) (FxL.cons (⟨by decide +kernel, by decide +kernel, by decide +kernel, by decide +kernel⟩) (FxL.cons (⟨by decide +kernel, by decide +kernel, by decide +kernel, by decide +kernel⟩) (FxL.cons (⟨by decide +kernel, by decide +kernel, by decide +kernel, by decide +kernel⟩) (FxL.cons (⟨by decide +kernel, by decide +kernel, by decide +kernel, by decide +kernel⟩) (FxL.cons (⟨by decide +kernel, by decide +kernel, by decide +kernel, by decide +kernel⟩) (FxL.cons (⟨by decide +kernel, by decide +kernel, by decide +kernel, by decide +kernel⟩) (FxL.cons (⟨by decide +kernel, by decide +kernel, by decide +kernel, by decide +kernel⟩) (FxL.cons (⟨by decide +kernel, by decide +kernel, by decide +kernel, by decide +kernel⟩) (FxL.cons (⟨by decide +kernel, by decide +kernel, by decide +kernel, by decide +kernel⟩) (FxL.cons (⟨by decide +kernel, by decide +kernel, by decide +kernel, by decide +kernel⟩) (FxL.cons (⟨by decide +kernel, by decide +kernel, by decide +kernel, by decide +kernel⟩) (FxL.nil)))))))))))))
    have l13 : ([V.int 3, V.int (-1), V.bl true, V.bl false, V.non, V.str "1", V.ref q1, V.ref q2, V.int (10 ^ 40), V.int (0 - 10 ^ 40), V.int 0, V.int 2, V.ref q3] : List V).length = 13 := rfl
    refine ⟨_, rfl, _, rfl, p, a, l, _, 13, rfl, M4, by omega, by decide, by decide, fun HE r ME eE r0 rE => ?_⟩
    generalize ([.int 3, .int (-1), .bool true, .bool false, .none, .str "1", .tuple [.int 1], .list [], .int (10 ^ 40), .int (0 - 10 ^ 40), .int 0, .int 2, .dict []] : List PyData) = ds at all fit
    have gE := eE _ _ pL lL gL
    have fin : ∀ xs : List V, DaAll p l H4 xs ds → HE L = some (.lst xs) → xs.length = 13 → rIxL K (.ref L) (.int r) HE Q := fun xs all gE l13 => by
      have hj : r.toNat < xs.length := by omega
      obtain ⟨d, hd, hda⟩ := all.get (List.getElem?_eq_getElem hj)
      exact ⟨L, _, _, xs[r.toNat], rfl, rfl, SqL.of gE, at_of (j := r.toNat) (by omega) (List.getElem?_eq_getElem hj), k HE _ d ME ((ExtL.same (s1.trans (s2.trans (s3.trans s4)))).trans eE) (Da.extT (ExtT.ofL eE) _ _ hda) (fit d (List.mem_of_getElem? hd))⟩
    exact fin _ all gE l13
end
end One
end P_KD

section P_KE
set_option linter.all false
set_option maxRecDepth 100000
set_option maxHeartbeats 16000000
namespace One
open PySem PySem.Spec PyProof.Rows L2
abbrev sBe : Stmt := top 67
abbrev nBe : List Str := ["state", "setting", "way", "at", "found", "after"]
theorem scBe : FnScope nBe ["state", "setting"] (defScope sBe) := ⟨rfl, rfl, rfl, by decide +kernel, rfl, by decide +kernel, by decide +kernel⟩
def spBe : Sp := fun vs H Q _ => ∃ (p a l q : Addr) (n : Nat) (xs : List V), vs = [.ref p, .ref q] ∧ ML H p a l n ∧ n ≤ 800000 ∧ 0 < xs.length ∧ H q = some (.tup xs) ∧ Lk p l H xs 40 ∧
  ∀ (H' : Hp) (v : V) (d : PyData), ML H' p a l (n + 10) → ExtL p l H H' → Da p l H' v d → Fx d 4 9500 → Q v H'
section
variable {P : Program} {w : World} {K : PySem.W.Frag} {mg : Str → Option Value} {base : Heap}
theorem ok_be {f fD fO : Addr} {fd fdD fdO : FuncData} (F : Fun K "_law_bent" "_law_bent" sBe f fd) (T : TB mg) (D : Cal K mg "_law_draw" fD fdD ["state", "many"]) (GD : FnOk P w K mg base CX0 2 fD fdD ["state", "many"] spDR)
    (O : Cal K mg "_law_odd" fO fdO ["state"]) (GO : FnOk P w K mg base CX0 3 fO fdO ["state"] spOd) : FnOk P w K mg base CX0 4 f fd ["state", "setting"] spBe := by
  refine F.ok scBe (fun vs H Q E h => ?_) (fun cdv A outer s H vs Q E hr h => ?_)
  · obtain ⟨p, a, l, q, n, xs, rfl, _⟩ := h
    rfl
  · obtain ⟨p, a, l, q, n, xs, rfl, M, hn, x0, hq, hL, k⟩ := h
    have nd := scBe.nd
    have hr3 : Room 3 _ := hr
    have hr2 : Room 2 _ := hr.mono (by decide)
    refine ⟨_, pss_cons (ps_par (i := 2) (j := 3) (by rfl) nd rfl rfl (by decide) rfl rfl (pa_cons (pe_call GD hr2 rfl D.g D.kp D.b .nil pass0 (pa_cons (pv 0) (pa_cons pe_int pa_nil))) (pa_cons (pe_call GD hr2 rfl D.g D.kp D.b .nil pass0 (pa_cons (pv 0) (pa_cons (pe_callB call_len_seq (by rfl) T.len PySem.boot_len (pa_cons (pv 1) pa_nil)) pa_nil))) pa_nil)) (by rfl))
      (pss_cons (ps_if (pt_cmpR op_lt (pv 2) pe_int (nomark _)) (pss_cons (ps_set (i := 4) nd rfl (Or.inl rfl) (pe_op op_catA (pe_op op_catA (pe_slice sl_tupA (pv 1) po_none (po_some (pv 3))) (pe_tup (pa_cons (pe_call GO hr3 rfl O.g O.kp O.b .nil pass0 (pa_cons (pv 0) pa_nil)) pa_nil))) (pe_slice sl_tupA (pv 1) (po_some (pe_op op_add (pv 3) pe_int)) po_none)))
      (pss_cons (ps_set (i := 5) nd rfl (Or.inl rfl) (pe_call GD hr2 rfl D.g D.kp D.b .nil pass0 (pa_cons (pv 0) (pa_cons (pe_callB call_len_seq (by rfl) T.len PySem.boot_len (pa_cons (pv 1) pa_nil)) pa_nil))))
      (pss_one (ps_ret (pe_ifExp (pt_cmpR op_lt (pv 2) pe_int (nomark _)) (pv 4) (pe_op op_catA (pe_op op_catA (pe_slice sl_tupA (pv 4) po_none (po_some (pv 5))) (pe_tup (pa_cons (pe_call GO hr3 rfl O.g O.kp O.b .nil pass0 (pa_cons (pv 0) pa_nil)) pa_nil))) (pe_slice sl_tupA (pv 4) (po_some (pe_op op_add (pv 5) pe_int)) po_none))))))) pss_nil)
      (pss_cons (ps_if (pt_cmpR op_eq (pv 2) pe_int (nomark _)) (pss_one (ps_ret (pe_op op_catA (pe_slice sl_tupA (pv 1) po_none (po_some (pv 3))) (pe_slice sl_tupA (pv 1) (po_some (pe_op op_add (pv 3) pe_int)) po_none)))) pss_nil)
      (pss_cons (ps_if (pt_cmpR op_eq (pv 2) pe_int (nomark _)) (pss_one (ps_ret (pe_op op_catA (pv 1) (pe_tup (pa_cons (pe_call GO hr3 rfl O.g O.kp O.b .nil pass0 (pa_cons (pv 0) pa_nil)) pa_nil))))) pss_nil)
      (pss_cons (ps_if (pt_cmpR op_eq (pv 2) pe_int (nomark _)) (pss_one (ps_ret (pe_ix ix_list (pe_lst (pa_cons (pe_callTy call_listN (by rfl) T.list (by decide +kernel) (pa_cons (pv 1) pa_nil) (by decide)) (pa_cons pe_non (pa_cons pe_int (pa_cons pe_str (pa_cons pe_dnewK (pa_cons pe_bl (pa_cons (pe_lstN (pa_cons (pv 1) pa_nil)) (pa_cons (pe_tup (pa_cons (pv 1) pa_nil)) pa_nil))))))))) (pe_call GD hr2 rfl D.g D.kp D.b .nil pass0 (pa_cons (pv 0) (pa_cons pe_int pa_nil))) (fun _ _ => rfl)))) pss_nil)
      (pss_one (ps_ret (pe_op op_catA (pv 1) (pv 1)))))))), ?_⟩
    have x40 := hL.len
    have big : ∀ {i j : Nat}, i ≤ 800 → j ≤ 800 → i + j ≤ sizeLine := fun h1 h2 => Nat.le_trans (by omega : _ ≤ 1600) (by decide)
    have fin : ∀ {H' : Hp} {t : Addr} {ys : List V} {j k' : Nat}, ML H' p a l k' → k' ≤ n + 10 → ExtL p l H H' → H' t = some (.tup ys) → Lk p l H' ys j → j ≤ 800 → Q (.ref t) H' := fun {H' t ys j k'} M' hk e ht hk' hj => by
      obtain ⟨o1, o2⟩ := tup_off M' ht
      obtain ⟨d, g, f⟩ := hk'.tup ht o1 o2 hj
      exact k _ _ d (M'.lt hk (by omega)) e g (f.up (by decide) (by decide))
    refine ⟨_, rfl, p, a, l, n, 7, rfl, M, by omega, by decide, by decide, fun H1 wy M1 e1 w0 w7 => ?_⟩
    have hq1 := tupL M e1 _ _ hq
    refine ⟨_, rfl, _, rfl, q, _, rfl, .inr (SqT.of hq1), p, a, l, _, _, rfl, M1, by omega, by omega, by omega, fun H2 at_ M2 e2 a0 a1 => ⟨_, _, rfl, ?_⟩⟩
    have hq2 := tupL M1 e2 _ _ hq1
    have e02 := e1.trans e2
    have hL2 := hL.extT (ExtT.ofL e02)
    refine ⟨_, rfl, _, _, rfl, rfl, _, rfl, ?_⟩
    refine ite2 (fun _ => ?_) (fun _ => ?_)
    · refine sl_to rfl rfl hq2 fun H101 t101 s101 g101 => ?_
      have h102 := s101 _ _ hq2
      have L102 := hL2.same s101
      have M103 := M2.keep s101
      have e103 := e02.trans (ExtL.same s101)
      have K101 := L102.cut (none) (some at_)
      refine ⟨_, rfl, p, a, l, _, rfl, M103, by omega, fun H104 v104 d104 Mo104 eo104 hd104 fd104 => ?_⟩
      have h105 := tupL M103 eo104 _ _ h102
      have L105 := L102.extT (ExtT.ofL eo104)
      have h106 := tupL M103 eo104 _ _ g101
      have L106 := K101.extT (ExtT.ofL eo104)
      have e107 := e103.trans eo104
      refine ⟨by show 1 ≤ sizeLine; decide, fun t104 hn104 => ?_⟩
      have s104 := Same.new (o := .tup [v104]) hn104
      have g104 := upd_same (H := H104) (a := t104) (o := .tup [v104])
      have K104 := (Lk.one hd104 fd104).same s104
      generalize upd H104 t104 (.tup [v104]) = Hx104 at s104 g104 K104
      have h108 := s104 _ _ h105
      have L108 := L105.same s104
      have h109 := s104 _ _ h106
      have L109 := L106.same s104
      have M110 := Mo104.keep s104
      have e110 := e107.trans (ExtL.same s104)
      have bx111 := L109.len
      have by111 := K104.len
      refine rd_catA h109 g104 (big (by omega) (by omega)) fun H111 t111 s111 g111 => ?_
      have K111 := (L109.app K104).same s111
      have h112 := s111 _ _ h108
      have L112 := L108.same s111
      have h113 := s111 _ _ h109
      have L113 := L109.same s111
      have h114 := s111 _ _ g104
      have L114 := K104.same s111
      have M115 := M110.keep s111
      have e115 := e110.trans (ExtL.same s111)
      refine sl_from1 rfl rfl h112 fun H116 t116 s116 g116 => ?_
      have h117 := s116 _ _ h112
      have L117 := L112.same s116
      have h118 := s116 _ _ g111
      have L118 := K111.same s116
      have M119 := M115.keep s116
      have e119 := e115.trans (ExtL.same s116)
      have K116 := L117.cut (some (at_ + 1)) (none)
      have bx120 := L118.len
      have by120 := K116.len
      refine rd_catA h118 g116 (big (by omega) (by omega)) fun H120 t120 s120 g120 => ?_
      have K120 := (L118.app K116).same s120
      have h121 := s120 _ _ h117
      have L121 := L117.same s120
      have h122 := s120 _ _ h118
      have L122 := L118.same s120
      have h123 := s120 _ _ g116
      have L123 := K116.same s120
      have M124 := M119.keep s120
      have e124 := e119.trans (ExtL.same s120)
      refine ⟨_, rfl, _, rfl, q, _, rfl, .inr (SqT.of h121), p, a, l, _, ((xs.length : Nat) : Int), rfl, M124, by omega, by omega, by omega, fun H125 raf Mo125 eo125 r0af r1af => ?_⟩
      have h126 := tupL M124 eo125 _ _ h121
      have L126 := L121.extT (ExtT.ofL eo125)
      have h127 := tupL M124 eo125 _ _ g120
      have L127 := K120.extT (ExtT.ofL eo125)
      have e128 := e124.trans eo125
      refine ⟨_, rfl, _, _, rfl, rfl, _, rfl, ?_⟩
      refine ite2 (fun _ => ⟨_, rfl, ?_⟩) (fun _ => ?_)
      · exact fin Mo125 (by omega) e128 h127 L127 (by decide)
      · refine sl_to rfl rfl h127 fun H129 t129 s129 g129 => ?_
        have h130 := s129 _ _ h126
        have L130 := L126.same s129
        have h131 := s129 _ _ h127
        have L131 := L127.same s129
        have M132 := Mo125.keep s129
        have e132 := e128.trans (ExtL.same s129)
        have K129 := L131.cut (none) (some raf)
        refine ⟨_, rfl, p, a, l, _, rfl, M132, by omega, fun H133 v133 d133 Mo133 eo133 hd133 fd133 => ?_⟩
        have h134 := tupL M132 eo133 _ _ h130
        have L134 := L130.extT (ExtT.ofL eo133)
        have h135 := tupL M132 eo133 _ _ h131
        have L135 := L131.extT (ExtT.ofL eo133)
        have h136 := tupL M132 eo133 _ _ g129
        have L136 := K129.extT (ExtT.ofL eo133)
        have e137 := e132.trans eo133
        refine ⟨by show 1 ≤ sizeLine; decide, fun t133 hn133 => ?_⟩
        have s133 := Same.new (o := .tup [v133]) hn133
        have g133 := upd_same (H := H133) (a := t133) (o := .tup [v133])
        have K133 := (Lk.one hd133 fd133).same s133
        generalize upd H133 t133 (.tup [v133]) = Hx133 at s133 g133 K133
        have h138 := s133 _ _ h134
        have L138 := L134.same s133
        have h139 := s133 _ _ h135
        have L139 := L135.same s133
        have h140 := s133 _ _ h136
        have L140 := L136.same s133
        have M141 := Mo133.keep s133
        have e141 := e137.trans (ExtL.same s133)
        have bx142 := L140.len
        have by142 := K133.len
        refine rd_catA h140 g133 (big (by omega) (by omega)) fun H142 t142 s142 g142 => ?_
        have K142 := (L140.app K133).same s142
        have h143 := s142 _ _ h138
        have L143 := L138.same s142
        have h144 := s142 _ _ h139
        have L144 := L139.same s142
        have h145 := s142 _ _ h140
        have L145 := L140.same s142
        have h146 := s142 _ _ g133
        have L146 := K133.same s142
        have M147 := M141.keep s142
        have e147 := e141.trans (ExtL.same s142)
        refine sl_from1 rfl rfl h144 fun H148 t148 s148 g148 => ?_
        have h149 := s148 _ _ h143
        have L149 := L143.same s148
        have h150 := s148 _ _ h144
        have L150 := L144.same s148
        have h151 := s148 _ _ g142
        have L151 := K142.same s148
        have M152 := M147.keep s148
        have e152 := e147.trans (ExtL.same s148)
        have K148 := L150.cut (some (raf + 1)) (none)
        have bx153 := L151.len
        have by153 := K148.len
        refine rd_catA h151 g148 (big (by omega) (by omega)) fun H153 t153 s153 g153 => ?_
        have K153 := (L151.app K148).same s153
        have h154 := s153 _ _ h149
        have L154 := L149.same s153
        have h155 := s153 _ _ h150
        have L155 := L150.same s153
        have h156 := s153 _ _ h151
        have L156 := L151.same s153
        have h157 := s153 _ _ g148
        have L157 := K148.same s153
        have M158 := M152.keep s153
        have e158 := e152.trans (ExtL.same s153)
        exact fin M158 (by omega) e158 g153 K153 (by decide)
    · skip
      refine ⟨_, rfl, rfl, _, rfl, ?_⟩
      refine ite2 (fun _ => ?_) (fun _ => ?_)
      · refine sl_to rfl rfl hq2 fun H159 t159 s159 g159 => ?_
        have h160 := s159 _ _ hq2
        have L160 := hL2.same s159
        have M161 := M2.keep s159
        have e161 := e02.trans (ExtL.same s159)
        have K159 := L160.cut (none) (some at_)
        refine sl_from1 rfl rfl h160 fun H162 t162 s162 g162 => ?_
        have h163 := s162 _ _ h160
        have L163 := L160.same s162
        have h164 := s162 _ _ g159
        have L164 := K159.same s162
        have M165 := M161.keep s162
        have e165 := e161.trans (ExtL.same s162)
        have K162 := L163.cut (some (at_ + 1)) (none)
        have bx166 := L164.len
        have by166 := K162.len
        refine rd_catA h164 g162 (big (by omega) (by omega)) fun H166 t166 s166 g166 => ?_
        have K166 := (L164.app K162).same s166
        have h167 := s166 _ _ h163
        have L167 := L163.same s166
        have h168 := s166 _ _ h164
        have L168 := L164.same s166
        have h169 := s166 _ _ g162
        have L169 := K162.same s166
        have M170 := M165.keep s166
        have e170 := e165.trans (ExtL.same s166)
        exact fin M170 (by omega) e170 g166 K166 (by decide)
      · skip
        refine ⟨_, rfl, rfl, _, rfl, ?_⟩
        refine ite2 (fun _ => ?_) (fun _ => ?_)
        · refine ⟨_, rfl, ?_⟩
          refine ⟨_, rfl, p, a, l, _, rfl, M2, by omega, fun H171 v171 d171 Mo171 eo171 hd171 fd171 => ?_⟩
          have h172 := tupL M2 eo171 _ _ hq2
          have L172 := hL2.extT (ExtT.ofL eo171)
          have e173 := e02.trans eo171
          refine ⟨by show 1 ≤ sizeLine; decide, fun t171 hn171 => ?_⟩
          have s171 := Same.new (o := .tup [v171]) hn171
          have g171 := upd_same (H := H171) (a := t171) (o := .tup [v171])
          have K171 := (Lk.one hd171 fd171).same s171
          generalize upd H171 t171 (.tup [v171]) = Hx171 at s171 g171 K171
          have h174 := s171 _ _ h172
          have L174 := L172.same s171
          have M175 := Mo171.keep s171
          have e175 := e173.trans (ExtL.same s171)
          have bx176 := L174.len
          have by176 := K171.len
          refine rd_catA h174 g171 (big (by omega) (by omega)) fun H176 t176 s176 g176 => ?_
          have K176 := (L174.app K171).same s176
          have h177 := s176 _ _ h174
          have L177 := L174.same s176
          have h178 := s176 _ _ g171
          have L178 := K171.same s176
          have M179 := M175.keep s176
          have e179 := e175.trans (ExtL.same s176)
          exact fin M179 (by omega) e179 g176 K176 (by decide)
        · skip
          refine ⟨_, rfl, rfl, _, rfl, ?_⟩
          refine ite2 (fun _ => ?_) (fun _ => ?_)
          · obtain ⟨ds, g0, f0, c0⟩ := id hL2
            obtain ⟨qp, ql⟩ := tup_off M2 hq2
            have fA := fxA_all f0
            have hl := g0.len
            have b0 : (10 + 1) * ds.length ≤ 1760 := by omega
            refine ⟨_, rfl, q, _, rfl, SqT.of hq2, fun qa na ha => ?_⟩
            have sa := Same.new (o := .lst xs) ha
            have ga := upd_same (H := H2) (a := qa) (o := .lst xs)
            obtain ⟨ap, al⟩ := M2.apart ha
            generalize upd H2 qa (.lst xs) = Ha at sa ga
            have Ma := M2.keep sa
            intro qb hb
            have sb := Same.new (o := .dK []) hb
            have gb := upd_same (H := Ha) (a := qb) (o := .dK [])
            obtain ⟨bp, bl⟩ := Ma.apart hb
            generalize upd Ha qb (.dK []) = Hb at sb gb
            have Mb := Ma.keep sb
            refine ⟨_, rfl, by show 1 ≤ sizeLine; decide, fun qd nd2 hd => ?_⟩
            have sd := Same.new (o := .lst [V.ref q]) hd
            have gd := upd_same (H := Hb) (a := qd) (o := .lst [V.ref q])
            obtain ⟨dp, dl⟩ := Mb.apart hd
            generalize upd Hb qd (.lst [V.ref q]) = Hd at sd gd
            have Md := Mb.keep sd
            refine ⟨_, rfl, by show 1 ≤ sizeLine; decide, fun qc hc => ?_⟩
            have sc := Same.new (o := .tup [V.ref q]) hc
            have gc := upd_same (H := Hd) (a := qc) (o := .tup [V.ref q])
            obtain ⟨cp, cl⟩ := Md.apart hc
            generalize upd Hd qc (.tup [V.ref q]) = Hc at sc gc
            have Mc := Md.keep sc
            refine ⟨by show 8 ≤ sizeLine; decide, fun Lz hLz => ?_⟩
            have sz := Same.new (o := .lst [V.ref qa, V.non, V.int 5, V.str "bcd", V.ref qb, V.bl true, V.ref qd, V.ref qc]) hLz
            have gz := upd_same (H := Hc) (a := Lz) (o := .lst [V.ref qa, V.non, V.int 5, V.str "bcd", V.ref qb, V.bl true, V.ref qd, V.ref qc])
            obtain ⟨zp, zl⟩ := Mc.apart hLz
            generalize upd Hc Lz (.lst [V.ref qa, V.non, V.int 5, V.str "bcd", V.ref qb, V.bl true, V.ref qd, V.ref qc]) = Hz at sz gz
            have Mz := Mc.keep sz
            have scz := sc.trans sz
            have sdz := sd.trans scz
            have sbz := sb.trans sdz
            have saz := sa.trans sbz
            refine ⟨_, rfl, p, a, l, _, 8, rfl, Mz, by omega, by decide, by decide, fun HE r ME eE r0 r8 => ?_⟩
            have g2 := DaAll.extT (ExtT.ofS saz) _ _ g0
            have dl0 : Da p l Hz (.ref q) (.tuple ds) := .tup qp ql (saz _ _ hq2) g2
            have fl0 : Fx (.tuple ds) 3 1760 := fA.tup.up (by decide) b0
            have every : ∀ x ∈ [V.ref qa, V.non, V.int 5, V.str "bcd", V.ref qb, V.bl true, V.ref qd, V.ref qc], ∃ d, Da p l Hz x d ∧ Fx d 4 9500 := fun x hx => by
              simp only [List.mem_cons, List.not_mem_nil, or_false] at hx
              rcases hx with rfl | rfl | rfl | rfl | rfl | rfl | rfl | rfl
              · exact ⟨_, .lst ap al na (sbz _ _ ga) g2, fA.lst.up (by decide) (by omega)⟩
              · exact ⟨_, .non, ⟨by decide +kernel, by decide +kernel, by decide +kernel, by decide +kernel⟩⟩
              · exact ⟨_, .int 5, ⟨by decide +kernel, by decide +kernel, by decide +kernel, by decide +kernel⟩⟩
              · exact ⟨_, .str "bcd", ⟨by decide +kernel, by decide +kernel, by decide +kernel, by decide +kernel⟩⟩
              · exact ⟨_, .emp bp bl (sdz _ _ gb), ⟨by decide +kernel, by decide +kernel, by decide +kernel, by decide +kernel⟩⟩
              · exact ⟨_, .bl true, ⟨by decide +kernel, by decide +kernel, by decide +kernel, by decide +kernel⟩⟩
              · exact ⟨_, .lst dp dl nd2 (scz _ _ gd) (.cons dl0 .nil), (FxA.cons fl0 (FxA.nil (n := 0))).lst.up (by decide) (by decide)⟩
              · exact ⟨_, .tup cp cl (sz _ _ gc) (.cons dl0 .nil), (FxA.cons fl0 (FxA.nil (n := 0))).tup.up (by decide) (by decide)⟩
            have l8 : ([V.ref qa, V.non, V.int 5, V.str "bcd", V.ref qb, V.bl true, V.ref qd, V.ref qc] : List V).length = 8 := rfl
            generalize ([V.ref qa, V.non, V.int 5, V.str "bcd", V.ref qb, V.bl true, V.ref qd, V.ref qc] : List V) = zs at every gz l8
            have hj : r.toNat < zs.length := by omega
            obtain ⟨d, hda, hfx⟩ := every _ (List.getElem_mem hj)
            refine ⟨Lz, _, _, zs[r.toNat], rfl, rfl, SqL.of (eE _ _ zp zl gz), at_of (j := r.toNat) (by omega) (List.getElem?_eq_getElem hj), ?_⟩
            exact k HE _ d (ME.lt (by omega) (by omega)) ((e02.trans (ExtL.same saz)).trans eE) (Da.extT (ExtT.ofL eE) _ _ hda) hfx
          · skip
            refine ⟨_, rfl, _, rfl, ?_⟩
            have bx180 := hL2.len
            have by180 := hL2.len
            refine rd_catA hq2 hq2 (big (by omega) (by omega)) fun H180 t180 s180 g180 => ?_
            have K180 := (hL2.app hL2).same s180
            have h181 := s180 _ _ hq2
            have L181 := hL2.same s180
            have M182 := M2.keep s180
            have e182 := e02.trans (ExtL.same s180)
            exact fin M182 (by omega) e182 g180 K180 (by decide)
end
end One
end P_KE

section P_KF
set_option linter.all false
set_option maxRecDepth 100000
set_option maxHeartbeats 16000000
namespace One
open PySem PySem.Spec PyProof.Rows L2
abbrev sNy : Stmt := top 68
abbrev nNy : List Str := ["state", "yard", "many", "apart", "some", "one", "other"]
theorem scNy : FnScope nNy ["state", "yard"] (defScope sNy) := ⟨rfl, rfl, rfl, by decide +kernel, rfl, by decide +kernel, by decide +kernel⟩
/-- a yard that is refused, with its place -/
def NYat (C0 : Addr) (H : Hp) (x : V) : Prop := ∃ (w z : Addr) (tv : V) (pl : List Nat), x = .ref w ∧ H w = some (.tup [tv, .ref z]) ∧ H z = some (.tup (nats pl)) ∧ pl.length ≤ 1 ∧ (∀ n ∈ pl, n < 1000) ∧ ∀ E, RWrong C0 E H pl → BadY C0 tv H E
def spNY (C0 : Addr) : Sp := fun vs H Q _ => ∃ (p a l y : Addr) (n m : Nat) (ps : List (Nat × Nat)), vs = [.ref p, .ref y] ∧ ML H p a l n ∧ n ≤ 900000 ∧ YAt H y m ps ∧ m ≤ 40 ∧
  ∀ (H' : Hp) (x : V), ML H' p a l (n + 1) → ExtL p l H H' → (∀ Hx, ExtT p l H' Hx → NYat C0 Hx x) → Q x H'
structure Sn (p a l : Addr) (n : Nat) (H0 H : Hp) : Prop where
  s : Same H0 H
  M : ML H p a l n
def TupK (H H' : Hp) : Prop := ∀ b xs, H b = some (.tup xs) → H' b = some (.tup xs)
section
variable {C0 p a l : Addr} {n : Nat} {H0 H H1 : Hp} {xs : List V} {x : V}
theorem Sn.same (S : Sn p a l n H0 H) (s : Same H H1) : Sn p a l n H0 H1 := ⟨S.s.trans s, S.M.keep s⟩
theorem Same.free {b : Addr} (s : Same H H1) (h : H1 b = none) : H b = none := by
  cases e : H b with
  | none => rfl
  | some o => rw [s _ _ e] at h; cases h
theorem Sn.wr {L : Addr} {o : HO} (S : Sn p a l n H0 H) (M0 : ML H0 p a l n) (h0 : H0 L = none) : Sn p a l n H0 (upd H L o) := ⟨fun b u hb => (upd_ne (ne_of_none hb h0)).trans (S.s _ _ hb), ML.wrN M0 h0 S.M⟩
theorem TupK.wr {L : Addr} {xs ys : List V} (h : H L = some (.lst xs)) : TupK H (upd H L (.lst ys)) := fun b zs hb => (upd_ne (ne_of hb h (by intro z; cases z))).trans hb
/-- all of them are refused, whatever comes -/
def AllN (C0 p l : Addr) (H : Hp) (xs : List V) : Prop := ∀ Hx, ExtT p l H Hx → ∀ x ∈ xs, NYat C0 Hx x
theorem AllN.nil (H : Hp) : AllN C0 p l H [] := fun _ _ _ h => absurd h (by simp)
theorem AllN.add (A : AllN C0 p l H xs) (s : Same H H1) (N : ∀ Hx, ExtT p l H1 Hx → NYat C0 Hx x) : AllN C0 p l H1 (xs ++ [x]) := fun Hx e y hy => by
  rcases List.mem_append.mp hy with hy | hy
  · exact A Hx ((ExtT.ofS s).trans e) y hy
  · rw [List.mem_singleton.mp hy]
    exact N Hx e
theorem AllN.to (A : AllN C0 p l H xs) (s : Same H H1) : AllN C0 p l H1 xs := fun Hx e => A Hx ((ExtT.ofS s).trans e)
theorem ny0 {z w : Addr} {tv : V} (M : ML H p a l n) (hz : H z = none) (hw : (upd H z (.tup [])) w = none) (bad : ∀ Hx E, ExtT p l H Hx → RWrong C0 E Hx [] → BadY C0 tv Hx E) : ∀ Hx, ExtT p l (upd (upd H z (.tup [])) w (.tup [tv, .ref z])) Hx → NYat C0 Hx (.ref w) := fun Hx e => by
  have s1 := Same.new (o := .tup []) hz
  have s2 := Same.new (o := .tup [tv, V.ref z]) hw
  obtain ⟨a1, a2⟩ := M.apart hz
  obtain ⟨b1, b2⟩ := (M.keep s1).apart hw
  exact ⟨w, z, tv, [], rfl, e _ _ b1 b2 (by intro _ z; cases z) upd_same, e _ _ a1 a2 (by intro _ z; cases z) (s2 _ _ upd_same), Nat.zero_le _, fun n h => absurd h (by simp), fun E => bad Hx E ((ExtT.ofS (s1.trans s2)).trans e)⟩
def TupN (C0 : Addr) (H : Hp) (x : V) : Prop := ∀ Hx, TupK H Hx → NYat C0 Hx x
theorem TupN.to (A : TupN C0 H x) (s : TupK H H1) : TupN C0 H1 x := fun Hx e => A Hx fun b xs h => e _ _ (s _ _ h)
def ApN (ta : Addr) (xs : List V) (bs : List Addr) (qs : List (Nat × Nat)) (H : Hp) : Prop := ∀ Hx, TupK H Hx → Hx ta = some (.tup xs) ∧ PL Hx bs qs
theorem ApN.to {ta : Addr} {ys : List V} {bs : List Addr} {qs : List (Nat × Nat)} (A : ApN ta ys bs qs H) (s : TupK H H1) : ApN ta ys bs qs H1 := fun Hx e => A Hx fun b xs h => e _ _ (s _ _ h)
/-- by tuples alone -/
theorem nyT {z w : Addr} {tv : V} {pl : List Nat} (hz : H z = some (.tup (nats pl))) (hw : H w = none) (h1 : pl.length ≤ 1) (h2 : ∀ n ∈ pl, n < 1000) (bad : ∀ Hx E, TupK H Hx → RWrong C0 E Hx pl → BadY C0 tv Hx E) : ∀ Hx, TupK (upd H w (.tup [tv, .ref z])) Hx → NYat C0 Hx (.ref w) := fun Hx e => by
  have s2 := Same.new (o := .tup [tv, V.ref z]) hw
  exact ⟨w, z, tv, pl, rfl, e _ _ upd_same, e _ _ (s2 _ _ hz), h1, h2, fun E => bad Hx E fun b xs h => e _ _ (s2 _ _ h)⟩
end
section
variable {P : Program} {w : World} {K : PySem.W.Frag} {mg : Str → Option Value} {base : Heap} {C0 : Addr}
theorem ok_ny {f fD : Addr} {fd fdD : FuncData} (F : Fun K "_law_no_yard" "_law_no_yard" sNy f fd) (T : TB mg) (D : Cal K mg "_law_draw" fD fdD ["state", "many"]) (GD : FnOk P w K mg base CX0 2 fD fdD ["state", "many"] spDR) : FnOk P w K mg base CX0 3 f fd ["state", "yard"] (spNY C0) := by
  refine F.ok scNy (fun vs H Q E h => ?_) (fun cdv A outer s H vs Q E hr h => ?_)
  · obtain ⟨p, a, l, y, n, m, ps, rfl, _⟩ := h
    rfl
  · obtain ⟨p, a, l, y, n, m, ps, rfl, M, hn, hY, m40, k⟩ := h
    have nd := scNy.nd
    have hr2 : Room 2 _ := hr
    refine ⟨_, pss_cons (ps_set (i := 2) nd rfl (Or.inr rfl) (pe_callB call_len_seq (by rfl) T.len PySem.boot_len (pa_cons (pv 1) pa_nil)))
      (pss_cons (ps_set (i := 3) nd rfl (Or.inl rfl) (pe_op op_catA (pv 1) (pe_tupleOf (by rfl) T.tuple (pe_lc (own := [("one", 5), ("other", 6)]) (g := (gTup K 2 (gCons (gName 5) (gCons (gName 6) gNil)))) (tt := tYes) (te := (tTup (tCons (tOp (rI0 fun i j => .int (i + j)) (tVar 5) (tOp (rI CMul fun i j => .int (i * j)) (tC (.int 2)) (tVar 2))) (tCons (tOp (rI0 fun i j => .int (i + j)) (tVar 6) (tOp (rI CMul fun i j => .int (i * j)) (tC (.int 2)) (tVar 2))) tNil)))) rfl nd (pi_tup (pv 1)) (blkOk_by (N := nNy) (sc := defScope sNy) (by decide +kernel)) (fun _ _ _ _ _ => pg_tup rfl (pgs_cons (pg_name (i := 5) nd rfl (Or.inl rfl)) (pgs_cons (pg_name (i := 6) nd rfl (Or.inl rfl)) pgs_nil))) (fun _ _ _ _ _ => pts_nil) (fun _ _ _ _ _ => by exact (pe_tup (pa_cons (pe_op op_add (pv 5) (pe_op op_mul pe_int (pv 2))) (pa_cons (pe_op op_add (pv 6) (pe_op op_mul pe_int (pv 2))) pa_nil))))))))
      (pss_cons (ps_set (i := 4) nd rfl (Or.inl rfl) (pe_lst (pa_cons (pe_tup (pa_cons pe_non (pa_cons (pe_tup pa_nil) pa_nil))) (pa_cons (pe_tup (pa_cons pe_int (pa_cons (pe_tup pa_nil) pa_nil))) (pa_cons (pe_tup (pa_cons (pe_callTy call_list_of (by rfl) T.list (by decide +kernel) (pa_cons (pv 1) pa_nil) (by decide)) (pa_cons (pe_tup pa_nil) pa_nil))) (pa_cons (pe_tup (pa_cons (pe_slice sl_tupA (pv 1) (po_some pe_int) po_none) (pa_cons (pe_tup pa_nil) pa_nil))) (pa_cons (pe_tup (pa_cons (pe_tup pa_nil) (pa_cons (pe_tup pa_nil) pa_nil))) (pa_cons (pe_tup (pa_cons pe_str (pa_cons (pe_tup pa_nil) pa_nil))) (pa_cons (pe_tup (pa_cons (pe_lst (pa_cons (pv 1) pa_nil)) (pa_cons (pe_tup pa_nil) pa_nil))) (pa_cons (pe_tup (pa_cons pe_dnewK (pa_cons (pe_tup pa_nil) pa_nil))) pa_nil))))))))))
      (pss_cons (ps_expr (pe_bm PySem.F.plainAttrs_list PySem.F.slot_list_append PySem.F.type_list_append mt_append (pv 4) (pa_cons (pe_tup (pa_cons (pe_op op_catA (pv 1) (pv 1)) (pa_cons (pe_mid (pe_ifExp (pt_cmpR op_lt (pv 2) pe_int (nomark _)) (pe_tup (pa_cons (pv 2) pa_nil)) (pe_tup pa_nil))) pa_nil))) pa_nil)))
      (pss_cons (ps_set (i := 4) nd rfl (Or.inl rfl) (pe_op op_catS (pv 4) (pe_lst (pa_cons (pe_tup (pa_cons (pe_op op_catA (pe_slice sl_tupA (pv 1) po_none (po_some (pe_un un_neg pe_int))) (pe_tup (pa_cons (pe_tup (pa_cons pe_int (pa_cons pe_int pa_nil))) pa_nil))) (pa_cons (pe_tup (pa_cons (pe_op op_sub (pv 2) pe_int) pa_nil)) pa_nil))) (pa_cons (pe_tup (pa_cons (pe_revT (pv 1)) (pa_cons (pe_tup (pa_cons pe_int pa_nil)) pa_nil))) (pa_cons (pe_tup (pa_cons (pe_op op_catA (pe_slice sl_tupA (pv 1) po_none (po_some (pe_un un_neg pe_int))) (pe_tup (pa_cons pe_non pa_nil))) (pa_cons (pe_tup (pa_cons (pe_op op_sub (pv 2) pe_int) pa_nil)) pa_nil))) pa_nil))))))
      (pss_cons (ps_expr (pe_bm PySem.F.plainAttrs_list PySem.F.slot_list_append PySem.F.type_list_append mt_append (pv 4) (pa_cons (pe_tup (pa_cons (pv 3) (pa_cons (pe_mid (pe_ifExp (pt_cmpR op_lt (pv 2) pe_int (nomark _)) (pe_tup (pa_cons (pe_op op_mul pe_int (pv 2)) pa_nil)) (pe_tup pa_nil))) pa_nil))) pa_nil)))
      (pss_one (ps_ret (pe_ix ix_list (pv 4) (pe_call GD hr2 rfl D.g D.kp D.b .nil pass0 (pa_cons (pv 0) (pa_cons pe_int pa_nil))) (fun _ _ => rfl))))))))), ?_⟩
    obtain ⟨Y, as, ht, hP⟩ := id hY
    have hlen : (refs as).length = 2 * m := by rw [show (refs as).length = as.length from List.length_map _, hP.len]; exact Y.lines.len
    have Sn0 : Sn p a l n H H := ⟨Same.refl H, M⟩
    refine ⟨_, rfl, y, _, rfl, .inr (SqT.of ht), ?_⟩
    rw [hlen]
    have hpos := Y.pos
    have big : ∀ {i : Nat}, i ≤ 1000 → i ≤ sizeLine := fun h => Nat.le_trans h (by decide)
    refine ⟨_, rfl, _, rfl, y, rfl, ⟨_, SqT.of ht⟩, fun Dl hDl => ?_⟩
    have sD := Same.new (o := .lst []) hDl
    refine lc_it (walk_tup (K := K) (a := y) (xs := refs as)) (fun j H' => (∃ bs : List Addr, H' Dl = some (.lst (refs bs)) ∧ PL H' bs (shift (4 * m) (ps.take j))) ∧ Same H H') ⟨⟨[], upd_same, .nil⟩, sD⟩ (fun j H' _ h => SqT.of (h.2 _ _ ht)) ?_ ?_
    · rintro j x H2 H1 hj ⟨⟨bs, hl, hB⟩, s1⟩ ⟨rfl, hx⟩
      have hx : (refs as)[j]? = some x := hx
      rw [hlen] at hj
      obtain ⟨q, hq⟩ : ∃ q, ps[j]? = some q := ⟨_, List.getElem?_eq_getElem (by rw [Y.lines.len]; exact hj)⟩
      obtain ⟨b, hb, hqa⟩ := hP.get hq
      rw [show (refs as)[j]? = as[j]?.map V.ref from List.getElem?_map, hb] at hx
      cases hx
      have hDb : H Dl = none := hDl
      have hcm : CMul 2 ((2 * m : Nat) : Int) := .inl ⟨by decide, by decide⟩
      refine ⟨b, _, rfl, SqT.of (s1 _ _ hqa), rfl, _, _, rfl, _, _, rfl, rfl, ?_⟩
      refine ⟨rfl, yes ⟨_, rfl, _, rfl, _, _, rfl, rfl, hcm, _, _, rfl, rfl, _, rfl, _, rfl, _, _, rfl, rfl, hcm, _, _, rfl, rfl, two_le, fun c hc => ?_⟩⟩
      have e1 : (fun i j : Int => V.int (i + j)) ((q.1 : Nat) : Int) (2 * ((2 * m : Nat) : Int)) = V.int ((q.1 + 4 * m : Nat) : Int) := congrArg V.int (by omega)
      have e2 : (fun i j : Int => V.int (i + j)) ((q.2 : Nat) : Int) (2 * ((2 * m : Nat) : Int)) = V.int ((q.2 + 4 * m : Nat) : Int) := congrArg V.int (by omega)
      have sc := Same.new (o := .tup [(fun i j : Int => V.int (i + j)) ((q.1 : Nat) : Int) (2 * ((2 * m : Nat) : Int)), (fun i j : Int => V.int (i + j)) ((q.2 : Nat) : Int) (2 * ((2 * m : Nat) : Int))]) hc
      have gc : (upd H1 c (.tup [(fun i j : Int => V.int (i + j)) ((q.1 : Nat) : Int) (2 * ((2 * m : Nat) : Int)), (fun i j : Int => V.int (i + j)) ((q.2 : Nat) : Int) (2 * ((2 * m : Nat) : Int))])) c = some (.tup [V.int ((q.1 + 4 * m : Nat) : Int), V.int ((q.2 + 4 * m : Nat) : Int)]) := by rw [upd_same, e1, e2]
      generalize upd H1 c (.tup [(fun i j : Int => V.int (i + j)) ((q.1 : Nat) : Int) (2 * ((2 * m : Nat) : Int)), (fun i j : Int => V.int (i + j)) ((q.2 : Nat) : Int) (2 * ((2 * m : Nat) : Int))]) = HC at sc gc
      have hl3 := sc _ _ hl
      have hB3 := hB.mono (sameT sc)
      have s3 := s1.trans sc
      refine ⟨_, hl3, ?_, ⟨bs ++ [c], ?_, ?_⟩, fun b' o eo => (upd_ne (ne_of_none eo hDb)).trans (s3 _ _ eo)⟩
      · rw [show (refs bs).length = bs.length from List.length_map _, hB.len, show (shift (4 * m) (ps.take j)).length = (ps.take j).length from List.length_map _]
        exact small1000 (by rw [List.length_take]; omega)
      · rw [upd_same, refs_app]
        rfl
      · have k9 : ∀ b xs, HC b = some (.tup xs) → (upd HC Dl (.lst (refs bs ++ [V.ref c]))) b = some (.tup xs) := fun b xs h => (upd_ne (ne_of h hl3 (by intro z; cases z))).trans h
        rw [List.take_succ, hq, Option.toList_some, show shift (4 * m) (ps.take j ++ [q]) = shift (4 * m) (ps.take j) ++ [(q.1 + 4 * m, q.2 + 4 * m)] from List.map_append]
        exact (hB3.mono k9).app (.cons (p := (q.1 + 4 * m, q.2 + 4 * m)) (k9 _ _ gc) .nil)
    · rintro H1 ⟨⟨bs, hl, hB⟩, s1⟩
      rw [hlen, show ps.take (2 * m) = ps from List.take_of_length_le (by rw [Y.lines.len]; omega)] at hB
      have lb : (refs bs).length = 2 * m := by rw [show (refs bs).length = bs.length from List.length_map _, hB.len, show (shift (4 * m) ps).length = ps.length from List.length_map _, Y.lines.len]
      refine .inl ⟨Dl, _, rfl, SqL.of hl, fun tb htb => ?_⟩
      have sb := Same.new (o := .tup (refs bs)) htb
      have gb := upd_same (H := H1) (a := tb) (o := .tup (refs bs))
      have hB := hB.mono (sameT sb)
      generalize upd H1 tb (.tup (refs bs)) = H2 at sb gb hB
      refine rd_catA ((s1.trans sb) _ _ ht) gb (by rw [hlen, lb]; exact big (by omega)) fun H3 ta s3 ga => ?_
      have hB := hB.mono (sameT s3)
      have hP3 : PL H3 as ps := hP.mono (sameT (s1.trans (sb.trans s3)))
      have Sn0 : Sn p a l n H H3 := Sn0.same (s1.trans (sb.trans s3))
      have apn : ApN ta (refs as ++ refs bs) bs (shift (4 * m) ps) H3 := fun Hx e => ⟨e _ _ ga, hB.mono e⟩
      refine ⟨Nat.zero_le _, fun z1 hz1 => ⟨two_le, fun w1 hw1 => ?_⟩⟩
      have s1u := (Same.new (o := .tup []) hz1).trans (Same.new (o := .tup [V.non, V.ref z1]) hw1)
      have n1u := ny0 (C0 := C0) Sn0.M hz1 hw1 (tv := V.non) (fun Hx E e h => bad_other .non (by decide) h)
      generalize upd (upd H3 z1 (.tup [])) w1 (.tup [V.non, V.ref z1]) = Hu1 at s1u n1u
      have all := AllN.add (AllN.nil (p := p) (l := l) (C0 := C0) H3) s1u n1u
      have apn := apn.to (sameT s1u)
      have Sn_1u := Sn0.same s1u
      refine ⟨Nat.zero_le _, fun z2 hz2 => ⟨two_le, fun w2 hw2 => ?_⟩⟩
      have s2u := (Same.new (o := .tup []) hz2).trans (Same.new (o := .tup [V.int 5, V.ref z2]) hw2)
      have n2u := ny0 (C0 := C0) Sn_1u.M hz2 hw2 (tv := V.int 5) (fun Hx E e h => bad_other (.int 5) (by decide) h)
      generalize upd (upd Hu1 z2 (.tup [])) w2 (.tup [V.int 5, V.ref z2]) = Hu2 at s2u n2u
      have all := AllN.add all s2u n2u
      have apn := apn.to (sameT s2u)
      have Sn_2u := Sn_1u.same s2u
      refine ⟨_, rfl, y, _, rfl, .inr (SqT.of (Sn_2u.s _ _ ht)), fun q3 hq3 => ?_⟩
      have s3 := Same.new (o := .lst (refs as)) hq3
      have g3 := upd_same (H := Hu2) (a := q3) (o := .lst (refs as))
      have off3 := Sn_2u.M.apart hq3
      generalize upd Hu2 q3 (.lst (refs as)) = Ho3 at s3 g3
      have Sn_3 := Sn_2u.same s3
      have all := all.to s3
      have apn := apn.to (sameT s3)
      refine ⟨Nat.zero_le _, fun z3 hz3 => ⟨two_le, fun w3 hw3 => ?_⟩⟩
      have s3u := (Same.new (o := .tup []) hz3).trans (Same.new (o := .tup [V.ref q3, V.ref z3]) hw3)
      have n3u := ny0 (C0 := C0) Sn_3.M hz3 hw3 (tv := V.ref q3) (fun Hx E e h => bad_list (e _ _ off3.1 off3.2 (by intro _ z; cases z) g3) h)
      generalize upd (upd Ho3 z3 (.tup [])) w3 (.tup [V.ref q3, V.ref z3]) = Hu3 at s3u n3u
      have all := AllN.add all s3u n3u
      have apn := apn.to (sameT s3u)
      have Sn_3u := Sn_3.same s3u
      refine ⟨_, rfl, _, rfl, ?_⟩
      unfold tNoPart
      dsimp only
      refine rd_slA (Sn_3u.s _ _ ht) fun Ho4 q4 s4 g4 => ?_
      have Sn_4 := Sn_3u.same s4
      have all := all.to s4
      have apn := apn.to (sameT s4)
      have l4 : (cutV (refs as) (some 1) none).length = 2 * m - 1 := by
        rw [show (some (1 : Int)) = some ((1 : Nat) : Int) from rfl, cut_drop (by omega), List.length_drop, hlen]
      have odd : canBe ((2 * m - 1 : Nat) : Int) = false := by
        unfold canBe
        rw [decide_eq_false (p := ((2 * m - 1 : Nat) : Int) % 2 = 0) (by omega), Bool.and_false]
      have off4 := tup_off Sn_4.M g4
      refine ⟨Nat.zero_le _, fun z4 hz4 => ⟨two_le, fun w4 hw4 => ?_⟩⟩
      have s4u := (Same.new (o := .tup []) hz4).trans (Same.new (o := .tup [V.ref q4, V.ref z4]) hw4)
      have n4u := ny0 (C0 := C0) Sn_4.M hz4 hw4 (tv := V.ref q4) (fun Hx E e h => bad_count (e _ _ off4.1 off4.2 (by intro _ z; cases z) g4) (by rw [l4]; exact odd) h)
      generalize upd (upd Ho4 z4 (.tup [])) w4 (.tup [V.ref q4, V.ref z4]) = Hu4 at s4u n4u
      have all := AllN.add all s4u n4u
      have apn := apn.to (sameT s4u)
      have Sn_4u := Sn_4.same s4u
      refine ⟨Nat.zero_le _, fun q5 hq5 => ?_⟩
      have s5 := Same.new (o := .tup []) hq5
      have g5 := upd_same (H := Hu4) (a := q5) (o := .tup [])
      have off5 := Sn_4u.M.apart hq5
      generalize upd Hu4 q5 (.tup []) = Ho5 at s5 g5
      have Sn_5 := Sn_4u.same s5
      have all := all.to s5
      have apn := apn.to (sameT s5)
      refine ⟨Nat.zero_le _, fun z5 hz5 => ⟨two_le, fun w5 hw5 => ?_⟩⟩
      have s5u := (Same.new (o := .tup []) hz5).trans (Same.new (o := .tup [V.ref q5, V.ref z5]) hw5)
      have n5u := ny0 (C0 := C0) Sn_5.M hz5 hw5 (tv := V.ref q5) (fun Hx E e h => bad_count (e _ _ off5.1 off5.2 (by intro _ z; cases z) g5) (by decide) h)
      generalize upd (upd Ho5 z5 (.tup [])) w5 (.tup [V.ref q5, V.ref z5]) = Hu5 at s5u n5u
      have all := AllN.add all s5u n5u
      have apn := apn.to (sameT s5u)
      have Sn_5u := Sn_5.same s5u
      refine ⟨Nat.zero_le _, fun z6 hz6 => ⟨two_le, fun w6 hw6 => ?_⟩⟩
      have s6u := (Same.new (o := .tup []) hz6).trans (Same.new (o := .tup [V.str "0a-0b", V.ref z6]) hw6)
      have n6u := ny0 (C0 := C0) Sn_5u.M hz6 hw6 (tv := V.str "0a-0b") (fun Hx E e h => bad_other (.str _) (by decide) h)
      generalize upd (upd Hu5 z6 (.tup [])) w6 (.tup [V.str "0a-0b", V.ref z6]) = Hu6 at s6u n6u
      have all := AllN.add all s6u n6u
      have apn := apn.to (sameT s6u)
      have Sn_6u := Sn_5u.same s6u
      refine ⟨_, rfl, by show 1 ≤ sizeLine; decide, fun q7 hq7 => ?_⟩
      have s7 := Same.new (o := .lst [V.ref y]) hq7
      have g7 := upd_same (H := Hu6) (a := q7) (o := .lst [V.ref y])
      have off7 := Sn_6u.M.apart hq7
      generalize upd Hu6 q7 (.lst [V.ref y]) = Ho7 at s7 g7
      have Sn_7 := Sn_6u.same s7
      have all := all.to s7
      have apn := apn.to (sameT s7)
      refine ⟨Nat.zero_le _, fun z7 hz7 => ⟨two_le, fun w7 hw7 => ?_⟩⟩
      have s7u := (Same.new (o := .tup []) hz7).trans (Same.new (o := .tup [V.ref q7, V.ref z7]) hw7)
      have n7u := ny0 (C0 := C0) Sn_7.M hz7 hw7 (tv := V.ref q7) (fun Hx E e h => bad_list (e _ _ off7.1 off7.2 (by intro _ z; cases z) g7) h)
      generalize upd (upd Ho7 z7 (.tup [])) w7 (.tup [V.ref q7, V.ref z7]) = Hu7 at s7u n7u
      have all := AllN.add all s7u n7u
      have apn := apn.to (sameT s7u)
      have Sn_7u := Sn_7.same s7u
      intro q8 hq8
      have s8 := Same.new (o := .dK []) hq8
      have g8 := upd_same (H := Hu7) (a := q8) (o := .dK [])
      have off8 := Sn_7u.M.apart hq8
      generalize upd Hu7 q8 (.dK []) = Ho8 at s8 g8
      have Sn_8 := Sn_7u.same s8
      have all := all.to s8
      have apn := apn.to (sameT s8)
      refine ⟨Nat.zero_le _, fun z8 hz8 => ⟨two_le, fun w8 hw8 => ?_⟩⟩
      have s8u := (Same.new (o := .tup []) hz8).trans (Same.new (o := .tup [V.ref q8, V.ref z8]) hw8)
      have n8u := ny0 (C0 := C0) Sn_8.M hz8 hw8 (tv := V.ref q8) (fun Hx E e h => bad_other (.dct (e _ _ off8.1 off8.2 (by intro _ z; cases z) g8)) (by decide) h)
      generalize upd (upd Ho8 z8 (.tup [])) w8 (.tup [V.ref q8, V.ref z8]) = Hu8 at s8u n8u
      have all := AllN.add all s8u n8u
      have apn := apn.to (sameT s8u)
      have Sn_8u := Sn_8.same s8u
      refine ⟨by show 8 ≤ sizeLine; decide, fun L1 hL1 => ?_⟩
      have hL18 := hL1
      have hL1h := Sn_8u.s.free hL1
      have base8 := all
      have sL1 := Same.new (o := .lst [V.ref w1, V.ref w2, V.ref w3, V.ref w4, V.ref w5, V.ref w6, V.ref w7, V.ref w8]) hL1
      have gL1 := upd_same (H := Hu8) (a := L1) (o := .lst [V.ref w1, V.ref w2, V.ref w3, V.ref w4, V.ref w5, V.ref w6, V.ref w7, V.ref w8])
      have offL1 := Sn_8u.M.apart hL1
      generalize upd Hu8 L1 (.lst [V.ref w1, V.ref w2, V.ref w3, V.ref w4, V.ref w5, V.ref w6, V.ref w7, V.ref w8]) = HoL1 at sL1 gL1
      have Sn_L1 := Sn_8u.same sL1
      have all := all.to sL1
      have apn := apn.to (sameT sL1)
      have f8 : Same Hu8 HoL1 := sL1
      have f8 := f8
      refine ⟨_, rfl, .inl ⟨rfl, _, SqL.of gL1⟩, ?_⟩
      refine ⟨_, rfl, _, rfl, rd_catA (Sn_L1.s _ _ ht) (Sn_L1.s _ _ ht) (by rw [hlen]; exact big (by omega)) fun Hc9 q9 s9c g9 => ?_⟩
      have Sn_9c := Sn_L1.same s9c
      have f8 := f8.trans s9c
      have gL1 := s9c _ _ gL1
      have apn := apn.to (sameT s9c)
      refine ⟨fun v H' => ∃ z, v = .ref z ∧ Same Hc9 H' ∧ H' z = some (.tup (nats (if 2 * m < 41 then [2 * m] else []))), ?_, ?_⟩
      · refine ⟨_, rfl, _, _, rfl, rfl, _, rfl, ?_⟩
        refine ite2 (fun h => ?_) (fun h => ?_)
        · have h := of_decide_eq_true h
          refine ⟨_, rfl, (by show 1 ≤ sizeLine; decide), fun z hz => ⟨z, rfl, Same.new hz, ?_⟩⟩
          rw [if_pos (by omega), upd_same]
          rfl
        · have h : ¬ ((2 * m : Nat) : Int) < 41 := fun z => h (decide_eq_true z)
          refine ⟨Nat.zero_le _, fun z hz => ⟨z, rfl, Same.new hz, ?_⟩⟩
          rw [if_neg (by omega), upd_same]
          rfl
      rintro v Hz9 ⟨z9, rfl, s9z, gz9⟩
      have Sn_9z := Sn_9c.same s9z
      have f8 := f8.trans s9z
      have gL1 := s9z _ _ gL1
      have g9 := s9z _ _ g9
      have apn := apn.to (sameT s9z)
      refine ⟨two_le, fun w9 hw9 => ?_⟩
      have s9w := Same.new (o := .tup [V.ref q9, V.ref z9]) hw9
      have n9 : TupN C0 (upd Hz9 w9 (.tup [V.ref q9, V.ref z9])) (V.ref w9) := nyT (pl := if 2 * m < 41 then [2 * m] else []) gz9 hw9 (by split <;> simp) (by split <;> intro n hn <;> simp at hn <;> omega) fun Hx E e h => ?b9
      case b9 =>
        have hPx : PL Hx as ps := hP.mono fun b xs hb => e _ _ (Sn_9z.s _ _ hb)
        by_cases hc : 2 * m < 41
        · rw [if_pos hc] at h
          exact bad_twice Y hPx (by omega) (e _ _ g9) h
        · rw [if_neg hc] at h
          exact bad_count (e _ _ g9) (can_not (by rw [List.length_append, hlen]; omega)) h
      generalize upd Hz9 w9 (.tup [V.ref q9, V.ref z9]) = Hw9 at s9w n9
      have Sn_9w := Sn_9z.same s9w
      have f8 := f8.trans s9w
      have gL1 := s9w _ _ gL1
      have g9 := s9w _ _ g9
      have gz9 := s9w _ _ gz9
      have apn := apn.to (sameT s9w)
      have k9 : TupK Hw9 (upd Hw9 L1 (.lst ([V.ref w1, V.ref w2, V.ref w3, V.ref w4, V.ref w5, V.ref w6, V.ref w7, V.ref w8] ++ [V.ref w9]))) := TupK.wr gL1
      have Sn_9p := Sn_9w.wr (o := .lst ([V.ref w1, V.ref w2, V.ref w3, V.ref w4, V.ref w5, V.ref w6, V.ref w7, V.ref w8] ++ [V.ref w9])) M hL1h
      have f8 : Same Hu8 (upd Hw9 L1 (.lst ([V.ref w1, V.ref w2, V.ref w3, V.ref w4, V.ref w5, V.ref w6, V.ref w7, V.ref w8] ++ [V.ref w9]))) := fun b o hb => (upd_ne (ne_of_none hb hL18)).trans (f8 _ _ hb)
      refine ⟨L1, _, _, rfl, rfl, gL1, small1000 (by show 8 ≤ 1000; decide), ?_⟩
      have gL1' : (upd Hw9 L1 (.lst ([V.ref w1, V.ref w2, V.ref w3, V.ref w4, V.ref w5, V.ref w6, V.ref w7, V.ref w8] ++ [V.ref w9]))) L1 = some (.lst ([V.ref w1, V.ref w2, V.ref w3, V.ref w4, V.ref w5, V.ref w6, V.ref w7, V.ref w8] ++ [V.ref w9])) := upd_same
      generalize upd Hw9 L1 (.lst ([V.ref w1, V.ref w2, V.ref w3, V.ref w4, V.ref w5, V.ref w6, V.ref w7, V.ref w8] ++ [V.ref w9])) = Hp9 at k9 Sn_9p f8 gL1'
      have apn := apn.to k9
      have n9 := n9.to k9
      refine ⟨_, rfl, ?_⟩
      refine ⟨_, rfl, _, rfl, _, rfl, rd_slA (Sn_9p.s _ _ ht) fun HiA qA sAi gA => ?_⟩
      rw [cut_init, hlen] at gA
      have Sn_Ai := Sn_9p.same sAi
      have f8 := f8.trans sAi
      have gL1' := sAi _ _ gL1'
      have apn := apn.to (sameT sAi)
      have n9 := n9.to (sameT sAi)
      refine ⟨two_le, fun cA hcA => ?_⟩
      have scA := Same.new (o := .tup [V.int 0, V.int 0]) hcA
      have gcA : (upd HiA cA (.tup [V.int 0, V.int 0])) cA = some (.tup [V.int 0, V.int 0]) := upd_same
      have offcA := Sn_Ai.M.apart hcA
      generalize upd HiA cA (.tup [V.int 0, V.int 0]) = HocA at scA gcA
      have Sn_cA := Sn_Ai.same scA
      have f8 := f8.trans scA
      have gL1' := scA _ _ gL1'
      have gA := scA _ _ gA
      have apn := apn.to (sameT scA)
      have n9 := n9.to (sameT scA)
      refine ⟨by show 1 ≤ sizeLine; decide, fun dA hdA => ?_⟩
      have sdA := Same.new (o := .tup [V.ref cA]) hdA
      have gdA : (upd HocA dA (.tup [V.ref cA])) dA = some (.tup [V.ref cA]) := upd_same
      have offdA := Sn_cA.M.apart hdA
      generalize upd HocA dA (.tup [V.ref cA]) = HodA at sdA gdA
      have Sn_dA := Sn_cA.same sdA
      have f8 := f8.trans sdA
      have gL1' := sdA _ _ gL1'
      have gA := sdA _ _ gA
      have gcA := sdA _ _ gcA
      have apn := apn.to (sameT sdA)
      have n9 := n9.to (sameT sdA)
      have lt1 : ((refs as).take (2 * m - 1)).length = 2 * m - 1 := by rw [List.length_take, hlen]; omega
      refine rd_catA gA gdA (by rw [lt1]; exact big (by show 2 * m - 1 + 1 ≤ 1000; omega)) fun HcA qqA sAc gqA => ?_
      have Sn_Ac := Sn_dA.same sAc
      have f8 := f8.trans sAc
      have gL1' := sAc _ _ gL1'
      have gA := sAc _ _ gA
      have gcA := sAc _ _ gcA
      have gdA := sAc _ _ gdA
      have apn := apn.to (sameT sAc)
      have n9 := n9.to (sameT sAc)
      refine ⟨_, rfl, _, _, rfl, rfl, by show 1 ≤ sizeLine; decide, fun zA hzA => ?_⟩
      have ugly_zA : some (HO.tup [(fun i j : Int => V.int (i - j)) ((2 * m : Nat) : Int) 1]) = some (HO.tup (nats [2 * m - 1])) := congrArg (fun x => some (HO.tup [V.int x])) (by omega)
      have szA := Same.new (o := .tup [(fun i j : Int => V.int (i - j)) ((2 * m : Nat) : Int) 1]) hzA
      have gzA : (upd HcA zA (.tup [(fun i j : Int => V.int (i - j)) ((2 * m : Nat) : Int) 1])) zA = some (.tup (nats [2 * m - 1])) := by rw [upd_same]; exact ugly_zA
      have offzA := Sn_Ac.M.apart hzA
      generalize upd HcA zA (.tup [(fun i j : Int => V.int (i - j)) ((2 * m : Nat) : Int) 1]) = HozA at szA gzA
      have Sn_zA := Sn_Ac.same szA
      have f8 := f8.trans szA
      have gL1' := szA _ _ gL1'
      have gA := szA _ _ gA
      have gcA := szA _ _ gcA
      have gdA := szA _ _ gdA
      have gqA := szA _ _ gqA
      have apn := apn.to (sameT szA)
      have n9 := n9.to (sameT szA)
      refine ⟨two_le, fun wA hwA => ?_⟩
      have sAw := Same.new (o := .tup [V.ref qqA, V.ref zA]) hwA
      have nA : TupN C0 (upd HozA wA (.tup [V.ref qqA, V.ref zA])) (V.ref wA) := nyT (pl := [2 * m - 1]) gzA hwA (Nat.le_refl 1) (fun n hn => by rw [List.mem_singleton.mp hn]; omega) fun Hx E e h => ?bA
      case bA =>
        have hPx : PL Hx as ps := hP.mono fun b xs hb => e _ _ (Sn_zA.s _ _ hb)
        exact bad_last Y m40 hPx (e _ _ gqA) (.tup (e _ _ gcA) (fun y hy => ⟨"int", by simp at hy; rw [hy]; exact .int 0⟩) (by show (_ && _ && _) = false; exact Bool.and_false _) .nil) h
      generalize upd HozA wA (.tup [V.ref qqA, V.ref zA]) = HwA at sAw nA
      have Sn_Aw := Sn_zA.same sAw
      have f8 := f8.trans sAw
      have gL1' := sAw _ _ gL1'
      have gA := sAw _ _ gA
      have gcA := sAw _ _ gcA
      have gdA := sAw _ _ gdA
      have gqA := sAw _ _ gqA
      have gzA := sAw _ _ gzA
      have apn := apn.to (sameT sAw)
      have n9 := n9.to (sameT sAw)
      refine ⟨_, rfl, y, _, rfl, SqT.of (Sn_Aw.s _ _ ht), fun qB hqB => ?_⟩
      have sqB := Same.new (o := .tup (refs as).reverse) hqB
      have gqB : (upd HwA qB (.tup (refs as).reverse)) qB = some (.tup (refs as).reverse) := upd_same
      have offqB := Sn_Aw.M.apart hqB
      generalize upd HwA qB (.tup (refs as).reverse) = HoqB at sqB gqB
      have Sn_qB := Sn_Aw.same sqB
      have f8 := f8.trans sqB
      have gL1' := sqB _ _ gL1'
      have apn := apn.to (sameT sqB)
      have n9 := n9.to (sameT sqB)
      have nA := nA.to (sameT sqB)
      refine ⟨by show 1 ≤ sizeLine; decide, fun zB hzB => ?_⟩
      have szB := Same.new (o := .tup [V.int 1]) hzB
      have gzB : (upd HoqB zB (.tup [V.int 1])) zB = some (.tup [V.int 1]) := upd_same
      have offzB := Sn_qB.M.apart hzB
      generalize upd HoqB zB (.tup [V.int 1]) = HozB at szB gzB
      have Sn_zB := Sn_qB.same szB
      have f8 := f8.trans szB
      have gL1' := szB _ _ gL1'
      have gqB := szB _ _ gqB
      have apn := apn.to (sameT szB)
      have n9 := n9.to (sameT szB)
      have nA := nA.to (sameT szB)
      refine ⟨two_le, fun wB hwB => ?_⟩
      have sBw := Same.new (o := .tup [V.ref qB, V.ref zB]) hwB
      have nB : TupN C0 (upd HozB wB (.tup [V.ref qB, V.ref zB])) (V.ref wB) := nyT (pl := [1]) gzB hwB (Nat.le_refl 1) (fun n hn => by rw [List.mem_singleton.mp hn]; omega) fun Hx E e h => ?bB
      case bB =>
        have hPx : PL Hx as ps := hP.mono fun b xs hb => e _ _ (Sn_zB.s _ _ hb)
        exact bad_rev (y := y) Y hPx m40 (e _ _ gqB) h
      generalize upd HozB wB (.tup [V.ref qB, V.ref zB]) = HwB at sBw nB
      have Sn_Bw := Sn_zB.same sBw
      have f8 := f8.trans sBw
      have gL1' := sBw _ _ gL1'
      have gqB := sBw _ _ gqB
      have gzB := sBw _ _ gzB
      have apn := apn.to (sameT sBw)
      have n9 := n9.to (sameT sBw)
      have nA := nA.to (sameT sBw)
      refine ⟨_, rfl, _, rfl, _, rfl, rd_slA (Sn_Bw.s _ _ ht) fun HiC qC sCi gC => ?_⟩
      rw [cut_init, hlen] at gC
      have Sn_Ci := Sn_Bw.same sCi
      have f8 := f8.trans sCi
      have gL1' := sCi _ _ gL1'
      have apn := apn.to (sameT sCi)
      have n9 := n9.to (sameT sCi)
      have nA := nA.to (sameT sCi)
      have nB := nB.to (sameT sCi)
      refine ⟨by show 1 ≤ sizeLine; decide, fun dC hdC => ?_⟩
      have sdC := Same.new (o := .tup [V.non]) hdC
      have gdC : (upd HiC dC (.tup [V.non])) dC = some (.tup [V.non]) := upd_same
      have offdC := Sn_Ci.M.apart hdC
      generalize upd HiC dC (.tup [V.non]) = HodC at sdC gdC
      have Sn_dC := Sn_Ci.same sdC
      have f8 := f8.trans sdC
      have gL1' := sdC _ _ gL1'
      have gC := sdC _ _ gC
      have apn := apn.to (sameT sdC)
      have n9 := n9.to (sameT sdC)
      have nA := nA.to (sameT sdC)
      have nB := nB.to (sameT sdC)
      refine rd_catA gC gdC (by rw [lt1]; exact big (by show 2 * m - 1 + 1 ≤ 1000; omega)) fun HcC qqC sCc gqC => ?_
      have Sn_Cc := Sn_dC.same sCc
      have f8 := f8.trans sCc
      have gL1' := sCc _ _ gL1'
      have gC := sCc _ _ gC
      have gdC := sCc _ _ gdC
      have apn := apn.to (sameT sCc)
      have n9 := n9.to (sameT sCc)
      have nA := nA.to (sameT sCc)
      have nB := nB.to (sameT sCc)
      refine ⟨_, rfl, _, _, rfl, rfl, by show 1 ≤ sizeLine; decide, fun zC hzC => ?_⟩
      have ugly_zC : some (HO.tup [(fun i j : Int => V.int (i - j)) ((2 * m : Nat) : Int) 1]) = some (HO.tup (nats [2 * m - 1])) := congrArg (fun x => some (HO.tup [V.int x])) (by omega)
      have szC := Same.new (o := .tup [(fun i j : Int => V.int (i - j)) ((2 * m : Nat) : Int) 1]) hzC
      have gzC : (upd HcC zC (.tup [(fun i j : Int => V.int (i - j)) ((2 * m : Nat) : Int) 1])) zC = some (.tup (nats [2 * m - 1])) := by rw [upd_same]; exact ugly_zC
      have offzC := Sn_Cc.M.apart hzC
      generalize upd HcC zC (.tup [(fun i j : Int => V.int (i - j)) ((2 * m : Nat) : Int) 1]) = HozC at szC gzC
      have Sn_zC := Sn_Cc.same szC
      have f8 := f8.trans szC
      have gL1' := szC _ _ gL1'
      have gC := szC _ _ gC
      have gdC := szC _ _ gdC
      have gqC := szC _ _ gqC
      have apn := apn.to (sameT szC)
      have n9 := n9.to (sameT szC)
      have nA := nA.to (sameT szC)
      have nB := nB.to (sameT szC)
      refine ⟨two_le, fun wC hwC => ?_⟩
      have sCw := Same.new (o := .tup [V.ref qqC, V.ref zC]) hwC
      have nC : TupN C0 (upd HozC wC (.tup [V.ref qqC, V.ref zC])) (V.ref wC) := nyT (pl := [2 * m - 1]) gzC hwC (Nat.le_refl 1) (fun n hn => by rw [List.mem_singleton.mp hn]; omega) fun Hx E e h => ?bC
      case bC =>
        have hPx : PL Hx as ps := hP.mono fun b xs hb => e _ _ (Sn_zC.s _ _ hb)
        exact bad_last Y m40 hPx (e _ _ gqC) (.flat .non (by decide) .nil) h
      generalize upd HozC wC (.tup [V.ref qqC, V.ref zC]) = HwC at sCw nC
      have Sn_Cw := Sn_zC.same sCw
      have f8 := f8.trans sCw
      have gL1' := sCw _ _ gL1'
      have gC := sCw _ _ gC
      have gdC := sCw _ _ gdC
      have gqC := sCw _ _ gqC
      have gzC := sCw _ _ gzC
      have apn := apn.to (sameT sCw)
      have n9 := n9.to (sameT sCw)
      have nA := nA.to (sameT sCw)
      have nB := nB.to (sameT sCw)
      refine ⟨by show 3 ≤ sizeLine; decide, fun L2 hL2 => ?_⟩
      have sL2 := Same.new (o := .lst [V.ref wA, V.ref wB, V.ref wC]) hL2
      have gL2 : (upd HwC L2 (.lst [V.ref wA, V.ref wB, V.ref wC])) L2 = some (.lst [V.ref wA, V.ref wB, V.ref wC]) := upd_same
      have offL2 := Sn_Cw.M.apart hL2
      generalize upd HwC L2 (.lst [V.ref wA, V.ref wB, V.ref wC]) = HoL2 at sL2 gL2
      have Sn_L2 := Sn_Cw.same sL2
      have f8 := f8.trans sL2
      have gL1' := sL2 _ _ gL1'
      have apn := apn.to (sameT sL2)
      have n9 := n9.to (sameT sL2)
      have nA := nA.to (sameT sL2)
      have nB := nB.to (sameT sL2)
      have nC := nC.to (sameT sL2)
      refine ⟨L1, L2, _, _, rfl, rfl, SqL.of gL1', gL2, Nat.le_of_lt (small1000 (by show 12 ≤ 1000; decide)), fun L3 hL3 => ?_⟩
      have hL3h := Sn_L2.s.free hL3
      have hL38 := f8.free hL3
      have sL3 := Same.new (o := .lst (([V.ref w1, V.ref w2, V.ref w3, V.ref w4, V.ref w5, V.ref w6, V.ref w7, V.ref w8] ++ [V.ref w9]) ++ [V.ref wA, V.ref wB, V.ref wC])) hL3
      have gL3 : (upd HoL2 L3 (.lst (([V.ref w1, V.ref w2, V.ref w3, V.ref w4, V.ref w5, V.ref w6, V.ref w7, V.ref w8] ++ [V.ref w9]) ++ [V.ref wA, V.ref wB, V.ref wC]))) L3 = some (.lst (([V.ref w1, V.ref w2, V.ref w3, V.ref w4, V.ref w5, V.ref w6, V.ref w7, V.ref w8] ++ [V.ref w9]) ++ [V.ref wA, V.ref wB, V.ref wC])) := upd_same
      have offL3 := Sn_L2.M.apart hL3
      generalize upd HoL2 L3 (.lst (([V.ref w1, V.ref w2, V.ref w3, V.ref w4, V.ref w5, V.ref w6, V.ref w7, V.ref w8] ++ [V.ref w9]) ++ [V.ref wA, V.ref wB, V.ref wC])) = HoL3 at sL3 gL3
      have Sn_L3 := Sn_L2.same sL3
      have f8 := f8.trans sL3
      have apn := apn.to (sameT sL3)
      have n9 := n9.to (sameT sL3)
      have nA := nA.to (sameT sL3)
      have nB := nB.to (sameT sL3)
      have nC := nC.to (sameT sL3)
      refine ⟨_, rfl, .inl ⟨rfl, _, SqL.of gL3⟩, ?_⟩
      refine ⟨_, rfl, ?_⟩
      refine ⟨fun v H' => ∃ z, v = .ref z ∧ Same HoL3 H' ∧ H' z = some (.tup (nats (if 2 * m < 41 then [4 * m] else []))), ?_, ?_⟩
      · refine ⟨_, rfl, _, _, rfl, rfl, _, rfl, ?_⟩
        refine ite2 (fun h => ?_) (fun h => ?_)
        · have h := of_decide_eq_true h
          refine ⟨_, rfl, _, _, rfl, rfl, .inl ⟨by decide, by decide⟩, (by show 1 ≤ sizeLine; decide), fun z hz => ⟨z, rfl, Same.new hz, ?_⟩⟩
          rw [if_pos (by omega), upd_same]
          exact congrArg (fun x => some (HO.tup [V.int x])) (by omega)
        · have h : ¬ ((2 * m : Nat) : Int) < 41 := fun z => h (decide_eq_true z)
          refine ⟨Nat.zero_le _, fun z hz => ⟨z, rfl, Same.new hz, ?_⟩⟩
          rw [if_neg (by omega), upd_same]
          rfl
      rintro v HzD ⟨zD, rfl, sDz, gzD⟩
      have Sn_Dz := Sn_L3.same sDz
      have f8 := f8.trans sDz
      have gL3 := sDz _ _ gL3
      have apn := apn.to (sameT sDz)
      have n9 := n9.to (sameT sDz)
      have nA := nA.to (sameT sDz)
      have nB := nB.to (sameT sDz)
      have nC := nC.to (sameT sDz)
      refine ⟨two_le, fun wD hwD => ?_⟩
      have sDw := Same.new (o := .tup [V.ref ta, V.ref zD]) hwD
      have nD : TupN C0 (upd HzD wD (.tup [V.ref ta, V.ref zD])) (V.ref wD) := nyT (pl := if 2 * m < 41 then [4 * m] else []) gzD hwD (by split <;> simp) (by split <;> intro n hn <;> simp at hn <;> omega) fun Hx E e h => ?bD
      case bD =>
        have hPx : PL Hx as ps := hP.mono fun b xs hb => e _ _ (Sn_Dz.s _ _ hb)
        obtain ⟨ax, bx⟩ := apn Hx e
        by_cases hc : 2 * m < 41
        · rw [if_pos hc] at h
          exact bad_apart Y hPx bx (by omega) ax h
        · rw [if_neg hc] at h
          exact bad_count ax (can_not (by rw [List.length_append, hlen, lb]; omega)) h
      generalize upd HzD wD (.tup [V.ref ta, V.ref zD]) = HwD at sDw nD
      have Sn_Dw := Sn_Dz.same sDw
      have f8 := f8.trans sDw
      have gL3 := sDw _ _ gL3
      have gzD := sDw _ _ gzD
      have apn := apn.to (sameT sDw)
      have n9 := n9.to (sameT sDw)
      have nA := nA.to (sameT sDw)
      have nB := nB.to (sameT sDw)
      have nC := nC.to (sameT sDw)
      have kD : TupK HwD (upd HwD L3 (.lst (([V.ref w1, V.ref w2, V.ref w3, V.ref w4, V.ref w5, V.ref w6, V.ref w7, V.ref w8] ++ [V.ref w9]) ++ [V.ref wA, V.ref wB, V.ref wC] ++ [V.ref wD]))) := TupK.wr gL3
      have Sn_Dp := Sn_Dw.wr (o := .lst (([V.ref w1, V.ref w2, V.ref w3, V.ref w4, V.ref w5, V.ref w6, V.ref w7, V.ref w8] ++ [V.ref w9]) ++ [V.ref wA, V.ref wB, V.ref wC] ++ [V.ref wD])) M hL3h
      have f8 : Same Hu8 (upd HwD L3 (.lst (([V.ref w1, V.ref w2, V.ref w3, V.ref w4, V.ref w5, V.ref w6, V.ref w7, V.ref w8] ++ [V.ref w9]) ++ [V.ref wA, V.ref wB, V.ref wC] ++ [V.ref wD]))) := fun b o hb => (upd_ne (ne_of_none hb hL38)).trans (f8 _ _ hb)
      refine ⟨L3, _, _, rfl, rfl, gL3, small1000 (by show 12 ≤ 1000; decide), ?_⟩
      have gL3' : (upd HwD L3 (.lst (([V.ref w1, V.ref w2, V.ref w3, V.ref w4, V.ref w5, V.ref w6, V.ref w7, V.ref w8] ++ [V.ref w9]) ++ [V.ref wA, V.ref wB, V.ref wC] ++ [V.ref wD]))) L3 = some (.lst (([V.ref w1, V.ref w2, V.ref w3, V.ref w4, V.ref w5, V.ref w6, V.ref w7, V.ref w8] ++ [V.ref w9]) ++ [V.ref wA, V.ref wB, V.ref wC] ++ [V.ref wD])) := upd_same
      generalize upd HwD L3 (.lst (([V.ref w1, V.ref w2, V.ref w3, V.ref w4, V.ref w5, V.ref w6, V.ref w7, V.ref w8] ++ [V.ref w9]) ++ [V.ref wA, V.ref wB, V.ref wC] ++ [V.ref wD])) = HpD at kD Sn_Dp f8 gL3'
      have apn := apn.to kD
      have n9 := n9.to kD
      have nA := nA.to kD
      have nB := nB.to kD
      have nC := nC.to kD
      have nD := nD.to kD
      have offL := Sn_Dp.M
      have ofL : L3 ≠ p ∧ L3 ≠ l := offL3
      refine ⟨_, rfl, _, rfl, p, a, l, _, 13, rfl, offL, by omega, by decide, by decide, fun HE r ME eE r0 rE => ?_⟩
      have hE : HE L3 = some (.lst (([V.ref w1, V.ref w2, V.ref w3, V.ref w4, V.ref w5, V.ref w6, V.ref w7, V.ref w8] ++ [V.ref w9]) ++ [V.ref wA, V.ref wB, V.ref wC] ++ [V.ref wD])) := eE _ _ ofL.1 ofL.2 gL3'
      have every : ∀ x ∈ (([V.ref w1, V.ref w2, V.ref w3, V.ref w4, V.ref w5, V.ref w6, V.ref w7, V.ref w8] ++ [V.ref w9]) ++ [V.ref wA, V.ref wB, V.ref wC] ++ [V.ref wD] : List V), ∀ Hx, ExtT p l HE Hx → NYat C0 Hx x := fun x hx Hx e => by
        have tE : TupK HpD Hx := fun b xs h => by
          obtain ⟨o1, o2⟩ := tup_off offL h
          exact e _ _ o1 o2 (by intro _ z; cases z) (eE _ _ o1 o2 h)
        rcases List.mem_append.mp hx with hx | hx
        · rcases List.mem_append.mp hx with hx | hx
          · rcases List.mem_append.mp hx with hx | hx
            · exact base8 Hx (((ExtT.ofS f8).trans (ExtT.ofL eE)).trans e) x hx
            · rw [List.mem_singleton.mp hx]
              exact n9 Hx tE
          · simp only [List.mem_cons, List.not_mem_nil, or_false] at hx
            rcases hx with rfl | rfl | rfl
            · exact nA Hx tE
            · exact nB Hx tE
            · exact nC Hx tE
        · rw [List.mem_singleton.mp hx]
          exact nD Hx tE
      have l13 : (([V.ref w1, V.ref w2, V.ref w3, V.ref w4, V.ref w5, V.ref w6, V.ref w7, V.ref w8] ++ [V.ref w9]) ++ [V.ref wA, V.ref wB, V.ref wC] ++ [V.ref wD] : List V).length = 13 := rfl
      have e0 : ExtL p l H HE := (ExtL.same Sn_Dp.s).trans eE
      generalize (([V.ref w1, V.ref w2, V.ref w3, V.ref w4, V.ref w5, V.ref w6, V.ref w7, V.ref w8] ++ [V.ref w9]) ++ [V.ref wA, V.ref wB, V.ref wC] ++ [V.ref wD] : List V) = xs at hE every l13
      have hj : r.toNat < xs.length := by omega
      exact ⟨L3, _, _, xs[r.toNat], rfl, rfl, SqL.of hE, at_of (j := r.toNat) (by omega) (List.getElem?_eq_getElem hj), k HE _ ME e0 (every _ (List.getElem_mem hj))⟩
end
end One
end P_KF

section P_KG
set_option linter.all false
set_option maxRecDepth 100000
set_option maxHeartbeats 16000000
namespace One
open PySem PySem.Spec PyProof.Rows L2
abbrev sAr : Stmt := top 69
abbrev sIl : Stmt := top 70
abbrev sSp : Stmt := top 71
abbrev nAr : List Str := ["yard", "thing", "due", "end", "crossing", "said"]
abbrev nIl : List Str := ["yard", "setting"]
abbrev nSp : List Str := ["state", "yard", "setting", "many", "end", "crossing", "said"]
theorem scAr : FnScope nAr ["yard", "thing", "due", "end", "crossing"] (defScope sAr) := ⟨rfl, rfl, rfl, by decide +kernel, rfl, by decide +kernel, by decide +kernel⟩
theorem scIl : FnScope nIl ["yard", "setting"] (defScope sIl) := ⟨rfl, rfl, rfl, by decide +kernel, rfl, by decide +kernel, by decide +kernel⟩
theorem scSp : FnScope nSp ["state", "yard", "setting"] (defScope sSp) := ⟨rfl, rfl, rfl, by decide +kernel, rfl, by decide +kernel, by decide +kernel⟩
/-- a def whose code object stands at c -/
structure FunC (K : PySem.W.Frag) (x qual : Str) (st : Stmt) (f : Addr) (fd : FuncData) (c : Addr) : Prop where
  ex : ∃ (oc : Value) (od : Option Addr) (kV doc pm : Value) (an : Option Addr) (ct : Value) (osl : Array (Option Value)),
    fd = PySem.W.fnOf x qual (defArgs st) (defBody st) (defScope st) .none kV doc pm an (.ref c) ct ∧ K.lookup f = some ⟨oc, od, .func fd, osl⟩ ∧ PySem.W.codeIn K (.ref c) qual = true
section
variable {P : Program} {w : World} {K : PySem.W.Frag} {mg : Str → Option Value} {base : Heap}
theorem okGC {x qual : Str} {st : Stmt} {f c : Addr} {fd : FuncData} {N ps : List Str} {k : Nat} {sp : Sp} (F : FunC K x qual st f fd c) (S : FnScope N ps (defScope st)) (len : ∀ vs H Q E, sp vs H Q E → vs.length = ps.length)
    (body : ∀ (A : Around) (outer : List Env) (s : Shared) (H : Hp) (vs : List V) (Q : VK) (E : XK), A.guards = some [] → Room k (A.deeper (envOfC qual (defScope st) s.heap.objs.size f (.ref c))) → sp vs H Q E →
      ∃ t, PSs (cxOf CX0 P w K mg base N qual (defScope st) f (.ref c) A outer s H E).nox (defBody st) t ∧ t { nx := fun _ H' => Q .non H', rt := Q } (start N vs) H) : FnG P w K mg base CX0 (k + 1) f fd ps sp := by
  obtain ⟨oc, od, kV, doc, pm, an, ct, osl, rfl, lk, hcd⟩ := F.ex
  exact ⟨len, fun A outer s H args us vs Q E hg hr e0 hb r hs => LamX.run_ofS lk hcd S hr e0 hb r (len _ _ _ _ hs) fun hr1 => let ⟨t, h, q⟩ := body A outer s H vs Q E hg hr1 hs; ⟨t, h.nox, q⟩⟩
end
def qualA : Str := (envOfC "_law_all_refuse" (defScope sAr) 0 0 .none).qual ++ "<lambda>"
def qualI : Str := (envOfC "_law_is_let" (defScope sIl) 0 0 .none).qual ++ "<lambda>"
def qualS : Str := (envOfC "_law_spots_right" (defScope sSp) 0 0 .none).qual ++ "<lambda>"
/-- ways that are let by are a setting -/
theorem place_none {p l : Addr} {H : Hp} {v : V} {d : PyData} {m : Nat} (h : Da p l H v d) (e : placeD m d = none) : ∃ (t : Addr) (ws : List Nat), v = .ref t ∧ SetAt H t m ws := by
  cases h with
  | @tup t xs ds a1 a2 f k =>
    have e : (if ds.length = m then (firstBad ds 0).map fun k => [k] else some []) = none := e
    split at e
    · rename_i hl
      have hb : firstBad ds 0 = none := by
        cases hf : firstBad ds 0 with
        | none => rfl
        | some k => rw [hf] at e; cases e
      have ha := firstBad_none hb
      have go : ∀ (ds : List PyData) (xs : List V), DaAll p l H xs ds → ds.all okD = true → ∃ ws : List Nat, xs = nats ws ∧ ws.length = ds.length ∧ ∀ x ∈ ws, x < 3 := fun ds => by
        induction ds with
        | nil => intro xs k _; cases k; exact ⟨[], rfl, rfl, fun x h => absurd h (by simp)⟩
        | cons d ds ih =>
          intro xs k a
          cases k with
          | cons k1 k2 =>
            rw [List.all_cons, Bool.and_eq_true] at a
            obtain ⟨ws, e1, e2, e3⟩ := ih _ k2 a.2
            cases k1 with
            | int i =>
              have a1 : (decide (0 ≤ i) && decide (i < 3)) = true := a.1
              simp only [Bool.and_eq_true, decide_eq_true_eq] at a1
              refine ⟨i.toNat :: ws, ?_, by simp [e2], fun x hx => ?_⟩
              · rw [e1]
                show V.int i :: nats ws = V.int ((i.toNat : Nat) : Int) :: nats ws
                rw [show ((i.toNat : Nat) : Int) = i by omega]
              · rcases List.mem_cons.mp hx with rfl | hx
                · omega
                · exact e3 x hx
            | _ => exact nof a.1
      obtain ⟨ws, rfl, e2, e3⟩ := go ds xs k ha
      exact ⟨t, ws, rfl, by omega, e3, f⟩
    · cases e
  | _ => cases e
/-- a list of the setting alone, shown -/
theorem one_rq {K : PySem.W.Frag} {H : Hp} {u t : Addr} {m : Nat} {ws : List Nat} {Q : VK} (h : H u = some (.lst [.ref t])) (hS : SetAt H t m ws) (hm : m ≤ 40) (q : Q (.str (PyData.list [nsD ws]).shown) H) : rReprQ K [.ref u] H Q := by
  have sm : ∀ x ∈ ws, x < 1000 := fun x hx => by
    have := hS.lt x hx
    omega
  obtain ⟨f1, f2, f3, f4⟩ := ns_fine sm (by rw [hS.len]; omega)
  have fx : Fx (nsD ws) 1 800 := by
    have : ∀ d ∈ ws.map (fun x => PyData.int (x : Nat)), Fx d 0 0 := fun d hd => by
      obtain ⟨x, hx, rfl⟩ := List.mem_map.mp hd
      have := sm x hx
      exact fxI (by omega) (by omega)
    have f := fxA_all this
    have hl : (ws.map fun x => PyData.int (x : Nat)).length = m := (List.length_map _).trans hS.len
    refine f.tup.up (Nat.le_refl _) ?_
    rw [hl]
    omega
  have fl : Fx (.list [nsD ws]) 2 1000 := (FxA.cons fx (FxA.nil (n := 0))).lst.up (Nat.le_refl _) (by decide)
  refine ⟨.ref u, .list [nsD ws], rfl, .inl ⟨.lst (SqL.of h) (.cons (dp_nsD hS.here) .nil), ?_⟩, fl.sh, Nat.le_trans fl.dp (by decide), Nat.le_trans (fl.short (by decide)) (by decide), q⟩
  show ((nsD ws).hasDict || false) = false
  rw [f2]
  rfl
theorem six {i : Nat} (hi : i < 2) : ∀ pl : List Nat, pl.length ≤ 1 → SeqAt.shaped (.list (List.replicate 6 (.tuple [.str (wordS i), nsD pl]))) = true ∧ PyData.eqv (.list (List.replicate 6 (.tuple [.str (wordS i), nsD pl]))) (.list (List.replicate 6 (.tuple [.str (wordS i), nsD pl]))) = true := fun pl hp => by
  have cs : PyData.canLay0 (.str (wordS i)) = true := by
    rcases (by omega : i = 0 ∨ i = 1) with rfl | rfl <;> decide +kernel
  have cp : ∀ pl : List Nat, PyData.canLayAll0 (pl.map fun x => PyData.int (x : Nat)) = true := fun pl => by
    induction pl with
    | nil => rfl
    | cons x pl ih => exact ih
  have dp : ∀ pl : List Nat, PyData.depthAll (pl.map fun x => PyData.int (x : Nat)) ≤ 0 := fun pl => by
    induction pl with
    | nil => exact Nat.le_refl _
    | cons x pl ih => exact Nat.max_le.mpr ⟨Nat.le_refl _, ih⟩
  have cT : PyData.canLay0 (.tuple [.str (wordS i), nsD pl]) = true := by
    show (PyData.canLay0 (.str (wordS i)) && (PyData.canLayAll0 (pl.map fun x => PyData.int (x : Nat)) && true)) = true
    rw [cs, cp]
    rfl
  have dT : PyData.depth (.tuple [.str (wordS i), nsD pl]) ≤ 3 := by
    show max 0 (max (PyData.depthAll (pl.map fun x => PyData.int (x : Nat)) + 1) 0) + 1 ≤ 3
    have := dp pl
    omega
  generalize PyData.tuple [.str (wordS i), nsD pl] = T at cT dT
  have c : PyData.canLay0 (.list (List.replicate 6 T)) = true := by
    show (T.canLay0 && (T.canLay0 && (T.canLay0 && (T.canLay0 && (T.canLay0 && (T.canLay0 && true)))))) = true
    rw [cT]
    rfl
  refine ⟨?_, SeqAt.eqv_refl _ c⟩
  unfold SeqAt.shaped
  rw [c, Bool.true_and]
  refine decide_eq_true ?_
  show max T.depth (max T.depth (max T.depth (max T.depth (max T.depth (max T.depth 0))))) + 1 ≤ 64
  omega
/-- a thing told by its word -/
def UT (H : Hp) (w : Str) (pl : List Nat) (x : V) : Prop := ∃ u r : Addr, x = .ref u ∧ H u = some (.tup [.str w, .ref r]) ∧ H r = some (.tup (nats pl))
theorem UT.to {H H1 : Hp} {w : Str} {pl : List Nat} {x : V} (h : UT H w pl x) (k : ∀ b xs, H b = some (.tup xs) → H1 b = some (.tup xs)) : UT H1 w pl x := by
  obtain ⟨u, r, e, h1, h2⟩ := h
  exact ⟨u, r, e, k _ _ h1, k _ _ h2⟩
theorem UT.dp {K : PySem.W.Frag} {H : Hp} {w : Str} {pl : List Nat} {x : V} (h : UT H w pl x) : Dp K H x (.tuple [.str w, nsD pl]) := by
  obtain ⟨u, r, rfl, h1, h2⟩ := h
  exact .tup (SqT.of h1) (.cons (.str _) (.cons (dp_nsD h2) .nil))
def spIl (TT : List (Addr × Str)) : Sp := fun vs H Q _ => ∃ (p a l y t : Addr) (n m : Nat) (ps : List (Nat × Nat)) (ws : List Nat), vs = [.ref y, .ref t] ∧ ML H p a l n ∧ YAt H y m ps ∧ m ≤ 40 ∧ SetAt H t m ws ∧ LamX.Tabs TT H ∧
  ∀ H', ML H' p a l n → ExtT p l H H' → LamX.Tabs TT H' → Q (.bl true) H'
def spAr (TT : List (Addr × Str)) (CL : Nat → Addr) : Sp := fun vs H Q _ => ∃ (p a l due : Addr) (n i : Nat) (yv v ev cv : V) (pl : List Nat), vs = [yv, v, .ref due, ev, cv] ∧ i < 2 ∧ ML H p a l n ∧ LamX.Tabs TT H ∧ UT H (wordS i) pl (.ref due) ∧ pl.length ≤ 1 ∧
  (∀ (Hx : Hp) (E : XK), ExtT p l H Hx → RWrong (CL i) E Hx pl → BadY (CL 0) yv Hx E ∨ ∃ (y : Addr) (m : Nat) (ps : List (Nat × Nat)), yv = .ref y ∧ YAt Hx y m ps ∧ m ≤ 40 ∧ BadW (CL 1) v m Hx E) ∧
  ∀ H', ML H' p a l n → ExtT p l H H' → LamX.Tabs TT H' → Q (.bl true) H'
theorem not_below {z n : Int} (h : n ≤ z) : belowV (.int z) n = false := by
  show (decide (0 ≤ z) && decide (z < n)) = false
  rw [decide_eq_false (p := z < n) (by omega), Bool.and_false]
/-- what is no spot -/
def EvAt (p l : Addr) (H : Hp) (v : V) (b : Int) : Prop := ∀ Hx, ExtT p l H Hx → (∃ T, TV Hx v T) ∧ belowV v b = false
def spSp (TT : List (Addr × Str)) : Sp := fun vs H Q _ => ∃ (p a l y t : Addr) (n m : Nat) (ps : List (Nat × Nat)) (ws : List Nat), vs = [.ref p, .ref y, .ref t] ∧ ML H p a l n ∧ n ≤ 900000 ∧ YAt H y m ps ∧ m ≤ 40 ∧ SetAt H t m ws ∧ LamX.Tabs TT H ∧
  ∀ H', ML H' p a l (n + 2) → ExtT p l H H' → LamX.Tabs TT H' → Q (.bl true) H'
section
variable {P : Program} {w : World} {K : PySem.W.Frag} {mg : Str → Option Value} {base : Heap}
theorem ok_il {CL : Nat → Addr} {RE f c Pt g : Addr} {fd dg : FuncData} {TT : List (Addr × Str)} (F : FunC K "_law_is_let" "_law_is_let" sIl f fd c) (T : TB mg) (TBl : LamX.TabB base mg c Pt) (hmem : (Pt, qualI) ∈ TT) (hone : ∀ q ∈ TT, q.1 = Pt → q.2 = qualI) (Nm : SaidN mg CL RE) (G : Fun K "_law_said" "_law_said" sSaid g dg) (cG : Cal K mg "_law_said" g dg ["deed"])
    {fN : Addr} {dN : FuncData} (cN : Cal K mg "need_setting" fN dN ["yard", "thing"]) (gN : FnOk P w K mg base (L2.CX P w) 7 fN dN ["yard", "thing"] (spNS2 (CL 0) (CL 1))) :
    FnG P w K mg base CX0 14 f fd ["yard", "setting"] (spIl TT) := by
  refine okGC F scIl (fun vs H Q E h => ?_) (fun A outer s H vs Q E hgd hr h => ?_)
  · obtain ⟨p, a, l, y, t, n, m, ps, ws, rfl, _⟩ := h
    rfl
  · obtain ⟨p, a, l, y, t, n, m, ps, ws, rfl, M, hY, m40, hS, tb, k⟩ := h
    have nd := scIl.nd
    have hu : (A.deeper (envOfC "_law_is_let" (defScope sIl) s.heap.objs.size f (.ref c))).units + 64 < cLine := hr.units
    have rm : ∀ {j : Nat}, j ≤ 13 → Room j (A.deeper (envOfC "_law_is_let" (defScope sIl) s.heap.objs.size f (.ref c))) := fun h => hr.mono h
    obtain ⟨oc, od, kV, doc, pm, an, cdg, ctg, osl, rfl, lkg, hcg⟩ := G.ex
    let X : Cx := (cxOf CX0 P w K mg base nIl "_law_is_let" (defScope sIl) f (.ref c) A outer s H E).nox
    have rp : ∀ {X' : Cx}, X'.A = A.deeper (envOfC "_law_is_let" (defScope sIl) s.heap.objs.size f (.ref c)) → CallR X' (.builtin "repr") (rReprQ X'.K) := fun e => cr_reprQ (by rw [e]; exact hgd) (by rw [e]; exact hu)
    have lam : ∀ {body : Expr} {scope : Scope} {t : XK → TE} {p lpos pos : Pos} (LS : LamX.LamS (defScope sIl) scope) (hbody : ∀ (A' : Around) (outer : List Env) (s : Shared) (H : Hp) (E : XK) (f' c' : Addr), Room 11 (A'.deeper (LamX.lamEnv X scope s.heap.objs.size f' c')) → PE (LamX.lamCx X A' outer s H E scope f' c') body (t E)),
        PE X (.Call (.Name "_law_said" p) [.Lambda { posonlyargs := [], args := [], vararg := none, kwonlyargs := [], kw_defaults := [], kwarg := none, defaults := [] } body scope lpos] [] pos) (LamX.tLam TT (TTsaid K CL RE) t) := fun LS hbody =>
      LamX.pe_lamcall (X := X) (k := 11) rfl cG.g cG.kp lkg hcg cG.b scSaid rfl (.inl rfl) (said_gives (X := X) T Nm hr) TBl rfl hmem hone hr LS rfl (fun _ _ _ _ _ => rfl) hbody
    have cns : ∀ {A' : Around} {outer : List Env} {s : Shared} {H : Hp} {E : XK} {scope : Scope} {f' c' : Addr} {a b : Expr} {ta : TE} {tr : TA} {p pos : Pos} (hr8 : Room 11 (A'.deeper (LamX.lamEnv X scope s.heap.objs.size f' c'))) (hg : scope.names.lookup ("need_setting" : Str) = some .globalImplicit)
        (ha : PA (LamX.lamCx X A' outer s H E scope f' c') [a, b] (tCons ta tr)) (he : starEach [a, b] (LamX.lamEnv X scope s.heap.objs.size f' c') = (false, eval a (LamX.lamEnv X scope s.heap.objs.size f' c')) :: starEach [b] (LamX.lamEnv X scope s.heap.objs.size f' c'))
        (hpl : (backTo pos (starEach [b] (LamX.lamEnv X scope s.heap.objs.size f' c'))).any (·.1) = false), PE (LamX.lamCx X A' outer s H E scope f' c') (.Call (.Name "need_setting" p) [a, b] [] pos) (tCall (spNS2 (CL 0) (CL 1)) [] E (tCons ta tr)) := fun hr8 hg ha he hpl =>
      pe_call gN (hr8.mono (by decide)) hg cN.g cN.kp cN.b .nil (passes_call (takes_of rfl rfl rfl rfl) (fun _ _ _ _ h => h)) ha (by decide) he hpl
    refine ⟨_, pss_one (ps_ret (pe_cmpR op_eq (pe_callB (rp rfl) (by rfl) T.repr boot_repr (pa_cons (lam (LamX.lamS_by (by decide +kernel)) fun A' outer s H E f' c' hr8 => cns hr8 (by decide +kernel) (pa_cons (pv 0) (pa_cons (pv 1) pa_nil)) (by rfl) (by rfl)) pa_nil)) (pe_callB (rp rfl) (by rfl) T.repr boot_repr (pa_cons (pe_lstN (pa_cons (pv 1) pa_nil)) pa_nil)) (nomark _))), ?_⟩
    refine lam_go (K := K) (CL := CL) (RE := RE) (Since.refl M tb) fun Hb R ea Sb hR => ?_
    have tu := Since.tup M Sb
    refine ⟨_, rfl, _, rfl, .ref y, .ref t, rfl, .inr ⟨y, .ref t, "tuple", m, ps, rfl, hY.mono tu, m40, .tup (hS.mono tu).here, look_good (hS.mono tu) fun H1 s1 => hR _ _ fun u hu => ?_⟩⟩
    have su := Same.new (o := .lst [V.ref t]) hu
    have gu := upd_same (H := H1) (a := u) (o := .lst [V.ref t])
    generalize upd H1 u (.lst [V.ref t]) = H2 at su gu
    have S2 := (Sb.same s1).same su
    have hS2 := hS.mono (Since.tup M S2)
    try unfold tNil
    refine one_rq gu hS2 m40 ?_
    refine ⟨_, rfl, (by show 1 ≤ sizeLine; decide), fun u2 nu2 hu2 => ?_⟩
    have su2 := Same.new (o := .lst [V.ref t]) hu2
    have gu2 := upd_same (H := H2) (a := u2) (o := .lst [V.ref t])
    generalize upd H2 u2 (.lst [V.ref t]) = H3 at su2 gu2
    have S3 := S2.same su2
    try unfold tNil
    refine one_rq gu2 (hS.mono (Since.tup M S3)) m40 ?_
    refine ⟨rfl, ?_⟩
    have e0 : decide (V.str (PyData.list [nsD ws]).shown = V.str (PyData.list [nsD ws]).shown) = true := decide_eq_true rfl
    show Q (.bl (decide (V.str (PyData.list [nsD ws]).shown = V.str (PyData.list [nsD ws]).shown))) H3
    rw [e0]
    exact k _ S3.M S3.e S3.t
theorem ok_ar {CL : Nat → Addr} {RE f c Pt g : Addr} {fd dg : FuncData} {TT : List (Addr × Str)} (F : FunC K "_law_all_refuse" "_law_all_refuse" sAr f fd c) (T : TB mg) (TBl : LamX.TabB base mg c Pt) (hmem : (Pt, qualA) ∈ TT) (hone : ∀ q ∈ TT, q.1 = Pt → q.2 = qualA) (Nm : SaidN mg CL RE) (R0 : SaidC K CL RE 0) (R1 : SaidC K CL RE 1) (G : Fun K "_law_said" "_law_said" sSaid g dg) (cG : Cal K mg "_law_said" g dg ["deed"])
    {fN : Addr} {dN : FuncData} (cN : Cal K mg "need_setting" fN dN ["yard", "thing"]) (gN : FnOk P w K mg base (L2.CX P w) 7 fN dN ["yard", "thing"] (spNS2 (CL 0) (CL 1)))
    {fO : Addr} {dO : FuncData} (cO : Cal K mg "rounds_of" fO dO ["yard", "setting"]) (gO : FnOk P w K mg base (L2.CX P w) 8 fO dO ["yard", "setting"] (spRO2 (CL 0) (CL 1)))
    {fM : Addr} {dM : FuncData} (cM : Cal K mg "many_rounds" fM dM ["yard", "setting"]) (gM : FnOk P w K mg base (L2.CX P w) 9 fM dM ["yard", "setting"] (spFR (CL 0) (CL 1)))
    {fA : Addr} {dA : FuncData} (cA : Cal K mg "round_at" fA dA ["yard", "setting", "end"]) (gA : FnOk P w K mg base (L2.CX P w) 8 fA dA ["yard", "setting", "end"] (spSpot (CL 0) (CL 1) (CL 2) 4))
    {fT : Addr} {dT : FuncData} (cT : Cal K mg "meeting" fT dT ["yard", "setting", "crossing"]) (gT : FnOk P w K mg base (L2.CX P w) 9 fT dT ["yard", "setting", "crossing"] (spSpot (CL 0) (CL 1) (CL 3) 1))
    {fW : Addr} {dW : FuncData} (cW : Cal K mg "outer_way" fW dW ["yard", "setting", "crossing"]) (gW : FnOk P w K mg base (L2.CX P w) 8 fW dW ["yard", "setting", "crossing"] (spSpot (CL 0) (CL 1) (CL 3) 1)) :
    FnG P w K mg base CX0 14 f fd ["yard", "thing", "due", "end", "crossing"] (spAr TT CL) := by
  refine okGC F scAr (fun vs H Q E h => ?_) (fun A outer s H vs Q E hgd hr h => ?_)
  · obtain ⟨p, a, l, due, n, i, yv, v, ev, cv, pl, rfl, _⟩ := h
    rfl
  · obtain ⟨p, a, l, due, n, i, yv, v, ev, cv, pl, rfl, i2, M, tb, hdue, hpl, bad, k⟩ := h
    have nd := scAr.nd
    have hu : (A.deeper (envOfC "_law_all_refuse" (defScope sAr) s.heap.objs.size f (.ref c))).units + 64 < cLine := hr.units
    have rm : ∀ {j : Nat}, j ≤ 13 → Room j (A.deeper (envOfC "_law_all_refuse" (defScope sAr) s.heap.objs.size f (.ref c))) := fun h => hr.mono h
    obtain ⟨oc, od, kV, doc, pm, an, cdg, ctg, osl, rfl, lkg, hcg⟩ := G.ex
    let X : Cx := (cxOf CX0 P w K mg base nAr "_law_all_refuse" (defScope sAr) f (.ref c) A outer s H E).nox
    have rp : ∀ {X' : Cx}, X'.A = A.deeper (envOfC "_law_all_refuse" (defScope sAr) s.heap.objs.size f (.ref c)) → CallR X' (.builtin "repr") (rReprQ X'.K) := fun e => cr_reprQ (by rw [e]; exact hgd) (by rw [e]; exact hu)
    have lam : ∀ {body : Expr} {scope : Scope} {t : XK → TE} {p lpos pos : Pos} (LS : LamX.LamS (defScope sAr) scope) (hbody : ∀ (A' : Around) (outer : List Env) (s : Shared) (H : Hp) (E : XK) (f' c' : Addr), Room 11 (A'.deeper (LamX.lamEnv X scope s.heap.objs.size f' c')) → PE (LamX.lamCx X A' outer s H E scope f' c') body (t E)),
        PE X (.Call (.Name "_law_said" p) [.Lambda { posonlyargs := [], args := [], vararg := none, kwonlyargs := [], kw_defaults := [], kwarg := none, defaults := [] } body scope lpos] [] pos) (LamX.tLam TT (TTsaid K CL RE) t) := fun LS hbody =>
      LamX.pe_lamcall (X := X) (k := 11) rfl cG.g cG.kp lkg hcg cG.b scSaid rfl (.inl rfl) (said_gives (X := X) T Nm hr) TBl rfl hmem hone hr LS rfl (fun _ _ _ _ _ => rfl) hbody
    have cns : ∀ {A' : Around} {outer : List Env} {s : Shared} {H : Hp} {E : XK} {scope : Scope} {f' c' : Addr} {a b : Expr} {ta : TE} {tr : TA} {p pos : Pos} (hr8 : Room 11 (A'.deeper (LamX.lamEnv X scope s.heap.objs.size f' c'))) (hg : scope.names.lookup ("need_setting" : Str) = some .globalImplicit)
        (ha : PA (LamX.lamCx X A' outer s H E scope f' c') [a, b] (tCons ta tr)) (he : starEach [a, b] (LamX.lamEnv X scope s.heap.objs.size f' c') = (false, eval a (LamX.lamEnv X scope s.heap.objs.size f' c')) :: starEach [b] (LamX.lamEnv X scope s.heap.objs.size f' c'))
        (hpl : (backTo pos (starEach [b] (LamX.lamEnv X scope s.heap.objs.size f' c'))).any (·.1) = false), PE (LamX.lamCx X A' outer s H E scope f' c') (.Call (.Name "need_setting" p) [a, b] [] pos) (tCall (spNS2 (CL 0) (CL 1)) [] E (tCons ta tr)) := fun hr8 hg ha he hpl =>
      pe_call gN (hr8.mono (by decide)) hg cN.g cN.kp cN.b .nil (passes_call (takes_of rfl rfl rfl rfl) (fun _ _ _ _ h => h)) ha (by decide) he hpl
    have cro : ∀ {A' : Around} {outer : List Env} {s : Shared} {H : Hp} {E : XK} {scope : Scope} {f' c' : Addr} {a b : Expr} {ta : TE} {tr : TA} {p pos : Pos} (hr8 : Room 11 (A'.deeper (LamX.lamEnv X scope s.heap.objs.size f' c'))) (hg : scope.names.lookup ("rounds_of" : Str) = some .globalImplicit)
        (ha : PA (LamX.lamCx X A' outer s H E scope f' c') [a, b] (tCons ta tr)) (he : starEach [a, b] (LamX.lamEnv X scope s.heap.objs.size f' c') = (false, eval a (LamX.lamEnv X scope s.heap.objs.size f' c')) :: starEach [b] (LamX.lamEnv X scope s.heap.objs.size f' c'))
        (hpl : (backTo pos (starEach [b] (LamX.lamEnv X scope s.heap.objs.size f' c'))).any (·.1) = false), PE (LamX.lamCx X A' outer s H E scope f' c') (.Call (.Name "rounds_of" p) [a, b] [] pos) (tCall (spRO2 (CL 0) (CL 1)) [] E (tCons ta tr)) := fun hr8 hg ha he hpl =>
      pe_call gO (hr8.mono (by decide)) hg cO.g cO.kp cO.b .nil (passes_call (takes_of rfl rfl rfl rfl) (fun _ _ _ _ h => h)) ha (by decide) he hpl
    have cmr : ∀ {A' : Around} {outer : List Env} {s : Shared} {H : Hp} {E : XK} {scope : Scope} {f' c' : Addr} {a b : Expr} {ta : TE} {tr : TA} {p pos : Pos} (hr8 : Room 11 (A'.deeper (LamX.lamEnv X scope s.heap.objs.size f' c'))) (hg : scope.names.lookup ("many_rounds" : Str) = some .globalImplicit)
        (ha : PA (LamX.lamCx X A' outer s H E scope f' c') [a, b] (tCons ta tr)) (he : starEach [a, b] (LamX.lamEnv X scope s.heap.objs.size f' c') = (false, eval a (LamX.lamEnv X scope s.heap.objs.size f' c')) :: starEach [b] (LamX.lamEnv X scope s.heap.objs.size f' c'))
        (hpl : (backTo pos (starEach [b] (LamX.lamEnv X scope s.heap.objs.size f' c'))).any (·.1) = false), PE (LamX.lamCx X A' outer s H E scope f' c') (.Call (.Name "many_rounds" p) [a, b] [] pos) (tCall (spFR (CL 0) (CL 1)) [] E (tCons ta tr)) := fun hr8 hg ha he hpl =>
      pe_call gM (hr8.mono (by decide)) hg cM.g cM.kp cM.b .nil (passes_call (takes_of rfl rfl rfl rfl) (fun _ _ _ _ h => h)) ha (by decide) he hpl
    have cra : ∀ {A' : Around} {outer : List Env} {s : Shared} {H : Hp} {E : XK} {scope : Scope} {f' c' : Addr} {a b d : Expr} {ta : TE} {tr : TA} {p pos : Pos} (hr8 : Room 11 (A'.deeper (LamX.lamEnv X scope s.heap.objs.size f' c'))) (hg : scope.names.lookup ("round_at" : Str) = some .globalImplicit)
        (ha : PA (LamX.lamCx X A' outer s H E scope f' c') [a, b, d] (tCons ta tr)) (he : starEach [a, b, d] (LamX.lamEnv X scope s.heap.objs.size f' c') = (false, eval a (LamX.lamEnv X scope s.heap.objs.size f' c')) :: starEach [b, d] (LamX.lamEnv X scope s.heap.objs.size f' c'))
        (hpl : (backTo pos (starEach [b, d] (LamX.lamEnv X scope s.heap.objs.size f' c'))).any (·.1) = false), PE (LamX.lamCx X A' outer s H E scope f' c') (.Call (.Name "round_at" p) [a, b, d] [] pos) (tCall (spSpot (CL 0) (CL 1) (CL 2) 4) [] E (tCons ta tr)) := fun hr8 hg ha he hpl =>
      pe_call gA (hr8.mono (by decide)) hg cA.g cA.kp cA.b .nil (passes_call (takes_of rfl rfl rfl rfl) (fun _ _ _ _ h => h)) ha (by decide) he hpl
    have cmt : ∀ {A' : Around} {outer : List Env} {s : Shared} {H : Hp} {E : XK} {scope : Scope} {f' c' : Addr} {a b d : Expr} {ta : TE} {tr : TA} {p pos : Pos} (hr8 : Room 11 (A'.deeper (LamX.lamEnv X scope s.heap.objs.size f' c'))) (hg : scope.names.lookup ("meeting" : Str) = some .globalImplicit)
        (ha : PA (LamX.lamCx X A' outer s H E scope f' c') [a, b, d] (tCons ta tr)) (he : starEach [a, b, d] (LamX.lamEnv X scope s.heap.objs.size f' c') = (false, eval a (LamX.lamEnv X scope s.heap.objs.size f' c')) :: starEach [b, d] (LamX.lamEnv X scope s.heap.objs.size f' c'))
        (hpl : (backTo pos (starEach [b, d] (LamX.lamEnv X scope s.heap.objs.size f' c'))).any (·.1) = false), PE (LamX.lamCx X A' outer s H E scope f' c') (.Call (.Name "meeting" p) [a, b, d] [] pos) (tCall (spSpot (CL 0) (CL 1) (CL 3) 1) [] E (tCons ta tr)) := fun hr8 hg ha he hpl =>
      pe_call gT (hr8.mono (by decide)) hg cT.g cT.kp cT.b .nil (passes_call (takes_of rfl rfl rfl rfl) (fun _ _ _ _ h => h)) ha (by decide) he hpl
    have cow : ∀ {A' : Around} {outer : List Env} {s : Shared} {H : Hp} {E : XK} {scope : Scope} {f' c' : Addr} {a b d : Expr} {ta : TE} {tr : TA} {p pos : Pos} (hr8 : Room 11 (A'.deeper (LamX.lamEnv X scope s.heap.objs.size f' c'))) (hg : scope.names.lookup ("outer_way" : Str) = some .globalImplicit)
        (ha : PA (LamX.lamCx X A' outer s H E scope f' c') [a, b, d] (tCons ta tr)) (he : starEach [a, b, d] (LamX.lamEnv X scope s.heap.objs.size f' c') = (false, eval a (LamX.lamEnv X scope s.heap.objs.size f' c')) :: starEach [b, d] (LamX.lamEnv X scope s.heap.objs.size f' c'))
        (hpl : (backTo pos (starEach [b, d] (LamX.lamEnv X scope s.heap.objs.size f' c'))).any (·.1) = false), PE (LamX.lamCx X A' outer s H E scope f' c') (.Call (.Name "outer_way" p) [a, b, d] [] pos) (tCall (spSpot (CL 0) (CL 1) (CL 3) 1) [] E (tCons ta tr)) := fun hr8 hg ha he hpl =>
      pe_call gW (hr8.mono (by decide)) hg cW.g cW.kp cW.b .nil (passes_call (takes_of rfl rfl rfl rfl) (fun _ _ _ _ h => h)) ha (by decide) he hpl
    refine ⟨_, pss_cons (ps_set (i := 5) nd rfl (Or.inl rfl) (pe_lst (pa_cons (lam (LamX.lamS_by (by decide +kernel)) fun A' outer s H E f' c' hr8 => cns hr8 (by decide +kernel) (pa_cons (pv 0) (pa_cons (pv 1) pa_nil)) (by rfl) (by rfl)) pa_nil)))
      (pss_cons (ps_expr (pe_bm PySem.F.plainAttrs_list PySem.F.slot_list_append PySem.F.type_list_append mt_append (pv 5) (pa_cons (lam (LamX.lamS_by (by decide +kernel)) fun A' outer s H E f' c' hr8 => cro hr8 (by decide +kernel) (pa_cons (pv 0) (pa_cons (pv 1) pa_nil)) (by rfl) (by rfl)) pa_nil)))
      (pss_cons (ps_expr (pe_bm PySem.F.plainAttrs_list PySem.F.slot_list_append PySem.F.type_list_append mt_append (pv 5) (pa_cons (lam (LamX.lamS_by (by decide +kernel)) fun A' outer s H E f' c' hr8 => cmr hr8 (by decide +kernel) (pa_cons (pv 0) (pa_cons (pv 1) pa_nil)) (by rfl) (by rfl)) pa_nil)))
      (pss_cons (ps_expr (pe_bm PySem.F.plainAttrs_list PySem.F.slot_list_append PySem.F.type_list_append mt_append (pv 5) (pa_cons (lam (LamX.lamS_by (by decide +kernel)) fun A' outer s H E f' c' hr8 => cra hr8 (by decide +kernel) (pa_cons (pv 0) (pa_cons (pv 1) (pa_cons (pv 3) pa_nil))) (by rfl) (by rfl)) pa_nil)))
      (pss_cons (ps_expr (pe_bm PySem.F.plainAttrs_list PySem.F.slot_list_append PySem.F.type_list_append mt_append (pv 5) (pa_cons (lam (LamX.lamS_by (by decide +kernel)) fun A' outer s H E f' c' hr8 => cmt hr8 (by decide +kernel) (pa_cons (pv 0) (pa_cons (pv 1) (pa_cons (pv 4) pa_nil))) (by rfl) (by rfl)) pa_nil)))
      (pss_cons (ps_expr (pe_bm PySem.F.plainAttrs_list PySem.F.slot_list_append PySem.F.type_list_append mt_append (pv 5) (pa_cons (lam (LamX.lamS_by (by decide +kernel)) fun A' outer s H E f' c' hr8 => cow hr8 (by decide +kernel) (pa_cons (pv 0) (pa_cons (pv 1) (pa_cons (pv 4) pa_nil))) (by rfl) (by rfl)) pa_nil)))
      (pss_one (ps_ret (pe_cmpR (op_eqD (by exact hu)) (pv 5) (pe_op op_rep (pe_lst (pa_cons (pv 2) pa_nil)) pe_int) (nomark _))))))))), ?_⟩
    have Ri : SaidC K CL RE i := by
      rcases (by omega : i = 0 ∨ i = 1) with rfl | rfl
      · exact R0
      · exact R1
    have add : ∀ {H : Hp} {L u : Addr} {zs : List V}, H L = some (.lst zs) → (∀ x ∈ zs, UT H (wordS i) pl x) → UT H (wordS i) pl (.ref u) → ∀ x ∈ zs ++ [V.ref u], UT (upd H L (.lst (zs ++ [V.ref u]))) (wordS i) pl x := fun {H L u zs} hL h1 h2 x hx => by
      have k9 : ∀ b xs, H b = some (.tup xs) → (upd H L (.lst (zs ++ [V.ref u]))) b = some (.tup xs) := fun b xs h => (upd_ne (ne_of h hL (by intro z; cases z))).trans h
      rcases List.mem_append.mp hx with hx | hx
      · exact (h1 x hx).to k9
      · rw [List.mem_singleton.mp hx]
        exact h2.to k9
    refine lam_go (K := K) (CL := CL) (RE := RE) (Since.refl M tb) fun Hb0 Rk0 ea0 Sb0 hR0 => ?_
    refine ⟨_, rfl, _, rfl, yv, v, rfl, (bad _ _ Sb0.e (said_wrong (ns := pl) Ri fun Hc0 u0 r0 sc0 hu0 hr0 => ?_)).imp (fun h => h) fun ⟨y, m, ps, e1, h1, h2, ⟨T', hv⟩, hb⟩ => ⟨y, v, T', m, ps, by rw [e1]; rfl, h1, h2, hv, hb.mono fun _ _ h => h.elim⟩⟩
    have Sc0 := Sb0.same sc0
    try unfold tNil
    refine ⟨by show 1 ≤ sizeLine; decide, fun L hL => ?_⟩
    have SB := Since.refl Sc0.M Sc0.t
    have sL := Same.new (o := .lst [V.ref u0]) hL
    have hL0 := upd_same (H := Hc0) (a := L) (o := .lst [V.ref u0])
    have hU0 : ∀ x ∈ [V.ref u0], UT (upd Hc0 L (.lst [V.ref u0])) (wordS i) pl x := fun x hx => by
      rw [List.mem_singleton.mp hx]
      exact ⟨u0, r0, rfl, sL _ _ hu0, sL _ _ hr0⟩
    generalize upd Hc0 L (.lst [V.ref u0]) = H0 at sL hL0 hU0
    have S0 := SB.same sL
    have bad := fun (Hx : Hp) (E : XK) (e : ExtT p l Hc0 Hx) => bad Hx E (Sc0.e.trans e)
    refine ⟨_, rfl, .inl ⟨rfl, _, SqL.of hL0⟩, ?_⟩
    refine lam_go (K := K) (CL := CL) (RE := RE) S0 fun Hb1 Rk1 ea1 Sb1 hR1 => ?_
    refine ⟨_, rfl, _, rfl, yv, v, rfl, (bad _ _ Sb1.e (said_wrong (ns := pl) Ri fun Hc1 u1 r1 sc1 hu1 hr1 => ?_)).imp (fun h => h) fun ⟨y, m, ps, e1, h1, h2, hb⟩ => ⟨y, m, ps, e1, h1, h2, .inl hb⟩⟩
    have gL1 := sc1 _ _ (ea1 _ _ hL0 (by intro _ z; cases z))
    have Sc1 := Sb1.same sc1
    have tt1 : ∀ b xs, H0 b = some (.tup xs) → Hc1 b = some (.tup xs) := fun b xs h => sc1 _ _ (ea1 _ _ h (by intro _ z; cases z))
    refine ⟨L, _, _, rfl, rfl, gL1, small1000 (by show 1 ≤ 1000; decide), ?_⟩
    have S1 := Sc1.wr (ys := [V.ref u0] ++ [V.ref u1]) Sc0.M hL gL1
    have hU1 := add gL1 (fun x hx => (hU0 x hx).to tt1) ⟨u1, r1, rfl, hu1, hr1⟩
    have hL1 := upd_same (H := Hc1) (a := L) (o := .lst ([V.ref u0] ++ [V.ref u1]))
    generalize upd Hc1 L (.lst ([V.ref u0] ++ [V.ref u1])) = H1 at S1 hL1 hU1
    refine ⟨_, rfl, .inl ⟨rfl, _, SqL.of hL1⟩, ?_⟩
    refine lam_go (K := K) (CL := CL) (RE := RE) S1 fun Hb2 Rk2 ea2 Sb2 hR2 => ?_
    refine ⟨_, rfl, _, rfl, yv, v, rfl, (bad _ _ Sb2.e (said_wrong (ns := pl) Ri fun Hc2 u2 r2 sc2 hu2 hr2 => ?_))⟩
    have gL2 := sc2 _ _ (ea2 _ _ hL1 (by intro _ z; cases z))
    have Sc2 := Sb2.same sc2
    have tt2 : ∀ b xs, H1 b = some (.tup xs) → Hc2 b = some (.tup xs) := fun b xs h => sc2 _ _ (ea2 _ _ h (by intro _ z; cases z))
    refine ⟨L, _, _, rfl, rfl, gL2, small1000 (by show 2 ≤ 1000; decide), ?_⟩
    have S2 := Sc2.wr (ys := ([V.ref u0] ++ [V.ref u1]) ++ [V.ref u2]) Sc0.M hL gL2
    have hU2 := add gL2 (fun x hx => (hU1 x hx).to tt2) ⟨u2, r2, rfl, hu2, hr2⟩
    have hL2 := upd_same (H := Hc2) (a := L) (o := .lst (([V.ref u0] ++ [V.ref u1]) ++ [V.ref u2]))
    generalize upd Hc2 L (.lst (([V.ref u0] ++ [V.ref u1]) ++ [V.ref u2])) = H2 at S2 hL2 hU2
    refine ⟨_, rfl, .inl ⟨rfl, _, SqL.of hL2⟩, ?_⟩
    refine lam_go (K := K) (CL := CL) (RE := RE) S2 fun Hb3 Rk3 ea3 Sb3 hR3 => ?_
    refine ⟨_, rfl, _, rfl, _, rfl, yv, v, ev, rfl, (bad _ _ Sb3.e (said_wrong (ns := pl) Ri fun Hc3 u3 r3 sc3 hu3 hr3 => ?_)).imp (fun h => h) fun ⟨y, m, ps, e1, h1, h2, hb⟩ => ⟨y, m, ps, e1, h1, h2, .inl hb⟩⟩
    have gL3 := sc3 _ _ (ea3 _ _ hL2 (by intro _ z; cases z))
    have Sc3 := Sb3.same sc3
    have tt3 : ∀ b xs, H2 b = some (.tup xs) → Hc3 b = some (.tup xs) := fun b xs h => sc3 _ _ (ea3 _ _ h (by intro _ z; cases z))
    refine ⟨L, _, _, rfl, rfl, gL3, small1000 (by show 3 ≤ 1000; decide), ?_⟩
    have S3 := Sc3.wr (ys := (([V.ref u0] ++ [V.ref u1]) ++ [V.ref u2]) ++ [V.ref u3]) Sc0.M hL gL3
    have hU3 := add gL3 (fun x hx => (hU2 x hx).to tt3) ⟨u3, r3, rfl, hu3, hr3⟩
    have hL3 := upd_same (H := Hc3) (a := L) (o := .lst ((([V.ref u0] ++ [V.ref u1]) ++ [V.ref u2]) ++ [V.ref u3]))
    generalize upd Hc3 L (.lst ((([V.ref u0] ++ [V.ref u1]) ++ [V.ref u2]) ++ [V.ref u3])) = H3 at S3 hL3 hU3
    refine ⟨_, rfl, .inl ⟨rfl, _, SqL.of hL3⟩, ?_⟩
    refine lam_go (K := K) (CL := CL) (RE := RE) S3 fun Hb4 Rk4 ea4 Sb4 hR4 => ?_
    refine ⟨_, rfl, _, rfl, _, rfl, yv, v, cv, rfl, (bad _ _ Sb4.e (said_wrong (ns := pl) Ri fun Hc4 u4 r4 sc4 hu4 hr4 => ?_)).imp (fun h => h) fun ⟨y, m, ps, e1, h1, h2, hb⟩ => ⟨y, m, ps, e1, h1, h2, .inl hb⟩⟩
    have gL4 := sc4 _ _ (ea4 _ _ hL3 (by intro _ z; cases z))
    have Sc4 := Sb4.same sc4
    have tt4 : ∀ b xs, H3 b = some (.tup xs) → Hc4 b = some (.tup xs) := fun b xs h => sc4 _ _ (ea4 _ _ h (by intro _ z; cases z))
    refine ⟨L, _, _, rfl, rfl, gL4, small1000 (by show 4 ≤ 1000; decide), ?_⟩
    have S4 := Sc4.wr (ys := ((([V.ref u0] ++ [V.ref u1]) ++ [V.ref u2]) ++ [V.ref u3]) ++ [V.ref u4]) Sc0.M hL gL4
    have hU4 := add gL4 (fun x hx => (hU3 x hx).to tt4) ⟨u4, r4, rfl, hu4, hr4⟩
    have hL4 := upd_same (H := Hc4) (a := L) (o := .lst (((([V.ref u0] ++ [V.ref u1]) ++ [V.ref u2]) ++ [V.ref u3]) ++ [V.ref u4]))
    generalize upd Hc4 L (.lst (((([V.ref u0] ++ [V.ref u1]) ++ [V.ref u2]) ++ [V.ref u3]) ++ [V.ref u4])) = H4 at S4 hL4 hU4
    refine ⟨_, rfl, .inl ⟨rfl, _, SqL.of hL4⟩, ?_⟩
    refine lam_go (K := K) (CL := CL) (RE := RE) S4 fun Hb5 Rk5 ea5 Sb5 hR5 => ?_
    refine ⟨_, rfl, _, rfl, _, rfl, yv, v, cv, rfl, (bad _ _ Sb5.e (said_wrong (ns := pl) Ri fun Hc5 u5 r5 sc5 hu5 hr5 => ?_)).imp (fun h => h) fun ⟨y, m, ps, e1, h1, h2, hb⟩ => ⟨y, m, ps, e1, h1, h2, .inl hb⟩⟩
    have gL5 := sc5 _ _ (ea5 _ _ hL4 (by intro _ z; cases z))
    have Sc5 := Sb5.same sc5
    have tt5 : ∀ b xs, H4 b = some (.tup xs) → Hc5 b = some (.tup xs) := fun b xs h => sc5 _ _ (ea5 _ _ h (by intro _ z; cases z))
    refine ⟨L, _, _, rfl, rfl, gL5, small1000 (by show 5 ≤ 1000; decide), ?_⟩
    have S5 := Sc5.wr (ys := (((([V.ref u0] ++ [V.ref u1]) ++ [V.ref u2]) ++ [V.ref u3]) ++ [V.ref u4]) ++ [V.ref u5]) Sc0.M hL gL5
    have hU5 := add gL5 (fun x hx => (hU4 x hx).to tt5) ⟨u5, r5, rfl, hu5, hr5⟩
    have hL5 := upd_same (H := Hc5) (a := L) (o := .lst ((((([V.ref u0] ++ [V.ref u1]) ++ [V.ref u2]) ++ [V.ref u3]) ++ [V.ref u4]) ++ [V.ref u5]))
    generalize upd Hc5 L (.lst ((((([V.ref u0] ++ [V.ref u1]) ++ [V.ref u2]) ++ [V.ref u3]) ++ [V.ref u4]) ++ [V.ref u5])) = H5 at S5 hL5 hU5
    refine ⟨_, rfl, ?_⟩
    refine ⟨_, rfl, (by show 1 ≤ sizeLine; decide), fun l5 hl5 => ⟨l5, _, _, rfl, rfl, upd_same, by decide, by decide, (by show 1 * 6 ≤ sizeLine; decide), fun G6 hG6 => ?_⟩⟩
    have x2 := Same.new (o := .lst [V.ref due]) hl5
    generalize upd H5 l5 (.lst [V.ref due]) = I2 at *
    have x3 := Same.new (o := .lst (List.replicate (6 : Int).toNat [V.ref due]).flatten) hG6
    have y3 : (upd I2 G6 (.lst (List.replicate (6 : Int).toNat [V.ref due]).flatten)) G6 = some (.lst [V.ref due, V.ref due, V.ref due, V.ref due, V.ref due, V.ref due]) := upd_same
    generalize upd I2 G6 (.lst (List.replicate (6 : Int).toNat [V.ref due]).flatten) = I3 at *
    have x23 := x2.trans x3
    have SZ := S5.same x23
    have hL6 : I3 L = some (.lst [V.ref u0, V.ref u1, V.ref u2, V.ref u3, V.ref u4, V.ref u5]) := x23 _ _ hL5
    have d : ∀ x ∈ [V.ref u0, V.ref u1, V.ref u2, V.ref u3, V.ref u4, V.ref u5], UT I3 (wordS i) pl x := fun x hx => (hU5 x hx).to fun b xs h => x23 _ _ h
    have hd3 : UT I3 (wordS i) pl (.ref due) := hdue.to fun b xs h => Since.tup Sc0.M SZ _ _ (Since.tup M Sc0 _ _ h)
    have q6 := six i2 pl hpl
    refine ⟨.list [.tuple [.str (wordS i), nsD pl], .tuple [.str (wordS i), nsD pl], .tuple [.str (wordS i), nsD pl], .tuple [.str (wordS i), nsD pl], .tuple [.str (wordS i), nsD pl], .tuple [.str (wordS i), nsD pl]], .list [.tuple [.str (wordS i), nsD pl], .tuple [.str (wordS i), nsD pl], .tuple [.str (wordS i), nsD pl], .tuple [.str (wordS i), nsD pl], .tuple [.str (wordS i), nsD pl], .tuple [.str (wordS i), nsD pl]], .lst (SqL.of hL6) (.cons (d (V.ref u0) (by simp)).dp (.cons (d (V.ref u1) (by simp)).dp (.cons (d (V.ref u2) (by simp)).dp (.cons (d (V.ref u3) (by simp)).dp (.cons (d (V.ref u4) (by simp)).dp (.cons (d (V.ref u5) (by simp)).dp (.nil))))))), .lst (SqL.of y3) (.cons hd3.dp (.cons hd3.dp (.cons hd3.dp (.cons hd3.dp (.cons hd3.dp (.cons hd3.dp (.nil))))))), q6.1, q6.1, ?_⟩
    have e6 : PyData.eqv (.list [.tuple [.str (wordS i), nsD pl], .tuple [.str (wordS i), nsD pl], .tuple [.str (wordS i), nsD pl], .tuple [.str (wordS i), nsD pl], .tuple [.str (wordS i), nsD pl], .tuple [.str (wordS i), nsD pl]]) (.list [.tuple [.str (wordS i), nsD pl], .tuple [.str (wordS i), nsD pl], .tuple [.str (wordS i), nsD pl], .tuple [.str (wordS i), nsD pl], .tuple [.str (wordS i), nsD pl], .tuple [.str (wordS i), nsD pl]]) = true := q6.2
    rw [e6]
    exact k _ SZ.M (Sc0.e.trans SZ.e) SZ.t
theorem ok_sp {CL : Nat → Addr} {RE f c Pt g : Addr} {fd dg : FuncData} {fD : Addr} {dD : FuncData} {TT : List (Addr × Str)} (F : FunC K "_law_spots_right" "_law_spots_right" sSp f fd c) (T : TB mg) (TBl : LamX.TabB base mg c Pt) (hmem : (Pt, qualS) ∈ TT) (hone : ∀ q ∈ TT, q.1 = Pt → q.2 = qualS) (Nm : SaidN mg CL RE) (R2 : SaidC K CL RE 2) (R3 : SaidC K CL RE 3) (G : Fun K "_law_said" "_law_said" sSaid g dg) (cG : Cal K mg "_law_said" g dg ["deed"])
    {fA : Addr} {dA : FuncData} (cA : Cal K mg "round_at" fA dA ["yard", "setting", "end"]) (gA : FnOk P w K mg base (L2.CX P w) 8 fA dA ["yard", "setting", "end"] (spSpot (CL 0) (CL 1) (CL 2) 4))
    {fT : Addr} {dT : FuncData} (cT : Cal K mg "meeting" fT dT ["yard", "setting", "crossing"]) (gT : FnOk P w K mg base (L2.CX P w) 9 fT dT ["yard", "setting", "crossing"] (spSpot (CL 0) (CL 1) (CL 3) 1))
    {fW : Addr} {dW : FuncData} (cW : Cal K mg "outer_way" fW dW ["yard", "setting", "crossing"]) (gW : FnOk P w K mg base (L2.CX P w) 8 fW dW ["yard", "setting", "crossing"] (spSpot (CL 0) (CL 1) (CL 3) 1))
    (D : Cal K mg "_law_draw" fD dD ["state", "many"]) (GD : FnOk P w K mg base CX0 2 fD dD ["state", "many"] spDR) :
    FnG P w K mg base CX0 14 f fd ["state", "yard", "setting"] (spSp TT) := by
  refine okGC F scSp (fun vs H Q E h => ?_) (fun A outer s H vs Q E hgd hr h => ?_)
  · obtain ⟨p, a, l, y, t, n, m, ps, ws, rfl, _⟩ := h
    rfl
  · obtain ⟨p, a, l, y, t, n, m, ps, ws, rfl, M, hn, hY, m40, hS, tb, k⟩ := h
    have nd := scSp.nd
    have hu : (A.deeper (envOfC "_law_spots_right" (defScope sSp) s.heap.objs.size f (.ref c))).units + 64 < cLine := hr.units
    have rm : ∀ {j : Nat}, j ≤ 13 → Room j (A.deeper (envOfC "_law_spots_right" (defScope sSp) s.heap.objs.size f (.ref c))) := fun h => hr.mono h
    obtain ⟨oc, od, kV, doc, pm, an, cdg, ctg, osl, rfl, lkg, hcg⟩ := G.ex
    let X : Cx := (cxOf CX0 P w K mg base nSp "_law_spots_right" (defScope sSp) f (.ref c) A outer s H E).nox
    have rp : ∀ {X' : Cx}, X'.A = A.deeper (envOfC "_law_spots_right" (defScope sSp) s.heap.objs.size f (.ref c)) → CallR X' (.builtin "repr") (rReprQ X'.K) := fun e => cr_reprQ (by rw [e]; exact hgd) (by rw [e]; exact hu)
    have lam : ∀ {body : Expr} {scope : Scope} {t : XK → TE} {p lpos pos : Pos} (LS : LamX.LamS (defScope sSp) scope) (hbody : ∀ (A' : Around) (outer : List Env) (s : Shared) (H : Hp) (E : XK) (f' c' : Addr), Room 11 (A'.deeper (LamX.lamEnv X scope s.heap.objs.size f' c')) → PE (LamX.lamCx X A' outer s H E scope f' c') body (t E)),
        PE X (.Call (.Name "_law_said" p) [.Lambda { posonlyargs := [], args := [], vararg := none, kwonlyargs := [], kw_defaults := [], kwarg := none, defaults := [] } body scope lpos] [] pos) (LamX.tLam TT (TTsaid K CL RE) t) := fun LS hbody =>
      LamX.pe_lamcall (X := X) (k := 11) rfl cG.g cG.kp lkg hcg cG.b scSaid rfl (.inl rfl) (said_gives (X := X) T Nm hr) TBl rfl hmem hone hr LS rfl (fun _ _ _ _ _ => rfl) hbody
    have cra : ∀ {A' : Around} {outer : List Env} {s : Shared} {H : Hp} {E : XK} {scope : Scope} {f' c' : Addr} {a b d : Expr} {ta : TE} {tr : TA} {p pos : Pos} (hr8 : Room 11 (A'.deeper (LamX.lamEnv X scope s.heap.objs.size f' c'))) (hg : scope.names.lookup ("round_at" : Str) = some .globalImplicit)
        (ha : PA (LamX.lamCx X A' outer s H E scope f' c') [a, b, d] (tCons ta tr)) (he : starEach [a, b, d] (LamX.lamEnv X scope s.heap.objs.size f' c') = (false, eval a (LamX.lamEnv X scope s.heap.objs.size f' c')) :: starEach [b, d] (LamX.lamEnv X scope s.heap.objs.size f' c'))
        (hpl : (backTo pos (starEach [b, d] (LamX.lamEnv X scope s.heap.objs.size f' c'))).any (·.1) = false), PE (LamX.lamCx X A' outer s H E scope f' c') (.Call (.Name "round_at" p) [a, b, d] [] pos) (tCall (spSpot (CL 0) (CL 1) (CL 2) 4) [] E (tCons ta tr)) := fun hr8 hg ha he hpl =>
      pe_call gA (hr8.mono (by decide)) hg cA.g cA.kp cA.b .nil (passes_call (takes_of rfl rfl rfl rfl) (fun _ _ _ _ h => h)) ha (by decide) he hpl
    have cmt : ∀ {A' : Around} {outer : List Env} {s : Shared} {H : Hp} {E : XK} {scope : Scope} {f' c' : Addr} {a b d : Expr} {ta : TE} {tr : TA} {p pos : Pos} (hr8 : Room 11 (A'.deeper (LamX.lamEnv X scope s.heap.objs.size f' c'))) (hg : scope.names.lookup ("meeting" : Str) = some .globalImplicit)
        (ha : PA (LamX.lamCx X A' outer s H E scope f' c') [a, b, d] (tCons ta tr)) (he : starEach [a, b, d] (LamX.lamEnv X scope s.heap.objs.size f' c') = (false, eval a (LamX.lamEnv X scope s.heap.objs.size f' c')) :: starEach [b, d] (LamX.lamEnv X scope s.heap.objs.size f' c'))
        (hpl : (backTo pos (starEach [b, d] (LamX.lamEnv X scope s.heap.objs.size f' c'))).any (·.1) = false), PE (LamX.lamCx X A' outer s H E scope f' c') (.Call (.Name "meeting" p) [a, b, d] [] pos) (tCall (spSpot (CL 0) (CL 1) (CL 3) 1) [] E (tCons ta tr)) := fun hr8 hg ha he hpl =>
      pe_call gT (hr8.mono (by decide)) hg cT.g cT.kp cT.b .nil (passes_call (takes_of rfl rfl rfl rfl) (fun _ _ _ _ h => h)) ha (by decide) he hpl
    have cow : ∀ {A' : Around} {outer : List Env} {s : Shared} {H : Hp} {E : XK} {scope : Scope} {f' c' : Addr} {a b d : Expr} {ta : TE} {tr : TA} {p pos : Pos} (hr8 : Room 11 (A'.deeper (LamX.lamEnv X scope s.heap.objs.size f' c'))) (hg : scope.names.lookup ("outer_way" : Str) = some .globalImplicit)
        (ha : PA (LamX.lamCx X A' outer s H E scope f' c') [a, b, d] (tCons ta tr)) (he : starEach [a, b, d] (LamX.lamEnv X scope s.heap.objs.size f' c') = (false, eval a (LamX.lamEnv X scope s.heap.objs.size f' c')) :: starEach [b, d] (LamX.lamEnv X scope s.heap.objs.size f' c'))
        (hpl : (backTo pos (starEach [b, d] (LamX.lamEnv X scope s.heap.objs.size f' c'))).any (·.1) = false), PE (LamX.lamCx X A' outer s H E scope f' c') (.Call (.Name "outer_way" p) [a, b, d] [] pos) (tCall (spSpot (CL 0) (CL 1) (CL 3) 1) [] E (tCons ta tr)) := fun hr8 hg ha he hpl =>
      pe_call gW (hr8.mono (by decide)) hg cW.g cW.kp cW.b .nil (passes_call (takes_of rfl rfl rfl rfl) (fun _ _ _ _ h => h)) ha (by decide) he hpl
    refine ⟨_, pss_cons (ps_set (i := 3) nd rfl (Or.inl rfl) (pe_callB call_len_seq (by rfl) T.len PySem.boot_len (pa_cons (pv 2) pa_nil)))
      (C8.pss_cut (ps_set (i := 4) nd rfl (Or.inr rfl) (pe_ix ix_list (pe_lst (pa_cons (pe_op op_mul pe_int (pv 3)) (pa_cons (pe_un un_neg pe_int) (pa_cons pe_bl (pa_cons pe_non (pa_cons pe_str (pa_cons (pe_tup (pa_cons pe_int pa_nil)) (pa_cons (pe_op op_powB pe_int pe_int) (pa_cons (pe_lst (pa_cons pe_int pa_nil)) pa_nil))))))))) (pe_call GD (rm (by decide)) rfl D.g D.kp D.b .nil pass0 (pa_cons (pv 0) (pa_cons pe_int pa_nil))) (fun _ _ => rfl)))
      (C8.pss_cut (ps_set (i := 5) nd rfl (Or.inr rfl) (pe_ix ix_list (pe_lst (pa_cons (pv 3) (pa_cons (pe_un un_neg pe_int) (pa_cons pe_bl (pa_cons pe_non (pa_cons pe_str (pa_cons (pe_tup (pa_cons pe_int pa_nil)) (pa_cons (pe_op op_powB pe_int pe_int) (pa_cons (pe_lst (pa_cons pe_int pa_nil)) pa_nil))))))))) (pe_call GD (rm (by decide)) rfl D.g D.kp D.b .nil pass0 (pa_cons (pv 0) (pa_cons pe_int pa_nil))) (fun _ _ => rfl)))
      (pss_cons (ps_set (i := 6) nd rfl (Or.inl rfl) (pe_lst (pa_cons (lam (LamX.lamS_by (by decide +kernel)) fun A' outer s H E f' c' hr8 => cra hr8 (by decide +kernel) (pa_cons (pv 1) (pa_cons (pv 2) (pa_cons (pv 4) pa_nil))) (by rfl) (by rfl)) pa_nil)))
      (pss_cons (ps_expr (pe_bm PySem.F.plainAttrs_list PySem.F.slot_list_append PySem.F.type_list_append mt_append (pv 6) (pa_cons (lam (LamX.lamS_by (by decide +kernel)) fun A' outer s H E f' c' hr8 => cmt hr8 (by decide +kernel) (pa_cons (pv 1) (pa_cons (pv 2) (pa_cons (pv 5) pa_nil))) (by rfl) (by rfl)) pa_nil)))
      (pss_cons (ps_expr (pe_bm PySem.F.plainAttrs_list PySem.F.slot_list_append PySem.F.type_list_append mt_append (pv 6) (pa_cons (lam (LamX.lamS_by (by decide +kernel)) fun A' outer s H E f' c' hr8 => cow hr8 (by decide +kernel) (pa_cons (pv 1) (pa_cons (pv 2) (pa_cons (pv 5) pa_nil))) (by rfl) (by rfl)) pa_nil)))
      (pss_one (ps_ret (pe_cmpR (op_eqD (by exact hu)) (pv 6) (pe_lst (pa_cons (pe_tup (pa_cons pe_str (pa_cons (pe_tup pa_nil) pa_nil))) (pa_cons (pe_tup (pa_cons pe_str (pa_cons (pe_tup pa_nil) pa_nil))) (pa_cons (pe_tup (pa_cons pe_str (pa_cons (pe_tup pa_nil) pa_nil))) pa_nil)))) (nomark _))))))))), ?_⟩
    have ln : (nats ws).length = m := (List.length_map _).trans hS.len
    refine ⟨_, rfl, t, _, rfl, .inr (SqT.of hS.here), ?_⟩
    rw [ln]
    have S0 := Since.refl M tb
    refine ⟨fun σ H' => ∃ ev : V, σ = [some (.ref p), some (.ref y), some (.ref t), some (.int (m : Nat)), some ev, none, none] ∧ Since TT p a l (n + 1) H H' ∧ EvAt p l H' ev ((4 * m : Nat) : Int), ?_, ?_⟩
    · show _
      refine ⟨_, rfl, _, _, rfl, rfl, .inl ⟨by decide, by decide⟩, _, rfl, by show 1 ≤ sizeLine; decide, fun qa hqa => ?_⟩
      have s1a := Same.new (o := .tup [V.int 0]) hqa
      have g1a := upd_same (H := H) (a := qa) (o := .tup [V.int 0])
      have o1a := S0.M.apart hqa
      generalize upd H qa (.tup [V.int 0]) = H1a at s1a g1a
      have S1a := S0.same s1a
      refine ⟨_, _, rfl, rfl, powB_30, by show 1 ≤ sizeLine; decide, fun ka hka => ?_⟩
      have s2a := Same.new (o := .lst [V.int 0]) hka
      have g2a := upd_same (H := H1a) (a := ka) (o := .lst [V.int 0])
      have o2a := S1a.M.apart hka
      generalize upd H1a ka (.lst [V.int 0]) = H2a at s2a g2a
      have S2a := S1a.same s2a
      refine ⟨by show 8 ≤ sizeLine; decide, fun La hLa => ?_⟩
      have s3a := Same.new (o := .lst [(fun i j : Int => V.int (i * j)) 4 ((m : Nat) : Int), (fun i : Int => V.int (-i)) 1, V.bl true, V.non, V.str "0", V.ref qa, (fun i j : Int => V.int (i ^ j.toNat)) 10 30, V.ref ka]) hLa
      have g3a : (upd H2a La (.lst [(fun i j : Int => V.int (i * j)) 4 ((m : Nat) : Int), (fun i : Int => V.int (-i)) 1, V.bl true, V.non, V.str "0", V.ref qa, (fun i j : Int => V.int (i ^ j.toNat)) 10 30, V.ref ka])) La = some (.lst [V.int (4 * ((m : Nat) : Int)), V.int (-1), V.bl true, V.non, V.str "0", V.ref qa, V.int (10 ^ 30), V.ref ka]) := upd_same
      have o3a := S2a.M.apart hLa
      generalize upd H2a La (.lst [(fun i j : Int => V.int (i * j)) 4 ((m : Nat) : Int), (fun i : Int => V.int (-i)) 1, V.bl true, V.non, V.str "0", V.ref qa, (fun i j : Int => V.int (i ^ j.toNat)) 10 30, V.ref ka]) = H3a at s3a g3a
      have S3a := S2a.same s3a
      refine ⟨_, rfl, p, a, l, _, 8, rfl, S3a.M, by omega, by decide, by decide, fun HEa ra MEa eEa r0a r8a => ?_⟩
      have SEa := S3a.extl MEa eEa
      have b1a := eEa _ _ o1a.1 o1a.2 ((s2a.trans s3a) _ _ g1a)
      have b2a := eEa _ _ o2a.1 o2a.2 (s3a _ _ g2a)
      have b3a := eEa _ _ o3a.1 o3a.2 g3a
      have every : ∀ x ∈ [V.int (4 * ((m : Nat) : Int)), V.int (-1), V.bl true, V.non, V.str "0", V.ref qa, V.int (10 ^ 30), V.ref ka], EvAt p l HEa x ((4 * m : Nat) : Int) := fun x hx Hx e => by
        simp only [List.mem_cons, List.not_mem_nil, or_false] at hx
        rcases hx with rfl | rfl | rfl | rfl | rfl | rfl | rfl | rfl
        · exact ⟨⟨_, .int _⟩, not_below (by omega)⟩
        · exact ⟨⟨_, .int _⟩, rfl⟩
        · exact ⟨⟨_, .bl _⟩, rfl⟩
        · exact ⟨⟨_, .non⟩, rfl⟩
        · exact ⟨⟨_, .str _⟩, rfl⟩
        · exact ⟨⟨_, .tup (e _ _ o1a.1 o1a.2 (by intro _ z; cases z) b1a)⟩, rfl⟩
        · exact ⟨⟨_, .int _⟩, not_below (Int.le_trans (by omega : _ ≤ (1000 : Int)) (by decide))⟩
        · exact ⟨⟨_, .lst (e _ _ o2a.1 o2a.2 (by intro _ z; cases z) b2a)⟩, rfl⟩
      have l8 : ([V.int (4 * ((m : Nat) : Int)), V.int (-1), V.bl true, V.non, V.str "0", V.ref qa, V.int (10 ^ 30), V.ref ka] : List V).length = 8 := rfl
      generalize ([V.int (4 * ((m : Nat) : Int)), V.int (-1), V.bl true, V.non, V.str "0", V.ref qa, V.int (10 ^ 30), V.ref ka] : List V) = xs at every b3a l8
      have hj : ra.toNat < xs.length := by omega
      refine ⟨La, _, _, xs[ra.toNat], rfl, rfl, SqL.of b3a, at_of (j := ra.toNat) (by omega) (List.getElem?_eq_getElem hj), ?_⟩
      exact ⟨_, rfl, SEa, every _ (List.getElem_mem hj)⟩
    · rintro σ H1 ⟨ev, rfl, S1, E1⟩
      refine ⟨fun σ H' => ∃ cv : V, σ = [some (.ref p), some (.ref y), some (.ref t), some (.int (m : Nat)), some ev, some cv, none] ∧ Since TT p a l (n + 2) H H' ∧ ExtT p l H1 H' ∧ EvAt p l H' cv ((m : Nat) : Int), ?_, ?_⟩
      · show _
        have T1 := Since.refl S1.M S1.t
        refine ⟨_, rfl, _, rfl, by show 1 ≤ sizeLine; decide, fun qb hqb => ?_⟩
        have s1b := Same.new (o := .tup [V.int 0]) hqb
        have g1b := upd_same (H := H1) (a := qb) (o := .tup [V.int 0])
        have o1b := T1.M.apart hqb
        generalize upd H1 qb (.tup [V.int 0]) = H1b at s1b g1b
        have S1b := T1.same s1b
        refine ⟨_, _, rfl, rfl, powB_30, by show 1 ≤ sizeLine; decide, fun kb hkb => ?_⟩
        have s2b := Same.new (o := .lst [V.int 0]) hkb
        have g2b := upd_same (H := H1b) (a := kb) (o := .lst [V.int 0])
        have o2b := S1b.M.apart hkb
        generalize upd H1b kb (.lst [V.int 0]) = H2b at s2b g2b
        have S2b := S1b.same s2b
        refine ⟨by show 8 ≤ sizeLine; decide, fun Lb hLb => ?_⟩
        have s3b := Same.new (o := .lst [V.int ((m : Nat) : Int), (fun i : Int => V.int (-i)) 1, V.bl false, V.non, V.str "0", V.ref qb, (fun i j : Int => V.int (i ^ j.toNat)) 10 30, V.ref kb]) hLb
        have g3b : (upd H2b Lb (.lst [V.int ((m : Nat) : Int), (fun i : Int => V.int (-i)) 1, V.bl false, V.non, V.str "0", V.ref qb, (fun i j : Int => V.int (i ^ j.toNat)) 10 30, V.ref kb])) Lb = some (.lst [V.int ((m : Nat) : Int), V.int (-1), V.bl false, V.non, V.str "0", V.ref qb, V.int (10 ^ 30), V.ref kb]) := upd_same
        have o3b := S2b.M.apart hLb
        generalize upd H2b Lb (.lst [V.int ((m : Nat) : Int), (fun i : Int => V.int (-i)) 1, V.bl false, V.non, V.str "0", V.ref qb, (fun i j : Int => V.int (i ^ j.toNat)) 10 30, V.ref kb]) = H3b at s3b g3b
        have S3b := S2b.same s3b
        refine ⟨_, rfl, p, a, l, _, 8, rfl, S3b.M, by omega, by decide, by decide, fun HEb rb MEb eEb r0b r8b => ?_⟩
        have SEb := S3b.extl MEb eEb
        have b1b := eEb _ _ o1b.1 o1b.2 ((s2b.trans s3b) _ _ g1b)
        have b2b := eEb _ _ o2b.1 o2b.2 (s3b _ _ g2b)
        have b3b := eEb _ _ o3b.1 o3b.2 g3b
        have every : ∀ x ∈ [V.int ((m : Nat) : Int), V.int (-1), V.bl false, V.non, V.str "0", V.ref qb, V.int (10 ^ 30), V.ref kb], EvAt p l HEb x ((m : Nat) : Int) := fun x hx Hx e => by
          simp only [List.mem_cons, List.not_mem_nil, or_false] at hx
          rcases hx with rfl | rfl | rfl | rfl | rfl | rfl | rfl | rfl
          · exact ⟨⟨_, .int _⟩, not_below (by omega)⟩
          · exact ⟨⟨_, .int _⟩, rfl⟩
          · exact ⟨⟨_, .bl _⟩, rfl⟩
          · exact ⟨⟨_, .non⟩, rfl⟩
          · exact ⟨⟨_, .str _⟩, rfl⟩
          · exact ⟨⟨_, .tup (e _ _ o1b.1 o1b.2 (by intro _ z; cases z) b1b)⟩, rfl⟩
          · exact ⟨⟨_, .int _⟩, not_below (Int.le_trans (by omega : _ ≤ (1000 : Int)) (by decide))⟩
          · exact ⟨⟨_, .lst (e _ _ o2b.1 o2b.2 (by intro _ z; cases z) b2b)⟩, rfl⟩
        have l8 : ([V.int ((m : Nat) : Int), V.int (-1), V.bl false, V.non, V.str "0", V.ref qb, V.int (10 ^ 30), V.ref kb] : List V).length = 8 := rfl
        generalize ([V.int ((m : Nat) : Int), V.int (-1), V.bl false, V.non, V.str "0", V.ref qb, V.int (10 ^ 30), V.ref kb] : List V) = xs at every b3b l8
        have hj : rb.toNat < xs.length := by omega
        refine ⟨Lb, _, _, xs[rb.toNat], rfl, rfl, SqL.of b3b, at_of (j := rb.toNat) (by omega) (List.getElem?_eq_getElem hj), ?_⟩
        exact ⟨_, rfl, ⟨S1.e.trans SEb.e, SEb.M, SEb.t⟩, SEb.e, every _ (List.getElem_mem hj)⟩
      · rintro σ H2 ⟨cv, rfl, S2, e2, E2⟩
        have T2 := Since.refl S2.M S2.t
        have M2 : ML H p a l (n + 2) := M.lt (by omega) (by omega)
        have back : ∀ {Hx : Hp}, Since TT p a l (n + 2) H2 Hx → ∀ b xs, H b = some (.tup xs) → Hx b = some (.tup xs) := fun {Hx} S b xs h => Since.tup S2.M S _ _ (Since.tup M2 S2 _ _ h)
        refine lam_go (K := K) (CL := CL) (RE := RE) T2 fun Hb0 Rk0 ea0 Sb0 hR0 => ?_
        refine ⟨_, rfl, _, rfl, _, rfl, .ref y, .ref t, ev, rfl, .inr ⟨y, m, ps, rfl, hY.mono (back Sb0), m40, .inr ⟨t, ws, rfl, hS.mono (back Sb0), ((E1 Hb0 (e2.trans Sb0.e)).1), ((E1 Hb0 (e2.trans Sb0.e)).2), said_wrong (ns := []) R2 fun Hc0 u0 r0 sc0 hu0 hr0 => ?_⟩⟩⟩
        have Sc0 := Sb0.same sc0
        try unfold tNil
        refine ⟨by show 1 ≤ sizeLine; decide, fun L hL => ?_⟩
        have SB := Since.refl Sc0.M Sc0.t
        have sL := Same.new (o := .lst [V.ref u0]) hL
        have hL0 := upd_same (H := Hc0) (a := L) (o := .lst [V.ref u0])
        have hU00 : UT (upd Hc0 L (.lst [V.ref u0])) (wordS 2) [] (.ref u0) := ⟨u0, r0, rfl, sL _ _ hu0, sL _ _ hr0⟩
        generalize upd Hc0 L (.lst [V.ref u0]) = H0 at sL hL0 hU00
        have S0' := SB.same sL
        refine ⟨_, rfl, .inl ⟨rfl, _, SqL.of hL0⟩, ?_⟩
        refine lam_go (K := K) (CL := CL) (RE := RE) S0' fun Hb1 Rk1 ea1 Sb1 hR1 => ?_
        refine ⟨_, rfl, _, rfl, _, rfl, .ref y, .ref t, cv, rfl, .inr ⟨y, m, ps, rfl, hY.mono (fun b xs h => Since.tup Sc0.M Sb1 _ _ (back Sc0 _ _ h)), m40, .inr ⟨t, ws, rfl, hS.mono (fun b xs h => Since.tup Sc0.M Sb1 _ _ (back Sc0 _ _ h)), ((E2 Hb1 (Sc0.e.trans Sb1.e)).1), (by rw [Nat.one_mul]; exact (E2 Hb1 (Sc0.e.trans Sb1.e)).2), said_wrong (ns := []) R3 fun Hc1 u1 r1 sc1 hu1 hr1 => ?_⟩⟩⟩
        have gL1 := sc1 _ _ (ea1 _ _ hL0 (by intro _ z; cases z))
        have Sc1 := Sb1.same sc1
        have tt1 : ∀ b xs, H0 b = some (.tup xs) → Hc1 b = some (.tup xs) := fun b xs h => sc1 _ _ (ea1 _ _ h (by intro _ z; cases z))
        refine ⟨L, _, _, rfl, rfl, gL1, small1000 (by show 1 ≤ 1000; decide), ?_⟩
        have S1' := Sc1.wr (ys := [V.ref u0] ++ [V.ref u1]) Sc0.M hL gL1
        have k91 : ∀ b xs, Hc1 b = some (.tup xs) → (upd Hc1 L (.lst ([V.ref u0] ++ [V.ref u1]))) b = some (.tup xs) := fun b xs h => (upd_ne (ne_of h gL1 (by intro z; cases z))).trans h
        have hU10 := (hU00.to tt1).to k91
        have hU11 : UT (upd Hc1 L (.lst ([V.ref u0] ++ [V.ref u1]))) (wordS 3) [] (.ref u1) := ⟨u1, r1, rfl, k91 _ _ hu1, k91 _ _ hr1⟩
        have hL1 := upd_same (H := Hc1) (a := L) (o := .lst ([V.ref u0] ++ [V.ref u1]))
        generalize upd Hc1 L (.lst ([V.ref u0] ++ [V.ref u1])) = H1x at S1' hL1 hU10 hU11
        refine ⟨_, rfl, .inl ⟨rfl, _, SqL.of hL1⟩, ?_⟩
        refine lam_go (K := K) (CL := CL) (RE := RE) S1' fun Hb2 Rk2 ea2 Sb2 hR2 => ?_
        refine ⟨_, rfl, _, rfl, _, rfl, .ref y, .ref t, cv, rfl, .inr ⟨y, m, ps, rfl, hY.mono (fun b xs h => Since.tup Sc0.M Sb2 _ _ (back Sc0 _ _ h)), m40, .inr ⟨t, ws, rfl, hS.mono (fun b xs h => Since.tup Sc0.M Sb2 _ _ (back Sc0 _ _ h)), ((E2 Hb2 (Sc0.e.trans Sb2.e)).1), (by rw [Nat.one_mul]; exact (E2 Hb2 (Sc0.e.trans Sb2.e)).2), said_wrong (ns := []) R3 fun Hc2 u2 r2 sc2 hu2 hr2 => ?_⟩⟩⟩
        have gL2 := sc2 _ _ (ea2 _ _ hL1 (by intro _ z; cases z))
        have Sc2 := Sb2.same sc2
        have tt2 : ∀ b xs, H1x b = some (.tup xs) → Hc2 b = some (.tup xs) := fun b xs h => sc2 _ _ (ea2 _ _ h (by intro _ z; cases z))
        refine ⟨L, _, _, rfl, rfl, gL2, small1000 (by show 2 ≤ 1000; decide), ?_⟩
        have S2' := Sc2.wr (ys := ([V.ref u0] ++ [V.ref u1]) ++ [V.ref u2]) Sc0.M hL gL2
        have k92 : ∀ b xs, Hc2 b = some (.tup xs) → (upd Hc2 L (.lst (([V.ref u0] ++ [V.ref u1]) ++ [V.ref u2]))) b = some (.tup xs) := fun b xs h => (upd_ne (ne_of h gL2 (by intro z; cases z))).trans h
        have hU20 := (hU10.to tt2).to k92
        have hU21 := (hU11.to tt2).to k92
        have hU22 : UT (upd Hc2 L (.lst (([V.ref u0] ++ [V.ref u1]) ++ [V.ref u2]))) (wordS 3) [] (.ref u2) := ⟨u2, r2, rfl, k92 _ _ hu2, k92 _ _ hr2⟩
        have hL2 := upd_same (H := Hc2) (a := L) (o := .lst (([V.ref u0] ++ [V.ref u1]) ++ [V.ref u2]))
        generalize upd Hc2 L (.lst (([V.ref u0] ++ [V.ref u1]) ++ [V.ref u2])) = H2x at S2' hL2 hU20 hU21 hU22
        refine ⟨_, rfl, ?_⟩
        refine ⟨Nat.zero_le _, fun z0 hz0 => ⟨two_le, fun v0 hv0 => ?_⟩⟩
        have sz0 := Same.new (o := .tup []) hz0
        have sv0 := Same.new (o := .tup [V.str "end", V.ref z0]) hv0
        have hV0 : UT (upd (upd H2x z0 (.tup [])) v0 (.tup [V.str "end", V.ref z0])) "end" [] (.ref v0) := ⟨v0, z0, rfl, upd_same, sv0 _ _ upd_same⟩
        have sw0 := sz0.trans sv0
        clear sz0 sv0
        generalize upd (upd H2x z0 (.tup [])) v0 (.tup [V.str "end", V.ref z0]) = Hv0 at sw0 hV0
        refine ⟨Nat.zero_le _, fun z1 hz1 => ⟨two_le, fun v1 hv1 => ?_⟩⟩
        have sz1 := Same.new (o := .tup []) hz1
        have sv1 := Same.new (o := .tup [V.str "out", V.ref z1]) hv1
        have hV1 : UT (upd (upd Hv0 z1 (.tup [])) v1 (.tup [V.str "out", V.ref z1])) "out" [] (.ref v1) := ⟨v1, z1, rfl, upd_same, sv1 _ _ upd_same⟩
        have sw1 := sz1.trans sv1
        clear sz1 sv1
        generalize upd (upd Hv0 z1 (.tup [])) v1 (.tup [V.str "out", V.ref z1]) = Hv1 at sw1 hV1
        refine ⟨Nat.zero_le _, fun z2 hz2 => ⟨two_le, fun v2 hv2 => ?_⟩⟩
        have sz2 := Same.new (o := .tup []) hz2
        have sv2 := Same.new (o := .tup [V.str "out", V.ref z2]) hv2
        have hV2 : UT (upd (upd Hv1 z2 (.tup [])) v2 (.tup [V.str "out", V.ref z2])) "out" [] (.ref v2) := ⟨v2, z2, rfl, upd_same, sv2 _ _ upd_same⟩
        have sw2 := sz2.trans sv2
        clear sz2 sv2
        generalize upd (upd Hv1 z2 (.tup [])) v2 (.tup [V.str "out", V.ref z2]) = Hv2 at sw2 hV2
        refine ⟨by show 3 ≤ sizeLine; decide, fun Lf hLf => ?_⟩
        have sF := Same.new (o := .lst [V.ref v0, V.ref v1, V.ref v2]) hLf
        have gF := upd_same (H := Hv2) (a := Lf) (o := .lst [V.ref v0, V.ref v1, V.ref v2])
        generalize upd Hv2 Lf (.lst [V.ref v0, V.ref v1, V.ref v2]) = HF at sF gF
        have SF := S2'.same (sw0.trans (sw1.trans (sw2.trans sF)))
        have hLF : HF L = some (.lst [V.ref u0, V.ref u1, V.ref u2]) := (sw0.trans (sw1.trans (sw2.trans sF))) _ _ hL2
        refine ⟨.list [.tuple [.str (wordS 2), nsD []], .tuple [.str (wordS 3), nsD []], .tuple [.str (wordS 3), nsD []]], .list [.tuple [.str (wordS 2), nsD []], .tuple [.str (wordS 3), nsD []], .tuple [.str (wordS 3), nsD []]], .lst (SqL.of hLF) (.cons (hU20.to (sameT (sw0.trans (sw1.trans (sw2.trans sF))))).dp (.cons (hU21.to (sameT (sw0.trans (sw1.trans (sw2.trans sF))))).dp (.cons (hU22.to (sameT (sw0.trans (sw1.trans (sw2.trans sF))))).dp .nil))),
          .lst (SqL.of gF) (.cons (hV0.to (sameT (sw1.trans (sw2.trans sF)))).dp (.cons (hV1.to (sameT (sw2.trans sF))).dp (.cons (hV2.to (sameT sF)).dp .nil))), by decide +kernel, by decide +kernel, ?_⟩
        rw [show PyData.eqv (.list [.tuple [.str (wordS 2), nsD []], .tuple [.str (wordS 3), nsD []], .tuple [.str (wordS 3), nsD []]]) (.list [.tuple [.str (wordS 2), nsD []], .tuple [.str (wordS 3), nsD []], .tuple [.str (wordS 3), nsD []]]) = true by decide +kernel]
        exact k _ SF.M (S2.e.trans (Sc0.e.trans SF.e)) SF.t
end
end One
end P_KG

section P_KL
set_option linter.all false
set_option maxRecDepth 100000
set_option maxHeartbeats 16000000
namespace One
open PySem PySem.Spec PyProof.Rows L2
abbrev sLaw : Stmt := top 72
abbrev nLaw : List Str := ["script", "state", "turn", "yard", "many", "kept", "setting", "more", "bent", "place", "shown", "thing", "spot", "number"]
theorem scLaw : FnScope nLaw ["script"] (defScope sLaw) := ⟨rfl, rfl, rfl, by decide +kernel, rfl, by decide +kernel, by decide +kernel⟩
theorem one_of3 {Pa Pi Ps : Addr} {a b c : Str} (h1 : Pa ≠ Pi) (h2 : Pa ≠ Ps) (h3 : Pi ≠ Ps) : (∀ q ∈ [(Pa, a), (Pi, b), (Ps, c)], q.1 = Pa → q.2 = a) ∧ (∀ q ∈ [(Pa, a), (Pi, b), (Ps, c)], q.1 = Pi → q.2 = b) ∧ (∀ q ∈ [(Pa, a), (Pi, b), (Ps, c)], q.1 = Ps → q.2 = c) := by
  refine ⟨fun q hq e => ?_, fun q hq e => ?_, fun q hq e => ?_⟩ <;> simp only [List.mem_cons, List.not_mem_nil, or_false] at hq <;> rcases hq with rfl | rfl | rfl
  · rfl
  · exact absurd e.symm h1
  · exact absurd e.symm h2
  · exact absurd e h1
  · rfl
  · exact absurd e.symm h3
  · exact absurd e h2
  · exact absurd e h3
  · rfl
theorem nats_inj : ∀ {a b : List Nat}, nats a = nats b → a = b
  | [], [], _ => rfl
  | [], _ :: _, h => by cases h
  | _ :: _, [], h => by cases h
  | x :: a, y :: b, h => by
    have h : V.int ((x : Nat) : Int) :: nats a = V.int ((y : Nat) : Int) :: nats b := h
    obtain ⟨h1, h2⟩ := List.cons.inj h
    have := V.int.inj h1
    rw [nats_inj h2, show x = y by omega]
theorem ny_same {C0 : Addr} {H : Hp} {w z : Addr} {tv : V} {pl : List Nat} {E : XK} (h : NYat C0 H (.ref w)) (hw : H w = some (.tup [tv, .ref z])) (hz : H z = some (.tup (nats pl))) (hx : RWrong C0 E H pl) : BadY C0 tv H E := by
  obtain ⟨w2, z2, tv2, pl2, e, hw2, hz2, _, _, bad⟩ := h
  cases e
  rw [hw] at hw2
  cases hw2
  rw [hz] at hz2
  rw [nats_inj (HO.tup.inj (Option.some.inj hz2))] at hx
  exact bad E hx
def spLaw (K : PySem.W.Frag) (Pa Pi Ps : Addr) : Sp := fun vs H Q _ => ∃ (a : Addr) (ns : List Int), vs = [.ref a] ∧ SqL K H a (ns.map V.int) ∧ ns.length ≤ 63 ∧ H Pa = some (.tbl #[]) ∧ H Pi = some (.tbl #[]) ∧ H Ps = some (.tbl #[]) ∧ ∀ H', Q (.bl true) H'
theorem yard_small {n : Nat} {ps : List (Nat × Nat)} (L : Lines n ps) (hn : n ≤ 40) : (∀ p ∈ ps, p.1 < 1000 ∧ p.2 < 1000) ∧ ps.length ≤ 1000 := by
  refine ⟨fun p hp => ?_, ?_⟩
  · have h1 := L.lt _ (mem_ends.mpr ⟨p, hp, .inl rfl⟩)
    have h2 := L.lt _ (mem_ends.mpr ⟨p, hp, .inr rfl⟩)
    omega
  · have := L.len
    omega
section
variable {P : Program} {w : World} {K : PySem.W.Frag} {mg : Str → Option Value} {base : Heap} {CL : Nat → Addr} {Pa Pi Ps : Addr}
theorem ok_law {f fB fY fS fBe fPl fNy fD fI fSp fA : Addr} {fd dB dY dS dBe dPl dNy dD dI dSp dA : FuncData} {TT : List (Addr × Str)} (hTT : TT = [(Pa, qualA), (Pi, qualI), (Ps, qualS)]) (F : Fun K "law" "law" sLaw f fd) (T : TB mg) (cB : Cal K mg "_law_begin" fB dB ["script"]) (gB : FnOk P w K mg base CX0 1 fB dB ["script"] (spBG K))
    (cY : Cal K mg "_law_yard" fY dY ["state", "many"]) (gY : FnOk P w K mg base CX0 4 fY dY ["state", "many"] spYD) (cS : Cal K mg "_law_size" fS dS ["state", "most"]) (gS : FnOk P w K mg base CX0 3 fS dS ["state", "most"] spSZ)
    (cD : Cal K mg "_law_draw" fD dD ["state", "many"]) (gD : FnOk P w K mg base CX0 2 fD dD ["state", "many"] spDR) (cBe : Cal K mg "_law_bent" fBe dBe ["state", "setting"]) (gBe : FnOk P w K mg base CX0 4 fBe dBe ["state", "setting"] spBe)
    (cPl : Cal K mg "_law_place" fPl dPl ["many", "thing"]) (gPl : FnOk P w K mg base CX0 1 fPl dPl ["many", "thing"] spPL) (cNy : Cal K mg "_law_no_yard" fNy dNy ["state", "yard"]) (gNy : FnOk P w K mg base CX0 3 fNy dNy ["state", "yard"] (spNY (CL 0)))
    (cI : Cal K mg "_law_is_let" fI dI ["yard", "setting"]) (gI : FnG P w K mg base CX0 14 fI dI ["yard", "setting"] (spIl TT)) (cSp : Cal K mg "_law_spots_right" fSp dSp ["state", "yard", "setting"]) (gSp : FnG P w K mg base CX0 14 fSp dSp ["state", "yard", "setting"] (spSp TT))
    (cA : Cal K mg "_law_all_refuse" fA dA ["yard", "thing", "due", "end", "crossing"]) (gA : FnG P w K mg base CX0 14 fA dA ["yard", "thing", "due", "end", "crossing"] (spAr TT CL)) :
    FnG P w K mg base CX0 15 f fd ["script"] (spLaw K Pa Pi Ps) := by
  refine okG0 F scLaw (fun vs H Q E h => ?_) (fun cdv A outer s H vs Q E hgd hr h => ?_)
  · obtain ⟨a, ns, rfl, _⟩ := h
    rfl
  · obtain ⟨a, ns, rfl, hS, hl, hPa, hPi, hPs, k⟩ := h
    have nd := scLaw.nd
    have hu : (A.deeper (envOfC "law" (defScope sLaw) s.heap.objs.size f cdv)).units + 64 < cLine := hr.units
    have rm : ∀ {j : Nat}, j ≤ 14 → Room j (A.deeper (envOfC "law" (defScope sLaw) s.heap.objs.size f cdv)) := fun h => hr.mono h
    have rp : ∀ {X' : Cx}, X'.A = A.deeper (envOfC "law" (defScope sLaw) s.heap.objs.size f cdv) → CallR X' (.builtin "repr") (rReprQ X'.K) := fun e => cr_reprQ (by rw [e]; exact hgd) (by rw [e]; exact hu)
    refine ⟨_, pss_cons (ps_set (i := 1) nd rfl (Or.inr rfl) (pe_call gB (rm (by decide)) rfl cB.g cB.kp cB.b .nil pass0 (pa_cons (pv 0) pa_nil)))
      (pss_cons (ps_for PassesOwn.never rfl (pi_range1 (by rfl) T.range (pa_cons pe_int pa_nil)) (pg_name (i := 2) nd rfl (Or.inl rfl))
        (pss_cons (ps_set (i := 3) nd rfl (Or.inl rfl) (pe_call gY (rm (by decide)) rfl cY.g cY.kp cY.b .nil pass0 (pa_cons (pv 1) (pa_cons (pe_call gS (rm (by decide)) rfl cS.g cS.kp cS.b .nil pass0 (pa_cons (pv 1) (pa_cons pe_int pa_nil))) pa_nil))))
      (pss_cons (ps_par (i := 4) (j := 5) (by rfl) nd rfl rfl (by decide) rfl rfl (pa_cons (pe_op op_fdiv (pe_callB call_len_seq (by rfl) T.len PySem.boot_len (pa_cons (pv 3) pa_nil)) pe_int) (pa_cons (pe_callB (rp rfl) (by rfl) T.repr boot_repr (pa_cons (pv 3) pa_nil)) pa_nil)) (by rfl))
      (pss_cons (ps_set (i := 6) nd rfl (Or.inl rfl) (pe_tupleOf (by rfl) T.tuple (pe_lc (own := [("number", 13)]) (g := (gName 13)) (tt := tYes) (te := (tCall spDR [] E0 (tCons (tVar 1) (tCons (tC (.int 3)) tNil)))) rfl nd (pi_range1 (by rfl) T.range (pa_cons (pv 4) pa_nil)) (blkOk_by (N := nLaw) (sc := defScope sLaw) (by decide +kernel)) (fun _ _ _ _ _ => pg_name (i := 13) nd rfl (Or.inl rfl)) (fun _ _ _ _ _ => pts_nil) (fun _ _ _ _ _ => by exact (pe_call gD (rm (by decide)) rfl cD.g cD.kp cD.b .nil pass0 (pa_cons (pv 1) (pa_cons pe_int pa_nil)))))))
      (pss_cons (ps_if (PW.pt (pw_or (pt_not (pt_val (pe_callG gI (by exact hgd) (rm (by decide)) rfl cI.g cI.kp cI.b .nil pass0 (pa_cons (pv 3) (pa_cons (pv 6) pa_nil))))) (pw_or1 (pt_not (pt_val (pe_callG gSp (by exact hgd) (rm (by decide)) rfl cSp.g cSp.kp cSp.b .nil pass0 (pa_cons (pv 1) (pa_cons (pv 3) (pa_cons (pv 6) pa_nil))))))))) (pss_one (ps_ret pe_bl)) pss_nil)
      (pss_cons (ps_for PassesOwn.never rfl (pi_range1 (by rfl) T.range (pa_cons pe_int pa_nil)) (pg_name (i := 7) nd rfl (Or.inl rfl))
        (pss_cons (ps_set (i := 8) nd rfl (Or.inl rfl) (pe_call gBe (rm (by decide)) rfl cBe.g cBe.kp cBe.b .nil pass0 (pa_cons (pv 1) (pa_cons (pv 6) pa_nil))))
      (C8.pss_cut (ps_par (i := 9) (j := 10) (by rfl) nd rfl rfl (by decide) rfl rfl (pa_cons (pe_call gPl (rm (by decide)) rfl cPl.g cPl.kp cPl.b .nil pass0 (pa_cons (pv 4) (pa_cons (pv 8) pa_nil))) (pa_cons (pe_callB (rp rfl) (by rfl) T.repr boot_repr (pa_cons (pv 8) pa_nil)) pa_nil)) (by rfl))
      (C8.pss_cut (ps_if (PW.pt (pw_and (pt_cmpR op_isN (pv 9) pe_non (nomark _)) (pw_and1 (pt_not (pt_val (pe_callG gI (by exact hgd) (rm (by decide)) rfl cI.g cI.kp cI.b .nil pass0 (pa_cons (pv 3) (pa_cons (pv 8) pa_nil)))))))) (pss_one (ps_ret pe_bl)) pss_nil)
      (C8.pss_cut (ps_if (PW.pt (pw_and (pt_cmpR op_notN (pv 9) pe_non (nomark _)) (pw_and1 (pt_not (pt_val (pe_callG gA (by exact hgd) (rm (by decide)) rfl cA.g cA.kp cA.b .nil pass0 (pa_cons (pv 3) (pa_cons (pv 8) (pa_cons (pe_tup (pa_cons pe_str (pa_cons (pv 9) pa_nil))) (pa_cons pe_non (pa_cons (pe_un un_neg pe_int) pa_nil))))))))))) (pss_one (ps_ret pe_bl)) pss_nil)
      (pss_cons (ps_asg (pe_call gNy (rm (by decide)) rfl cNy.g cNy.kp cNy.b .nil pass0 (pa_cons (pv 1) (pa_cons (pv 3) pa_nil))) (pg_tup rfl (pgs_cons (pg_name (i := 11) nd rfl (Or.inl rfl)) (pgs_cons (pg_name (i := 12) nd rfl (Or.inl rfl)) pgs_nil))))
      (pss_one (ps_if (PW.pt (pw_or (pt_not (pt_val (pe_callG gA (by exact hgd) (rm (by decide)) rfl cA.g cA.kp cA.b .nil pass0 (pa_cons (pv 11) (pa_cons (pv 8) (pa_cons (pe_tup (pa_cons pe_str (pa_cons (pv 12) pa_nil))) (pa_cons (pe_un un_neg pe_int) (pa_cons pe_non pa_nil)))))))) (pw_or1 (pt_cmpR op_ne (pe_callB (rp rfl) (by rfl) T.repr boot_repr (pa_cons (pv 8) pa_nil)) (pv 10) (nomark _))))) (pss_one (ps_ret pe_bl)) pss_nil))))))))
      (pss_one (ps_if (PW.pt (pw_or (pt_not (pt_val (pe_callG gI (by exact hgd) (rm (by decide)) rfl cI.g cI.kp cI.b .nil pass0 (pa_cons (pv 3) (pa_cons (pv 6) pa_nil))))) (pw_or1 (pt_cmpR op_ne (pe_callB (rp rfl) (by rfl) T.repr boot_repr (pa_cons (pv 3) pa_nil)) (pv 5) (nomark _))))) (pss_one (ps_ret pe_bl)) pss_nil))))))))
      (pss_one (ps_ret pe_bl))), ?_⟩
    have same_ne : ∀ x : Str, (!decide (V.str x = V.str x)) = false := fun x => by rw [decide_eq_true rfl]; rfl
    refine ⟨_, rfl, a, ns, rfl, hS, hl, fun H0 p c l s0 hp hc' hl' M0 => ?_⟩
    have t0 : LamX.Tabs TT H0 := fun q hq => by
      rw [hTT] at hq
      rcases List.mem_cons.mp hq with rfl | hq
      · exact LamX.TabS.nil (s0 _ _ hPa)
      rcases List.mem_cons.mp hq with rfl | hq
      · exact LamX.TabS.nil (s0 _ _ hPi)
      · rw [List.mem_singleton.mp hq]
        exact LamX.TabS.nil (s0 _ _ hPs)
    refine ⟨3, rfl, by decide, by decide, ?_⟩
    refine for_range (lo := 0) (n := (3 : Int).toNat) (fun i σ H' => ∃ v2 v3 v4 v5 v6 v7 v8 v9 va vb vc vd : Option V, σ = [some (.ref a), some (.ref p), v2, v3, v4, v5, v6, v7, v8, v9, va, vb, vc, vd] ∧ ML H' p c l (1000 * i) ∧ LamX.Tabs TT H') ⟨none, none, none, none, none, none, none, none, none, none, none, none, rfl, M0, t0⟩ ?_ ?_
    · rintro i σ H1 hi ⟨v2, v3, v4, v5, v6, v7, v8, v9, va, vb, vc, vd, rfl, M1, t1⟩
      have hi : i < 3 := hi
      refine ⟨_, rfl, _, rfl, p, c, l, _, 40, rfl, M1, by omega, by decide, by decide, fun H2 m M2 e2 m0 m40 => ?_⟩
      refine ⟨p, c, l, _, m, rfl, M2, by omega, m0, m40, fun H3 y ps M3 e3 hY => ?_⟩
      obtain ⟨Y, as, ht, hP⟩ := id hY
      obtain ⟨y1, y2⟩ := yard_small Y.lines m40
      have hlen : (refs as).length = 2 * m := by rw [show (refs as).length = as.length from List.length_map _, hP.len]; exact Y.lines.len
      refine ⟨_, rfl, y, _, rfl, .inr (SqT.of ht), _, _, rfl, rfl, ?_⟩
      refine ⟨⟨by decide, by decide⟩, ?_⟩
      refine ⟨_, rfl, ?_⟩
      try unfold tNil
      refine rq_of (repr_yd ht hP y1 y2 ?_)
      refine ⟨_, _, rfl, ?_⟩
      have em : (fun i j : Int => V.int (i / j)) ((refs as).length : Nat) 2 = V.int (m : Nat) := by
        rw [hlen]
        exact congrArg V.int (by omega)
      rw [em]
      have M3 := M3.lt (show _ ≤ 1000 * i + 700 by omega) (by omega)
      refine ⟨_, rfl, _, rfl, by omega, by omega, fun Dl hDl => ?_⟩
      rw [show ((m : Nat) : Int).toNat = m by omega]
      have sP := Same.new (o := .lst []) hDl
      obtain ⟨nDp, nDl⟩ := M3.apart hDl
      refine lc_it (walk_range (lo := 0) (n := m)) (fun q H6 => ∃ ws : List Nat, H6 Dl = some (.lst (nats ws)) ∧ ws.length = q ∧ (∀ x ∈ ws, x < 3) ∧ ML H6 p c l (1000 * i + 700 + q) ∧ ExtL p l H3 H6) ⟨[], upd_same, rfl, fun x h => absurd h (by simp), M3.keep sP, ExtL.same sP⟩ (fun _ _ _ _ => trivial) ?_ ?_
      · rintro q v H6 H7 hq ⟨ws, h6, lq, w3, M6, e6⟩ ⟨rfl, rfl⟩
        refine ⟨rfl, yes ⟨_, rfl, p, c, l, _, 3, rfl, M6, by omega, by decide, by decide, fun H8 r M8 e8 r0 r3 => ?_⟩⟩
        refine ⟨_, e8 _ _ nDp nDl h6, small1000 (by rw [show (nats ws).length = ws.length from List.length_map _]; omega), ws ++ [r.toNat], ?_, ?_, ?_, ?_, ?_⟩
        · rw [upd_same, show nats (ws ++ [r.toNat]) = nats ws ++ [V.int ((r.toNat : Nat) : Int)] from List.map_append, show ((r.toNat : Nat) : Int) = r by omega]
        · rw [List.length_append, lq]
          rfl
        · intro x hx
          rcases List.mem_append.mp hx with hx | hx
          · exact w3 x hx
          · rw [List.mem_singleton.mp hx]
            omega
        · exact ML.wrN M3 hDl M8
        · exact (e6.trans e8).wr hDl
      · rintro H5 ⟨ws, h5, lw, w3, M5, e5⟩
        refine .inl ⟨Dl, _, rfl, SqL.of h5, fun u hu => ?_⟩
        have su := Same.new (o := .tup (nats ws)) hu
        have gu := upd_same (H := H5) (a := u) (o := .tup (nats ws))
        generalize upd H5 u (.tup (nats ws)) = H6 at su gu
        have hSt : SetAt H6 u m ws := ⟨lw, w3, gu⟩
        have e6 := e5.trans (ExtL.same su)
        have M6 := M5.keep su
        have t6 := (((Since.refl M1 t1).extl M2 e2).extl M3 e3).extl M6 e6
        have hY6 : YAt H6 y m ps := hY.mono (tupL M3 e6)
        have ln : (nats ws).length = m := (List.length_map _).trans lw
        have M6 : ML H6 p c l (1000 * i + 800) := M6.lt (by omega) (by omega)
        refine ⟨_, rfl, _, rfl, p, c, l, y, u, _, m, ps, ws, rfl, M6, hY6, m40, hSt, t6.t, fun H7 M7 e7 t7 => ⟨_, rfl, iteF ?_⟩⟩
        have tu7 : ∀ b xs, H6 b = some (.tup xs) → H7 b = some (.tup xs) := fun b xs h => Since.tup M6 ⟨e7, M7, t7⟩ _ _ h
        refine ⟨_, rfl, _, rfl, _, rfl, p, c, l, y, u, _, m, ps, ws, rfl, M7, by omega, hY6.mono tu7, m40, hSt.mono tu7, t7, fun H8 M8 e8 t8 => ⟨_, rfl, iteF ?_⟩⟩
        have M8 : ML H8 p c l (1000 * i + 810) := M8.lt (by omega) (by omega)
        have E8 := e7.trans e8
        have lk : ∀ {H' : Hp}, Lk p l H' (nats ws) 40 := fun {H'} => ⟨ws.map fun x => PyData.int (x : Nat), da_nats ws, fun d hd => by
          obtain ⟨x, hx, rfl⟩ := List.mem_map.mp hd
          have := w3 x hx
          exact (fxI (by omega) (by omega)).up (by decide) (by decide), by rw [ln]; exact m40⟩
        refine ⟨5, rfl, by decide, by decide, ?_⟩
        refine for_range (lo := 0) (n := (5 : Int).toNat) (fun j σ H' => ∃ v7 v8 v9 va vb vc vd : Option V, σ = [some (.ref a), some (.ref p), some (.int (0 + ((i : Nat) : Int))), some (.ref y), some (.int (m : Nat)), some (.str (yd ps).shown), some (.ref u), v7, v8, v9, va, vb, vc, vd] ∧ ML H' p c l (1000 * i + 810 + 11 * j) ∧ ExtT p l H6 H' ∧ LamX.Tabs TT H')
          ⟨_, _, _, _, _, _, _, rfl, M8, E8, t8⟩ ?_ ?_
        · rintro j σ H9 hj ⟨v7', v8', v9', va', vb', vc', vd', rfl, M9, e9, t9⟩
          have hj : j < 5 := hj
          have tu9 : ∀ b xs, H6 b = some (.tup xs) → H9 b = some (.tup xs) := fun b xs h => by
            obtain ⟨q1, q2⟩ := tup_off M6 h
            exact e9 _ _ q1 q2 (by intro _ z; cases z) h
          refine ⟨_, rfl, _, rfl, p, c, l, u, _, nats ws, rfl, M9, by omega, by rw [ln]; exact m0, (hSt.mono tu9).here, lk, fun H10 v d M10 e10 hda hfx => ?_⟩
          have t10 := ((Since.refl M9 t9).extl M10 e10).t
          have e610 := e9.trans (ExtT.ofL e10)
          have S10 := Since.refl M10 t10
          have up : ∀ {Hx : Hp} {N : Nat}, Since TT p c l N H10 Hx → YAt Hx y m ps := fun {Hx N} S => (hY6.mono tu9).mono fun b xs h => by
            obtain ⟨q1, q2⟩ := tup_off M9 h
            exact ((ExtT.ofL e10).trans S.e) _ _ q1 q2 (by intro _ z; cases z) h
          refine ⟨fun σ H' => ∃ pv : V, σ = [some (.ref a), some (.ref p), some (.int (0 + ((i : Nat) : Int))), some (.ref y), some (.int (m : Nat)), some (.str (yd ps).shown), some (.ref u), some (.int (0 + ((j : Nat) : Int))), some v, some pv, some (.str d.shown), vb', vc', vd'] ∧ Since TT p c l (1000 * i + 810 + 11 * j + 10) H10 H' ∧
            ((placeD m d = none ∧ pv = .non) ∨ ∃ pl z, placeD m d = some pl ∧ pv = .ref z ∧ H' z = some (.tup (nats pl))), ?_, ?_⟩
          · refine ⟨_, rfl, _, rfl, v, m, p, l, d, rfl, hda, fun hn H' s' => ?_, fun pl hp H' z s' hz => ?_⟩
            · refine ⟨_, rfl, ?_⟩
              try unfold tNil
              refine rq_da (Da.extT (ExtT.ofS s') d v hda) hfx (by decide) (by decide) ?_
              exact ⟨_, _, rfl, _, rfl, S10.same s', .inl ⟨hn, rfl⟩⟩
            · refine ⟨_, rfl, ?_⟩
              try unfold tNil
              refine rq_da (Da.extT (ExtT.ofS s') d v hda) hfx (by decide) (by decide) ?_
              exact ⟨_, _, rfl, _, rfl, S10.same s', .inr ⟨pl, z, hp, rfl, hz⟩⟩
          · rintro σ H11 ⟨pv, rfl, S11, hk⟩
            refine ⟨fun σ H' => σ = [some (.ref a), some (.ref p), some (.int (0 + ((i : Nat) : Int))), some (.ref y), some (.int (m : Nat)), some (.str (yd ps).shown), some (.ref u), some (.int (0 + ((j : Nat) : Int))), some v, some pv, some (.str d.shown), vb', vc', vd'] ∧ Since TT p c l (1000 * i + 810 + 11 * j + 10) H10 H' ∧
              ((placeD m d = none ∧ pv = .non) ∨ ∃ pl z, placeD m d = some pl ∧ pv = .ref z ∧ H' z = some (.tup (nats pl))), ?_, ?_⟩
            · rcases hk with ⟨hn, rfl⟩ | ⟨pl, z, hp, rfl, hz⟩
              · refine ⟨_, rfl, rfl, _, rfl, ?_⟩
                refine ite2 (fun _ => ?_) (fun h => absurd (decide_eq_true rfl) h)
                obtain ⟨t', ws', rfl, hS'⟩ := place_none (Da.extT S11.e d v hda) hn
                refine ⟨_, rfl, _, rfl, p, c, l, y, t', _, m, ps, ws', rfl, S11.M, up S11, m40, hS', S11.t, fun H' M' e' t' => ⟨_, rfl, ?_⟩⟩
                exact iteF ⟨rfl, ⟨S11.e.trans e', M', t'⟩, .inl ⟨hn, rfl⟩⟩
              · refine ⟨_, rfl, rfl, _, rfl, ?_⟩
                refine ite2 (fun h => ?_) (fun _ => ?_)
                · cases of_decide_eq_true h
                · exact iteF ⟨rfl, S11, .inr ⟨pl, z, hp, rfl, hz⟩⟩
            · rintro σ H12 ⟨rfl, S12, hk⟩
              refine ⟨fun σ H' => σ = [some (.ref a), some (.ref p), some (.int (0 + ((i : Nat) : Int))), some (.ref y), some (.int (m : Nat)), some (.str (yd ps).shown), some (.ref u), some (.int (0 + ((j : Nat) : Int))), some v, some pv, some (.str d.shown), vb', vc', vd'] ∧ Since TT p c l (1000 * i + 810 + 11 * j + 10) H10 H', ?_, ?_⟩
              · rcases hk with ⟨hn, rfl⟩ | ⟨pl, z, hp, rfl, hz⟩
                · refine ⟨_, rfl, rfl, _, rfl, ?_⟩
                  have e0 : (!decide (V.non = V.non)) = false := by rw [decide_eq_true rfl]; rfl
                  rw [e0]
                  exact iteF (iteF ⟨rfl, S12⟩)
                · refine ⟨_, rfl, rfl, _, rfl, ?_⟩
                  have e0 : (!decide (V.ref z = V.non)) = true := by rw [decide_eq_false (by intro h; cases h)]; rfl
                  rw [e0]
                  refine iteT ⟨_, rfl, _, rfl, _, rfl, two_le, fun due hdue => ?_⟩
                  have sd := Same.new (o := .tup [V.str "setting", V.ref z]) hdue
                  have gd := upd_same (H := H12) (a := due) (o := .tup [V.str "setting", V.ref z])
                  generalize upd H12 due (.tup [V.str "setting", V.ref z]) = H13 at sd gd
                  have S13 := S12.same sd
                  refine ⟨_, rfl, p, c, l, due, _, 1, .ref y, v, .non, .int (-1), pl, rfl, by decide, S13.M, S13.t, ⟨due, z, rfl, gd, sd _ _ hz⟩, (place_small hp m40).1, fun Hx E ex hx => .inr ⟨y, m, ps, rfl, ?_, m40, ?_⟩, fun H' M' e' t' => ⟨_, rfl, ?_⟩⟩
                  · exact (up S13).mono fun b xs h => by
                      obtain ⟨q1, q2⟩ := tup_off S13.M h
                      exact ex _ _ q1 q2 (by intro _ z; cases z) h
                  · have hdx := Da.extT (S13.e.trans ex) d v hda
                    exact ⟨hdx.tv, look_da (n := m) hdx (fun hn => by rw [hp] at hn; cases hn) (fun pl' e' => by rw [hp] at e'; cases e'; exact hx)⟩
                  · exact iteF ⟨rfl, ⟨S13.e.trans e', M', t'⟩⟩
              · rintro σ H13 ⟨rfl, S13⟩
                refine ⟨_, rfl, _, rfl, p, c, l, y, _, m, ps, rfl, S13.M, by omega, up S13, m40, fun H14 x M14 e14 hny => ?_⟩
                have S14 := S13.extl M14 e14
                obtain ⟨w', z', tv, pl, rfl, hw, hz, l1, sm, _⟩ := hny H14 (ExtT.refl p l H14)
                refine ⟨w', _, rfl, SqT.of hw, rfl, _, _, rfl, _, _, rfl, rfl, ?_⟩
                refine ⟨_, rfl, _, rfl, _, rfl, two_le, fun due hdue => ?_⟩
                have sd := Same.new (o := .tup [V.str "yard", V.ref z']) hdue
                have gd := upd_same (H := H14) (a := due) (o := .tup [V.str "yard", V.ref z'])
                generalize upd H14 due (.tup [V.str "yard", V.ref z']) = H15 at sd gd
                have S15 := S14.same sd
                refine ⟨_, rfl, p, c, l, due, _, 0, tv, v, .int (-1), .non, pl, rfl, by decide, S15.M, S15.t, ⟨due, z', rfl, gd, sd _ _ hz⟩, l1, fun Hx E ex hx => .inl ?_, fun H' M' e' t' => ⟨_, rfl, iteF ?_⟩⟩
                · have ex' := (ExtT.ofS sd).trans ex
                  obtain ⟨o1, o2⟩ := tup_off M14 hw
                  obtain ⟨o3, o4⟩ := tup_off M14 hz
                  exact ny_same (hny Hx ex') (ex' _ _ o1 o2 (by intro _ z; cases z) hw) (ex' _ _ o3 o4 (by intro _ z; cases z) hz) hx
                have S16 : Since TT p c l (1000 * i + 810 + 11 * j + 10 + 1) H10 H' := ⟨S15.e.trans e', M', t'⟩
                refine ⟨_, rfl, ?_⟩
                try unfold tNil
                refine rq_da (Da.extT S16.e d v hda) hfx (by decide) (by decide) ?_
                refine ⟨_, rfl, rfl, _, rfl, ?_⟩
                rw [same_ne]
                exact iteF ⟨_, _, _, _, _, _, _, rfl, M'.lt (by omega) (by omega), e610.trans S16.e, t'⟩
        · rintro σ H9 ⟨v7', v8', v9', va', vb', vc', vd', rfl, M9, e9, t9⟩
          have tu9 : ∀ b xs, H6 b = some (.tup xs) → H9 b = some (.tup xs) := fun b xs h => by
            obtain ⟨q1, q2⟩ := tup_off M6 h
            exact e9 _ _ q1 q2 (by intro _ z; cases z) h
          refine ⟨_, rfl, _, rfl, p, c, l, y, u, _, m, ps, ws, rfl, M9, hY6.mono tu9, m40, hSt.mono tu9, t9, fun Ha Ma ea ta => ⟨_, rfl, iteF ?_⟩⟩
          obtain ⟨_, as9, ht9, hP9⟩ := id ((hY6.mono tu9).mono fun b xs h => Since.tup M9 ⟨ea, Ma, ta⟩ _ _ h)
          refine ⟨_, rfl, ?_⟩
          try unfold tNil
          refine rq_of (repr_yd ht9 hP9 y1 y2 ?_)
          refine ⟨_, rfl, rfl, _, rfl, ?_⟩
          rw [same_ne]
          have hz : 1000 * i + 810 + 11 * (5 : Int).toNat ≤ 1000 * (i + 1) := by show 1000 * i + 810 + 11 * 5 ≤ _; omega
          refine iteF ?_
          exact ⟨_, _, _, _, _, _, _, _, _, _, _, _, rfl, Ma.lt hz (by omega), ta⟩
    · rintro σ H1 ⟨v2, v3, v4, v5, v6, v7, v8, v9, va, vb, vc, vd, rfl, M1, t1⟩
      exact k _
end
end One
end P_KL

section P_H10
set_option linter.all false
set_option maxRecDepth 100000
set_option maxHeartbeats 8000000
namespace One
open PySem PySem.W PySem.Calls PyProof.Rows PySem.HandSPX L2
/-- a class's __init__, its first statement -/
def initOf : Stmt → Stmt
  | .ClassDef (body := b) .. => b.getD 0 (.Pass ⟨0, 0, 0, 0⟩)
  | s => s
theorem shape0 : Shape (initOf (top 2)) "place" := ⟨_, _, _, _, _, _, _, _, _, _, _, _, _, _, _, _, rfl, rfl, rfl, by decide +kernel, fun _ => rfl⟩
theorem shape1 : Shape (initOf (top 5)) "place" := ⟨_, _, _, _, _, _, _, _, _, _, _, _, _, _, _, _, rfl, rfl, rfl, by decide +kernel, fun _ => rfl⟩
theorem shape2 : Shape (initOf (top 4)) "place" := ⟨_, _, _, _, _, _, _, _, _, _, _, _, _, _, _, _, rfl, rfl, rfl, by decide +kernel, fun _ => rfl⟩
theorem shape3 : Shape (initOf (top 16)) "place" := ⟨_, _, _, _, _, _, _, _, _, _, _, _, _, _, _, _, rfl, rfl, rfl, by decide +kernel, fun _ => rfl⟩
/-- a def of the top -/
structure DefAt (K : Frag) (x : Str) (st : Stmt) (f : Addr) (fd : FuncData) : Prop where
  ns : nsIn K mainGlobals x = some (some (.ref f))
  fn : L2.Fun K x x st f fd
theorem def_at {K : Frag} {x : Str} {st : Stmt} {f : Addr} {oc kV dc pm cd ct : Value} {od an : Option Addr} {sl : Array (Option Value)} (a : nsIn K mainGlobals x = some (some (.ref f))) (l : K.lookup f = some ⟨oc, od, .func (fnOf x x (defArgs st) (defBody st) (defScope st) .none kV dc pm an cd ct), sl⟩)
    (c : codeIn K cd x = true) (k : keepIn K (.ref f) = true) : DefAt K x st f (fnOf x x (defArgs st) (defBody st) (defScope st) .none kV dc pm an cd ct) := ⟨a, fun_mk l c k⟩
theorem DefAt.cal {K : Frag} {x : Str} {st : Stmt} {f : Addr} {fd : FuncData} {h : Heap} {mg : Str → Option Value} {ps : List Str} (D : DefAt K x st f fd) (X : K.In h) (G : h.Ns mainGlobals mg)
    (hb : ∀ (kV doc pm : Value) (an : Option Addr) (cdv ct : Value) (us : List Value), us.length = ps.length → bindArgs (fnOf x x (defArgs st) (defBody st) (defScope st) .none kV doc pm an cdv ct) ⟨us, []⟩ = pure (ps.zip us)) : Cal K mg x f fd ps := ⟨mg_of X G D.ns, D.fn.kp, D.fn.binds hb⟩
/-- an own exception class: what the top has written of it -/
structure ClsAt (P : Program) (K : Frag) (x : Str) (st : Stmt) (fld : Str) (C fI : Addr) : Prop where
  ns : nsIn K mainGlobals x = some (some (.ref C))
  own : OwnTxt P K st fld C fI
  iC : findIn K (.ref C) "__init__" = some (some (.ref fI))
  tC : typeIn K (.ref fI) = some (.type "function")
  kC : keepIn K (.ref C) = true
  exC : subIn K (.ref C) (.type "BaseException") = some true
  tyC : typeIn K (.ref C) = some (.type "type")
theorem al_of {K : Frag} {nm q : Str} {RE N : Addr} {bs : List Value} {sn : List Str} {sub : List Value} {ab : Bool} {col : Option Bool} {dd : Option Addr} {m0 m1 m2 m3 m5 : Option Value} {r : Option (Option Value)} {hdct : Bool}
    (xR : K.lookup RE = some (excClassObj nm q RE N bs [.type "ValueError", .type "Exception", .type "BaseException", .type "object"] hdct sn sub ab col dd m0 m1 m2 m3 m5 "ValueError.__new__")) (fR : findIn K (.ref RE) "__init__" = r) : alongIn K "__init__" [.ref RE, .type "ValueError", .type "Exception", .type "BaseException", .type "object"] = r := by
  unfold findIn at fR
  dsimp only at fR
  rw [xR] at fR
  exact fR
theorem cls_at {P : Program} {K : Frag} {x : Str} {st : Stmt} {fld nm q : Str} {C fI N RE cda cc : Addr} {bs : List Value} {sn : List Str} {sub : List Value} {ab : Bool} {col : Option Bool} {dd od an cdd cld : Option Addr} {m0 m1 m2 m3 m5 : Option Value} {oc doc pm ct ccl cl : Value} {osl ccs csl : Array (Option Value)} {vs : Array Value} {file qual : Str} {tf : Tok}
    (ns : nsIn K mainGlobals x = some (some (.ref C))) (xL : K.lookup C = some (excClassObj nm q C N bs [.ref RE, .type "ValueError", .type "Exception", .type "BaseException", .type "object"] true sn sub ab col dd m0 m1 m2 m3 m5 "ValueError.__new__"))
    (al : alongIn K "__init__" [.ref RE, .type "ValueError", .type "Exception", .type "BaseException", .type "object"] = some (some (.builtin "ValueError.__init__"))) (sa : findIn K (.ref C) "__setattr__" = some (some (.builtin "object.__setattr__"))) (noF : findIn K (.ref C) fld = some none)
    (veB : subIn K (.ref C) (.type "ValueError") = some true) (slf : mroIn K C (.ref C) = some true) (op : nsIn K cStatics "thirdparty.any" = some none) (tp : (P.main.scope.names.lookup ("super" : Str)).isSome = false) (sh : Shape st fld)
    (iC : findIn K (.ref C) "__init__" = some (some (.ref fI))) (l1 : K.lookup fI = some ⟨oc, od, .func (ksFn "__init__" qual (defArgs st) (defBody st) (defScope st) .none .none doc pm an (.ref cda) ct cc), osl⟩) (c1 : codeIn K (.ref cda) qual = true)
    (lc : K.lookup cda = some ⟨ccl, cdd, .fields vs, ccs⟩) (hvs : vs[2]? = some (.str file tf)) (hfile : ((P.main.file : Str) == file) = true) (lcc : K.lookup cc = some ⟨cl, cld, .cell (some (.ref C)), csl⟩)
    (tC : typeIn K (.ref fI) = some (.type "function")) (kC : keepIn K (.ref C) = true) (exC : subIn K (.ref C) (.type "BaseException") = some true) (tyC : typeIn K (.ref C) = some (.type "type")) : ClsAt P K x st fld C fI :=
  ⟨ns, ⟨⟨_, _, _, _, _, _, _, _, _, _, _, _, _, _, _, xL, rfl, by rw [PySem.ESX.drop_own]; exact al⟩, sa, noF, veB, slf, op, tp, sh, ⟨_, _, _, _, _, _, _, _, _, _, _, _, _, _, _, _, _, _, _, l1, c1, lc, hvs, hfile, lcc⟩⟩, iC, tC, kC, exC, tyC⟩
theorem ClsAt.cls {P : Program} {K : Frag} {x : Str} {st : Stmt} {fld : Str} {C fI : Addr} {h : Heap} {mg : Str → Option Value} (D : ClsAt P K x st fld C fI) (X : K.In h) (G : h.Ns mainGlobals mg) : OwnCls K mg x C fI := ⟨mg_of X G D.ns, D.iC, D.tC, D.kC, D.exC, D.tyC⟩
end One
end P_H10

section P_H12
set_option linter.all false
set_option maxRecDepth 100000
set_option maxHeartbeats 8000000
namespace One
open PySem PySem.W PySem.Calls PyProof.Rows PySem.HandSPX L2
def clsS (C0 C1 C2 C3 C4 C5 C6 C7 C8 C9 C10 C11 C12 C13 C14 C15 C16 C17 C18 : Addr) : Nat → Addr := fun i => [C0, C1, C2, C3, C4, C5, C6, C7, C8, C9, C10, C11, C12, C13, C14, C15, C16, C17, C18].getD i C0
theorem said0 {K : Frag} {RE C0 C1 C2 C3 C4 C5 C6 C7 C8 C9 C10 C11 C12 C13 C14 C15 C16 C17 C18 : Addr} (hg : findIn K (.ref C0) "__getattribute__" = some (some (.builtin "BaseException.__getattribute__"))) (hk : findIn K (.ref C0) "__getattr__" = some none) (hs : subIn K (.ref C0) (.type "BaseException") = some true)
    (hd : hasDictIn K C0 = true) (ha : findIn K (.ref C0) "__class__" = some (some (.builtin "object.__class__"))) (hn : specialIn K (.builtin "object.__class__") "__get__" = some (some (.builtin "getset_descriptor.__get__"))) (ht : takesIn K (.builtin "object.__class__") = some true)
    (hm : mroIn K C0 (.type "object") = some true) (no : findIn K (.ref C0) "place" = some none)
    (q0 : kitOne K (.ref C0) (.ref C0) = some true) (q1 : kitOne K (.ref C0) (.ref C1) = some false) (q2 : kitOne K (.ref C0) (.ref C2) = some false) (q3 : kitOne K (.ref C0) (.ref C3) = some false) (q4 : kitOne K (.ref C0) (.ref C4) = some false) (q5 : kitOne K (.ref C0) (.ref C5) = some false) (q6 : kitOne K (.ref C0) (.ref C6) = some false) (q7 : kitOne K (.ref C0) (.ref C7) = some false) (q8 : kitOne K (.ref C0) (.ref C8) = some false) (q9 : kitOne K (.ref C0) (.ref C9) = some false) (q10 : kitOne K (.ref C0) (.ref C10) = some false) (q11 : kitOne K (.ref C0) (.ref C11) = some false) (q12 : kitOne K (.ref C0) (.ref C12) = some false) (q13 : kitOne K (.ref C0) (.ref C13) = some false) (q14 : kitOne K (.ref C0) (.ref C14) = some false) (q15 : kitOne K (.ref C0) (.ref C15) = some false) (q16 : kitOne K (.ref C0) (.ref C16) = some false) (q17 : kitOne K (.ref C0) (.ref C17) = some false) (q18 : kitOne K (.ref C0) (.ref C18) = some false)
    (ve : kitOne K (.ref C0) (.type "ValueError") = some true) (u1 : subIn K (.ref RE) (.type "BaseException") = some true) (u2 : hasDictIn K RE = true) (u3 : typeIn K (.ref RE) = some (.type "type")) (u4 : subIn K (.ref C0) (.ref RE) = some true) : SaidC K (clsS C0 C1 C2 C3 C4 C5 C6 C7 C8 C9 C10 C11 C12 C13 C14 C15 C16 C17 C18) RE 0 :=
  ⟨by decide, ⟨hg, hk, hs, hd, ha, hn, ht, hm⟩, ⟨hg, hk, hs, hd⟩, no, fun j hj => match j, hj with
    | 0, _ => q0
    | 1, _ => q1
    | 2, _ => q2
    | 3, _ => q3
    | 4, _ => q4
    | 5, _ => q5
    | 6, _ => q6
    | 7, _ => q7
    | 8, _ => q8
    | 9, _ => q9
    | 10, _ => q10
    | 11, _ => q11
    | 12, _ => q12
    | 13, _ => q13
    | 14, _ => q14
    | 15, _ => q15
    | 16, _ => q16
    | 17, _ => q17
    | 18, _ => q18
    | n + 19, h => absurd h (by omega), ve, exm_ref u1 u2 u3 u4⟩
theorem said1 {K : Frag} {RE C0 C1 C2 C3 C4 C5 C6 C7 C8 C9 C10 C11 C12 C13 C14 C15 C16 C17 C18 : Addr} (hg : findIn K (.ref C1) "__getattribute__" = some (some (.builtin "BaseException.__getattribute__"))) (hk : findIn K (.ref C1) "__getattr__" = some none) (hs : subIn K (.ref C1) (.type "BaseException") = some true)
    (hd : hasDictIn K C1 = true) (ha : findIn K (.ref C1) "__class__" = some (some (.builtin "object.__class__"))) (hn : specialIn K (.builtin "object.__class__") "__get__" = some (some (.builtin "getset_descriptor.__get__"))) (ht : takesIn K (.builtin "object.__class__") = some true)
    (hm : mroIn K C1 (.type "object") = some true) (no : findIn K (.ref C1) "place" = some none)
    (q0 : kitOne K (.ref C1) (.ref C0) = some false) (q1 : kitOne K (.ref C1) (.ref C1) = some true) (q2 : kitOne K (.ref C1) (.ref C2) = some false) (q3 : kitOne K (.ref C1) (.ref C3) = some false) (q4 : kitOne K (.ref C1) (.ref C4) = some false) (q5 : kitOne K (.ref C1) (.ref C5) = some false) (q6 : kitOne K (.ref C1) (.ref C6) = some false) (q7 : kitOne K (.ref C1) (.ref C7) = some false) (q8 : kitOne K (.ref C1) (.ref C8) = some false) (q9 : kitOne K (.ref C1) (.ref C9) = some false) (q10 : kitOne K (.ref C1) (.ref C10) = some false) (q11 : kitOne K (.ref C1) (.ref C11) = some false) (q12 : kitOne K (.ref C1) (.ref C12) = some false) (q13 : kitOne K (.ref C1) (.ref C13) = some false) (q14 : kitOne K (.ref C1) (.ref C14) = some false) (q15 : kitOne K (.ref C1) (.ref C15) = some false) (q16 : kitOne K (.ref C1) (.ref C16) = some false) (q17 : kitOne K (.ref C1) (.ref C17) = some false) (q18 : kitOne K (.ref C1) (.ref C18) = some false)
    (ve : kitOne K (.ref C1) (.type "ValueError") = some true) (u1 : subIn K (.ref RE) (.type "BaseException") = some true) (u2 : hasDictIn K RE = true) (u3 : typeIn K (.ref RE) = some (.type "type")) (u4 : subIn K (.ref C1) (.ref RE) = some true) : SaidC K (clsS C0 C1 C2 C3 C4 C5 C6 C7 C8 C9 C10 C11 C12 C13 C14 C15 C16 C17 C18) RE 1 :=
  ⟨by decide, ⟨hg, hk, hs, hd, ha, hn, ht, hm⟩, ⟨hg, hk, hs, hd⟩, no, fun j hj => match j, hj with
    | 0, _ => q0
    | 1, _ => q1
    | 2, _ => q2
    | 3, _ => q3
    | 4, _ => q4
    | 5, _ => q5
    | 6, _ => q6
    | 7, _ => q7
    | 8, _ => q8
    | 9, _ => q9
    | 10, _ => q10
    | 11, _ => q11
    | 12, _ => q12
    | 13, _ => q13
    | 14, _ => q14
    | 15, _ => q15
    | 16, _ => q16
    | 17, _ => q17
    | 18, _ => q18
    | n + 19, h => absurd h (by omega), ve, exm_ref u1 u2 u3 u4⟩
theorem said2 {K : Frag} {RE C0 C1 C2 C3 C4 C5 C6 C7 C8 C9 C10 C11 C12 C13 C14 C15 C16 C17 C18 : Addr} (hg : findIn K (.ref C2) "__getattribute__" = some (some (.builtin "BaseException.__getattribute__"))) (hk : findIn K (.ref C2) "__getattr__" = some none) (hs : subIn K (.ref C2) (.type "BaseException") = some true)
    (hd : hasDictIn K C2 = true) (ha : findIn K (.ref C2) "__class__" = some (some (.builtin "object.__class__"))) (hn : specialIn K (.builtin "object.__class__") "__get__" = some (some (.builtin "getset_descriptor.__get__"))) (ht : takesIn K (.builtin "object.__class__") = some true)
    (hm : mroIn K C2 (.type "object") = some true) (no : findIn K (.ref C2) "place" = some none)
    (q0 : kitOne K (.ref C2) (.ref C0) = some false) (q1 : kitOne K (.ref C2) (.ref C1) = some false) (q2 : kitOne K (.ref C2) (.ref C2) = some true) (q3 : kitOne K (.ref C2) (.ref C3) = some false) (q4 : kitOne K (.ref C2) (.ref C4) = some false) (q5 : kitOne K (.ref C2) (.ref C5) = some false) (q6 : kitOne K (.ref C2) (.ref C6) = some false) (q7 : kitOne K (.ref C2) (.ref C7) = some false) (q8 : kitOne K (.ref C2) (.ref C8) = some false) (q9 : kitOne K (.ref C2) (.ref C9) = some false) (q10 : kitOne K (.ref C2) (.ref C10) = some false) (q11 : kitOne K (.ref C2) (.ref C11) = some false) (q12 : kitOne K (.ref C2) (.ref C12) = some false) (q13 : kitOne K (.ref C2) (.ref C13) = some false) (q14 : kitOne K (.ref C2) (.ref C14) = some false) (q15 : kitOne K (.ref C2) (.ref C15) = some false) (q16 : kitOne K (.ref C2) (.ref C16) = some false) (q17 : kitOne K (.ref C2) (.ref C17) = some false) (q18 : kitOne K (.ref C2) (.ref C18) = some false)
    (ve : kitOne K (.ref C2) (.type "ValueError") = some true) (u1 : subIn K (.ref RE) (.type "BaseException") = some true) (u2 : hasDictIn K RE = true) (u3 : typeIn K (.ref RE) = some (.type "type")) (u4 : subIn K (.ref C2) (.ref RE) = some true) : SaidC K (clsS C0 C1 C2 C3 C4 C5 C6 C7 C8 C9 C10 C11 C12 C13 C14 C15 C16 C17 C18) RE 2 :=
  ⟨by decide, ⟨hg, hk, hs, hd, ha, hn, ht, hm⟩, ⟨hg, hk, hs, hd⟩, no, fun j hj => match j, hj with
    | 0, _ => q0
    | 1, _ => q1
    | 2, _ => q2
    | 3, _ => q3
    | 4, _ => q4
    | 5, _ => q5
    | 6, _ => q6
    | 7, _ => q7
    | 8, _ => q8
    | 9, _ => q9
    | 10, _ => q10
    | 11, _ => q11
    | 12, _ => q12
    | 13, _ => q13
    | 14, _ => q14
    | 15, _ => q15
    | 16, _ => q16
    | 17, _ => q17
    | 18, _ => q18
    | n + 19, h => absurd h (by omega), ve, exm_ref u1 u2 u3 u4⟩
theorem said3 {K : Frag} {RE C0 C1 C2 C3 C4 C5 C6 C7 C8 C9 C10 C11 C12 C13 C14 C15 C16 C17 C18 : Addr} (hg : findIn K (.ref C3) "__getattribute__" = some (some (.builtin "BaseException.__getattribute__"))) (hk : findIn K (.ref C3) "__getattr__" = some none) (hs : subIn K (.ref C3) (.type "BaseException") = some true)
    (hd : hasDictIn K C3 = true) (ha : findIn K (.ref C3) "__class__" = some (some (.builtin "object.__class__"))) (hn : specialIn K (.builtin "object.__class__") "__get__" = some (some (.builtin "getset_descriptor.__get__"))) (ht : takesIn K (.builtin "object.__class__") = some true)
    (hm : mroIn K C3 (.type "object") = some true) (no : findIn K (.ref C3) "place" = some none)
    (q0 : kitOne K (.ref C3) (.ref C0) = some false) (q1 : kitOne K (.ref C3) (.ref C1) = some false) (q2 : kitOne K (.ref C3) (.ref C2) = some false) (q3 : kitOne K (.ref C3) (.ref C3) = some true) (q4 : kitOne K (.ref C3) (.ref C4) = some false) (q5 : kitOne K (.ref C3) (.ref C5) = some false) (q6 : kitOne K (.ref C3) (.ref C6) = some false) (q7 : kitOne K (.ref C3) (.ref C7) = some false) (q8 : kitOne K (.ref C3) (.ref C8) = some false) (q9 : kitOne K (.ref C3) (.ref C9) = some false) (q10 : kitOne K (.ref C3) (.ref C10) = some false) (q11 : kitOne K (.ref C3) (.ref C11) = some false) (q12 : kitOne K (.ref C3) (.ref C12) = some false) (q13 : kitOne K (.ref C3) (.ref C13) = some false) (q14 : kitOne K (.ref C3) (.ref C14) = some false) (q15 : kitOne K (.ref C3) (.ref C15) = some false) (q16 : kitOne K (.ref C3) (.ref C16) = some false) (q17 : kitOne K (.ref C3) (.ref C17) = some false) (q18 : kitOne K (.ref C3) (.ref C18) = some false)
    (ve : kitOne K (.ref C3) (.type "ValueError") = some true) (u1 : subIn K (.ref RE) (.type "BaseException") = some true) (u2 : hasDictIn K RE = true) (u3 : typeIn K (.ref RE) = some (.type "type")) (u4 : subIn K (.ref C3) (.ref RE) = some true) : SaidC K (clsS C0 C1 C2 C3 C4 C5 C6 C7 C8 C9 C10 C11 C12 C13 C14 C15 C16 C17 C18) RE 3 :=
  ⟨by decide, ⟨hg, hk, hs, hd, ha, hn, ht, hm⟩, ⟨hg, hk, hs, hd⟩, no, fun j hj => match j, hj with
    | 0, _ => q0
    | 1, _ => q1
    | 2, _ => q2
    | 3, _ => q3
    | 4, _ => q4
    | 5, _ => q5
    | 6, _ => q6
    | 7, _ => q7
    | 8, _ => q8
    | 9, _ => q9
    | 10, _ => q10
    | 11, _ => q11
    | 12, _ => q12
    | 13, _ => q13
    | 14, _ => q14
    | 15, _ => q15
    | 16, _ => q16
    | 17, _ => q17
    | 18, _ => q18
    | n + 19, h => absurd h (by omega), ve, exm_ref u1 u2 u3 u4⟩
end One
end P_H12

section P_G3
set_option linter.all false
set_option maxRecDepth 100000
set_option maxHeartbeats 4000000
namespace One
open PySem PySem.Spec PyProof.Rows L2
/-- the one call of a law that has lambdas: cs, its code objects with their tables -/
theorem law_goesT {P : Program} {w : World} {K : PySem.W.Frag} {mg mb : Str → Option Value} {CX : CXT} {k : Nat} {fa a : Addr} {cs : List (Addr × Addr)} {fd : FuncData} {x : Str} {sp : Sp} {s : Shared} {vs : List Value} {ns : List Int} (inK : K.In s.heap) (nsm : s.heap.Ns mainGlobals mg)
    (nsb : s.heap.Ns builtinsNs mb) (boot : ∀ y : Str, y ≠ "__name__" → mb y = bootBuiltins y) (nolim : s.heap.NoLimit) (nogen : s.gens = #[]) (tab : ∀ p ∈ cs, s.heap.get? p.2 = some { cls := .none, data := .fields #[] }) (ntab : ∀ p ∈ cs, K.lookup p.2 = none) (heads : ∀ p ∈ cs, PySem.W.CodeHd s.heap p.1 p.2)
    (blt : ∃ (bm : Addr) (ob : Obj), mg "__builtins__" = some (.ref bm) ∧ bm ≠ builtinsNs ∧ s.heap.get? bm = some ob ∧ ob.cls = .type "module" ∧ ob.dict = some builtinsNs ∧ ob.data = .plain) (ha : s.heap.get? a = some { cls := .type "list", data := .seq vs.toArray }) (hi : IntsAre vs ns) (hl : ns.length ≤ sizeLine)
    (hr : Room k callerA) (F : ∀ base : Heap, K.In base → base.Ns mainGlobals mg → (∀ p ∈ cs, LamX.TabB base mg p.1 p.2) → FnG P w K mg base CX k fa fd [x] sp) (bind : ∀ (s : Shared) (u : Value), BindsTo s fd ⟨[u], []⟩ [(x, u)])
    (hsp : ∀ H : Hp, (∀ p ∈ cs, H p.2 = some (.tbl #[])) → SqL K H a (ns.map V.int) → sp [.ref a] H (fun v _ => v = .bl true) fun _ _ _ => False) (none_out : ∀ H e s', CX [] H s (fun _ _ _ => False) e s' → False) :
    codeAny (model P w) callerA (.call (.ref fa) ⟨[.ref a], []⟩) (fun r s' => r = .ok (.ret (.bool true)) ∧ OldK s.heap s'.heap ∧ s'.os = s.os ∧ AllBare s'.gens) s := by
  have rv := vals_ints hi
  have hlen := hi.length
  have isT : ∀ {b : Addr}, b ∈ cs.map (·.2) → s.heap.get? b = some { cls := .none, data := .fields #[] } := fun {b} hb => by
    obtain ⟨p, hp, e⟩ := List.mem_map.mp hb
    exact e ▸ tab p hp
  have toT : ∀ {p}, p ∈ cs → p.2 ∈ cs.map (·.2) := fun {p} hp => List.mem_map.mpr ⟨p, hp, rfl⟩
  have aT : a ∉ cs.map (·.2) := fun z => Data.noConfusion (show Data.seq vs.toArray _ = Data.fields #[] from congrArg Obj.data (Option.some.inj (ha.symm.trans (isT z))))
  have main : ∀ H : Hp, (∀ b ∈ cs.map (·.2), H b = some (.tbl #[])) → (∀ b u, H b = some u → (b ∈ cs.map (·.2) ∧ u = .tbl #[]) ∨ (b = a ∧ K.lookup a = none ∧ u = .frz { cls := .type "list", data := .seq vs.toArray } (.lst (ns.map V.int)))) → SqL K H a (ns.map V.int) →
      codeAny (model P w) callerA (.call (.ref fa) ⟨[.ref a], []⟩) (fun r s' => r = .ok (.ret (.bool true)) ∧ OldK s.heap s'.heap ∧ s'.os = s.os ∧ AllBare s'.gens) s := by
    intro H hT inv hS
    have ok : HOk P w H s.heap := fun b u e => by
      rcases inv b u e with ⟨hb, rfl⟩ | ⟨rfl, _, rfl⟩
      · exact isT hb
      · exact ⟨ha, by rw [List.length_map]; exact hl, vs, _, rv, ha⟩
    have put : ∀ {b : Addr} {o : Obj}, s.heap.get? b = some o → H b = none → (hidT s.heap H).get? b = some o := fun e n => hidT_get e n
    have free : ∀ {b : Addr} {o : Obj}, s.heap.get? b = some o → (∀ us n, o.data ≠ .seq us n) → o.data ≠ .fields #[] → H b = none := fun {b o} e h1 h2 => by
      match q : H b with
      | none => rfl
      | some u =>
        rcases inv b u q with ⟨hb, _⟩ | ⟨rfl, _, _⟩
        · cases (isT hb).symm.trans e
          exact (h2 rfl).elim
        · cases ha.symm.trans e
          exact (h1 _ _ rfl).elim
    have nsH : ∀ {b : Addr} {m : Str → Option Value}, s.heap.Ns b m → (hidT s.heap H).Ns b m := fun ⟨o, es, ep, e, d, r⟩ => ⟨o, es, ep, put e (free e (fun us n z => by cases d.symm.trans z) (fun z => by cases d.symm.trans z)), d, r⟩
    have inH : K.In (hidT s.heap H) := fun b o e => put (inK b o e) (by
      match q : H b with
      | none => rfl
      | some u =>
        rcases inv b u q with ⟨hb, _⟩ | ⟨rfl, z, _⟩
        · obtain ⟨p, hp, rfl⟩ := List.mem_map.mp hb
          cases (ntab p hp).symm.trans e
        · cases z.symm.trans e)
    obtain ⟨mc, n1, n2⟩ := nolim
    have tabB : ∀ p ∈ cs, LamX.TabB (hidT s.heap H) mg p.1 p.2 := fun p hp => by
      have hTp := tab p hp
      obtain ⟨og, es, ep, eg, dg, _⟩ := nsm
      refine ⟨?_, ?_, fun z => ?_⟩
      · obtain ⟨o, us, file, tf, flags, tg, inF, text, tt, e1, r1, r2, r3, rest⟩ := heads p hp
        refine ⟨o, us, file, tf, flags, tg, inF, text, tt, put e1 (free e1 (fun vs n z => by cases r2.symm.trans z) (fun z => ?_)), r1, r2, r3, rest⟩
        have z' : us = #[] := Data.fields.inj (r2.symm.trans z)
        rw [z'] at r3
        simp at r3
      · obtain ⟨bm, ob, b1, b2, b3, b4, b5, b6⟩ := blt
        refine ⟨bm, ob, b1, b2, fun q => ?_, fun q => ?_, put b3 (free b3 (fun vs n z => by cases b6.symm.trans z) (fun z => by cases b6.symm.trans z)), b4, b5, b6⟩
        · cases (q ▸ b3 : s.heap.get? mainGlobals = some ob).symm.trans eg
          cases b6.symm.trans dg
        · cases (q ▸ b3 : s.heap.get? p.2 = some ob).symm.trans hTp
          cases b6
      · cases (z ▸ hTp : s.heap.get? mainGlobals = _).symm.trans eg
        cases dg
    have env : Env0 P w K mg (hidT s.heap H) callerA [] s H := ⟨rfl, ⟨inH, nsH nsm, ⟨mb, nsH nsb, boot⟩, ⟨mc, nsH n1, n2⟩⟩, fun b o e => of_hidT e, Nat.le_of_eq (hidT_size _ _), trivial, fun b hb => absurd (show b ∈ ([] : List Addr) from hb) List.not_mem_nil, ok, .of_eq nogen⟩
    refine codeAny_mono ((F _ inH (nsH nsm) tabB).go callerA [] s H ⟨[.ref a], []⟩ [.ref a] [.ref a] _ _ rfl hr env (bind s (.ref a)) (.cons rfl .nil) (hsp H (fun p hp => hT _ (toT hp)) hS)) fun r s' h => ?_
    match r, h with
    | .error e, h => exact (none_out H e s' h).elim
    | .ok .next, h => exact h.elim
    | .ok .brk, h => exact h.elim
    | .ok .cont, h => exact h.elim
    | .ok (.ret u), ⟨v, H', os, bare, un, ok', rel, q⟩ =>
      cases (show v = .bl true from q)
      cases (show u = Value.bool true from rel)
      have key : ∀ b o, b ∉ cs.map (·.2) → s.heap.get? b = some o → s'.heap.get? b = some o := fun b o nb e => by
        match q : H b with
        | none => exact un.keep b o e q (fun z => absurd (show b ∈ ([] : List Addr) from z) List.not_mem_nil) (fun z => absurd z List.not_mem_nil)
        | some u =>
          rcases inv b u q with ⟨hb, _⟩ | ⟨rfl, _, rfl⟩
          · exact absurd hb nb
          · obtain ⟨e2, _⟩ := ok' b _ (un.frzs b _ _ q)
            cases ha.symm.trans e
            exact e2
      have more : ∀ p ∈ cs, ∃ m : Array Value, s'.heap.get? p.2 = some { cls := .none, data := .fields m } := fun p hp => let ⟨m, z⟩ := un.tbls p.2 #[] (hT _ (toT hp)); ⟨_, ok' p.2 _ z⟩
      refine ⟨rfl, ⟨fun b o e => ?_, fun b o e => ?_⟩, os, bare⟩
      · rcases Classical.em (b ∈ cs.map (·.2)) with hb | hb
        · obtain ⟨p, hp, rfl⟩ := List.mem_map.mp hb
          obtain ⟨m, hm⟩ := more p hp
          cases (tab p hp).symm.trans e
          exact .inr (.inl ⟨((heads p hp).tab (tab p hp)).isCodeTable, rfl, #[], m, rfl, by rw [Array.empty_append]; exact hm⟩)
        · exact .inl (key b o hb e)
      · rcases Classical.em (b ∈ cs.map (·.2)) with hb | hb
        · obtain ⟨p, hp, rfl⟩ := List.mem_map.mp hb
          obtain ⟨m, hm⟩ := more p hp
          exact ⟨_, hm⟩
        · exact ⟨o, key b o hb e⟩
  match hk : K.lookup a with
  | some o =>
    cases ha.symm.trans (inK a o hk)
    refine main (fun b => if b ∈ cs.map (·.2) then some (.tbl #[]) else none) (fun b hb => if_pos hb) (fun b u z => ?_) (.inr ⟨_, vs.toArray, _, hk, rfl, rfl, rfl, by rw [List.size_toArray, hlen]; exact hl, by simpa using rv⟩)
    rcases Classical.em (b ∈ cs.map (·.2)) with hb | hb
    · exact .inl ⟨hb, (Option.some.inj ((if_pos hb).symm.trans z)).symm⟩
    · cases (if_neg hb).symm.trans z
  | none =>
    refine main (fun b => if b ∈ cs.map (·.2) then some (.tbl #[]) else if b = a then some (.frz { cls := .type "list", data := .seq vs.toArray } (.lst (ns.map V.int))) else none) (fun b hb => if_pos hb) (fun b u z => ?_) (.inl (.inr ⟨{ cls := .type "list", data := .seq vs.toArray }, (if_neg aT).trans (if_pos rfl)⟩))
    rcases Classical.em (b ∈ cs.map (·.2)) with hb | hb
    · exact .inl ⟨hb, (Option.some.inj ((if_pos hb).symm.trans z)).symm⟩
    · have z1 := (if_neg hb).symm.trans z
      rcases Classical.em (b = a) with e | e
      · exact .inr ⟨e, hk, (Option.some.inj ((if_pos e).symm.trans z1)).symm⟩
      · cases (if_neg e).symm.trans z1
/-- what is known of the law's promise behind its top -/
def LawG (l : PySem.W.OpenLaw) (w : World) (K : PySem.W.Frag) (CX : CXT) (k n : Nat) (x : Str) (mg : Str → Option Value) (fa : Addr) (h : Heap) : Prop :=
  ∃ (fd : FuncData) (cs : List (Addr × Addr)) (sp : Sp), (∀ y ∈ cs, h.get? y.2 = some { cls := .none, data := .fields #[] }) ∧ (∀ y ∈ cs, K.lookup y.2 = none) ∧ (∀ y ∈ cs, PySem.W.CodeHd h y.1 y.2) ∧ (∀ (s : Shared) (u : Value), BindsTo s fd ⟨[u], []⟩ [(x, u)]) ∧
    (∀ (H : Hp) (a : Addr) (ns : List Int), ns.length ≤ n → (∀ z ∈ ns, Builtin.Int.intBits z ≤ 1048576) → (∀ y ∈ cs, H y.2 = some (.tbl #[])) → SqL K H a (ns.map V.int) → sp [.ref a] H (fun v _ => v = .bl true) fun _ _ _ => False) ∧
    (∀ base : Heap, K.In base → base.Ns mainGlobals mg → (∀ p ∈ cs, LamX.TabB base mg p.1 p.2) → FnG l.prog w K mg base CX k fa fd [x] sp)
theorem walkGT {l : PySem.W.OpenLaw} {n k : Nat} {q : Program} {loose : List Str} {XP : (Str → Option Value) → Heap → Prop} {YP : World → Heap → Prop} {d : DefRec} {K : Params → PySem.W.Frag} {CX : World → CXT} {x : Str} (hn : l.most = some n) (small : n ≤ sizeLine) (nodef : d.params.defaults = []) (hr : Room k callerA)
    (inY : ∀ (w : World) (h : Heap), YP w h → (K w.params).In h) (F : ∀ (w : World) (mg : Str → Option Value) (fa : Addr) (h : Heap), YP w h → (K w.params).In h → h.Ns mainGlobals mg → mg d.name = some (.ref fa) → LawG l w (K w.params) (CX w) k n x mg fa h)
    (none_out : ∀ (w : World) (H : Hp) (s : Shared) (e : Value) (s' : Shared), CX w [] H s (fun _ _ _ => False) e s' → False) : PySem.W.WalkO q loose XP YP l.row.toRowW d [] (fun f vs => PySem.call f vs) := by
  refine Att.attach_callB hn nodef fun w s0 s1 mg mb fa o pm cd doc a vs ns G Y ho hd hcd hmg hobj hints hlen hbits hg => ?_
  obtain ⟨fd, cs, sp, hT, nT, C, hb, hsp, hF⟩ := F w mg fa _ Y (inY w _ Y) G.T.g hmg
  exact law_goesT (inY w _ Y) G.T.g G.T.b G.T.builtins G.T.nolimit hg hT nT C G.T.bmain hobj hints (Nat.le_trans hlen small) hr hF hb (fun H hH hS => hsp H a ns hlen hbits hH hS) fun H e s' => none_out w H s1 e s'
end One
end P_G3

section P_H13
set_option linter.all false
set_option maxRecDepth 100000
set_option maxHeartbeats 8000000
namespace One
open PySem PySem.W PySem.Calls PyProof.Rows PySem.HandSPX L2
theorem tab_mkX {K : Frag} {x : Str} {f c Pt : Addr} {oc oc2 : Value} {od od2 : Option Addr} {fd : FuncData} {sl sl2 : Array (Option Value)} {vs : Array Value} (a : nsIn K mainGlobals x = some (some (.ref f))) (l : K.lookup f = some ⟨oc, od, .func fd, sl⟩) (hc : fd.code = .ref c)
    (lc : K.lookup c = some ⟨oc2, od2, .fields vs, sl2⟩) (hv : (vs[11]? : Option Value) = some (.ref Pt)) : tabIn K x = some (c, Pt) := by
  unfold tabIn
  rw [a]
  simp only [l, hc, lc, hv]
theorem walkGX {l : OpenLaw} {n k : Nat} {q : Program} {loose : List Str} {XP : (Str → Option Value) → Heap → Prop} {YP : World → Heap → Prop} {d : DefRec} {K : Params → Frag} {CX : World → CXT} {x : Str} (hn : l.most = some n) (small : n ≤ sizeLine) (nodef : d.params.defaults = []) (hr : Room k callerA)
    (inY : ∀ (w : World) (h : Heap), YP w h → (K w.params).In h)
    (F : ∀ (w : World) (mg : Str → Option Value) (fa : Addr) (h : Heap), YP w h → (K w.params).In h → h.Ns mainGlobals mg → mg d.name = some (.ref fa) →
      (∀ {x : Str} {dL : DefRec}, (recsOf q).find? (fun e => e.name == x) = some dL → ∀ {c P : Addr}, tabIn (K w.params) x = some (c, P) → CodeHd h c P ∧ h.get? P = some { cls := .none, data := .fields #[] }) → LawG l w (K w.params) (CX w) k n x mg fa h)
    (none_out : ∀ (w : World) (H : Hp) (s : Shared) (e : Value) (s' : Shared), CX w [] H s (fun _ _ _ => False) e s' → False) : WalkO q loose XP YP l.row.toRowW d [] (fun f vs => PySem.call f vs) := by
  refine Att.attach_callB hn nodef fun w s0 s1 mg mb fa o pm cd doc a vs ns G Y ho hd hcd hmg hobj hints hlen hbits hg => ?_
  have X := inY w _ Y
  obtain ⟨fd, cs, sp, hT, nT, C, hb, hsp, hF⟩ := F w mg fa _ Y X G.T.g hmg (@fun _ _ hrec _ _ ht => tab_of G.T X hrec ht)
  exact law_goesT X G.T.g G.T.b G.T.builtins G.T.nolimit hg hT nT C G.T.bmain hobj hints (Nat.le_trans hlen small) hr hF hb (fun H hH hS => hsp H a ns hlen hbits hH hS) fun H e s' => none_out w H s1 e s'
end One
end P_H13

section P_H11
set_option linter.all false
set_option maxRecDepth 100000
set_option maxHeartbeats 16000000
namespace One
open PySem PySem.W PySem.Calls PyProof.Rows PySem.HandSPX L2
theorem all_mk {l : OpenLaw} {w : World} {K : Frag} {h : Heap} {mg : Str → Option Value} {fa RE C0 C1 C2 C3 C4 C5 C6 C7 C8 C9 C10 C11 C12 C13 C14 C15 C16 C17 C18 i0 i1 i2 i3 : Addr} {f_law c_law : Addr} {t0 t1 t2 : Tok} {f_is_number f_is_below f_reached f_need_yard f_yard_fault f_can_be_many_lines f_is_line f_is_whole f_crossings_beside f_crossings f_fars_of_lines f_mate f_need_setting f_ways_fault f_rounds_of f_rounds_by_fars f_round_from f_end_after f_many_rounds f_round_at f_meeting f_need_crossing f_outer_way f_law_mixed f_law_begin f_law_draw f_law_order f_law_across f_law_yard f_law_size f_law_said f_law_place f_law_odd f_law_bent f_law_no_yard f_law_all_refuse f_law_is_let f_law_spots_right : Addr} {e_is_number e_is_below e_reached e_need_yard e_yard_fault e_can_be_many_lines e_is_line e_is_whole e_crossings_beside e_crossings e_fars_of_lines e_mate e_need_setting e_ways_fault e_rounds_of e_rounds_by_fars e_round_from e_end_after e_many_rounds e_round_at e_meeting e_need_crossing e_outer_way e_law_mixed e_law_begin e_law_draw e_law_order e_law_across e_law_yard e_law_size e_law_said e_law_place e_law_odd e_law_bent e_law_no_yard : FuncData} {oc kV doc pm ct : Value} {od an : Option Addr} {sl : Array (Option Value)}
    {co_law_all_refuse P_law_all_refuse : Addr} {oc_law_all_refuse kV_law_all_refuse doc_law_all_refuse pm_law_all_refuse ct_law_all_refuse : Value} {od_law_all_refuse an_law_all_refuse : Option Addr} {sl_law_all_refuse : Array (Option Value)}
    {co_law_is_let P_law_is_let : Addr} {oc_law_is_let kV_law_is_let doc_law_is_let pm_law_is_let ct_law_is_let : Value} {od_law_is_let an_law_is_let : Option Addr} {sl_law_is_let : Array (Option Value)}
    {co_law_spots_right P_law_spots_right : Addr} {oc_law_spots_right kV_law_spots_right doc_law_spots_right pm_law_spots_right ct_law_spots_right : Value} {od_law_spots_right an_law_spots_right : Option Addr} {sl_law_spots_right : Array (Option Value)}
    (X : K.In h) (G : h.Ns mainGlobals mg) (hfa : mg "law" = some (.ref fa))
    (tabs_law_all_refuse : ∀ {c P : Addr}, tabIn K "_law_all_refuse" = some (c, P) → CodeHd h c P ∧ h.get? P = some { cls := .none, data := .fields #[] })
    (tabs_law_is_let : ∀ {c P : Addr}, tabIn K "_law_is_let" = some (c, P) → CodeHd h c P ∧ h.get? P = some { cls := .none, data := .fields #[] })
    (tabs_law_spots_right : ∀ {c P : Addr}, tabIn K "_law_spots_right" = some (c, P) → CodeHd h c P ∧ h.get? P = some { cls := .none, data := .fields #[] })
    (z_len : nsIn K mainGlobals "len" = some none)
    (z_range : nsIn K mainGlobals "range" = some none)
    (z_tuple : nsIn K mainGlobals "tuple" = some none)
    (z_list : nsIn K mainGlobals "list" = some none)
    (z_sorted : nsIn K mainGlobals "sorted" = some none)
    (z_enumerate : nsIn K mainGlobals "enumerate" = some none)
    (z_isinstance : nsIn K mainGlobals "isinstance" = some none)
    (z_int : nsIn K mainGlobals "int" = some none)
    (z_bool : nsIn K mainGlobals "bool" = some none)
    (z_repr : nsIn K mainGlobals "repr" = some none)
    (z_all : nsIn K mainGlobals "all" = some none)
    (z_super : nsIn K mainGlobals "super" = some none)
    (z_ValueError : nsIn K mainGlobals "ValueError" = some none)
    (z_min : nsIn K mainGlobals "min" = some none)
    (z_max : nsIn K mainGlobals "max" = some none)
    (k_MOST_CROSSINGS : nsIn K mainGlobals "MOST_CROSSINGS" = some (some (.int 40 t0)))
    (k_PLACES : nsIn K mainGlobals "PLACES" = some (some (.int 4 t1)))
    (k_MANY_WAYS : nsIn K mainGlobals "MANY_WAYS" = some (some (.int 3 t2)))
    (d_is_number : DefAt K "is_number" (top 22) f_is_number e_is_number)
    (d_is_below : DefAt K "is_below" (top 23) f_is_below e_is_below)
    (d_reached : DefAt K "reached" (top 25) f_reached e_reached)
    (d_need_yard : DefAt K "need_yard" (top 30) f_need_yard e_need_yard)
    (d_yard_fault : DefAt K "yard_fault" (top 31) f_yard_fault e_yard_fault)
    (d_can_be_many_lines : DefAt K "can_be_many_lines" (top 32) f_can_be_many_lines e_can_be_many_lines)
    (d_is_line : DefAt K "is_line" (top 33) f_is_line e_is_line)
    (d_is_whole : DefAt K "is_whole" (top 34) f_is_whole e_is_whole)
    (d_crossings_beside : DefAt K "crossings_beside" (top 35) f_crossings_beside e_crossings_beside)
    (d_crossings : DefAt K "crossings" (top 36) f_crossings e_crossings)
    (d_fars_of_lines : DefAt K "fars_of_lines" (top 37) f_fars_of_lines e_fars_of_lines)
    (d_mate : DefAt K "mate" (top 38) f_mate e_mate)
    (d_need_setting : DefAt K "need_setting" (top 41) f_need_setting e_need_setting)
    (d_ways_fault : DefAt K "ways_fault" (top 42) f_ways_fault e_ways_fault)
    (d_rounds_of : DefAt K "rounds_of" (top 44) f_rounds_of e_rounds_of)
    (d_rounds_by_fars : DefAt K "rounds_by_fars" (top 45) f_rounds_by_fars e_rounds_by_fars)
    (d_round_from : DefAt K "round_from" (top 46) f_round_from e_round_from)
    (d_end_after : DefAt K "end_after" (top 47) f_end_after e_end_after)
    (d_many_rounds : DefAt K "many_rounds" (top 48) f_many_rounds e_many_rounds)
    (d_round_at : DefAt K "round_at" (top 49) f_round_at e_round_at)
    (d_meeting : DefAt K "meeting" (top 50) f_meeting e_meeting)
    (d_need_crossing : DefAt K "need_crossing" (top 51) f_need_crossing e_need_crossing)
    (d_outer_way : DefAt K "outer_way" (top 54) f_outer_way e_outer_way)
    (d_law_mixed : DefAt K "_law_mixed" (top 57) f_law_mixed e_law_mixed)
    (d_law_begin : DefAt K "_law_begin" (top 58) f_law_begin e_law_begin)
    (d_law_draw : DefAt K "_law_draw" (top 59) f_law_draw e_law_draw)
    (d_law_order : DefAt K "_law_order" (top 60) f_law_order e_law_order)
    (d_law_across : DefAt K "_law_across" (top 61) f_law_across e_law_across)
    (d_law_yard : DefAt K "_law_yard" (top 62) f_law_yard e_law_yard)
    (d_law_size : DefAt K "_law_size" (top 63) f_law_size e_law_size)
    (d_law_said : DefAt K "_law_said" (top 64) f_law_said e_law_said)
    (d_law_place : DefAt K "_law_place" (top 65) f_law_place e_law_place)
    (d_law_odd : DefAt K "_law_odd" (top 66) f_law_odd e_law_odd)
    (d_law_bent : DefAt K "_law_bent" (top 67) f_law_bent e_law_bent)
    (d_law_no_yard : DefAt K "_law_no_yard" (top 68) f_law_no_yard e_law_no_yard)
    (ns_law_all_refuse : nsIn K mainGlobals "_law_all_refuse" = some (some (.ref f_law_all_refuse))) (lk_law_all_refuse : K.lookup f_law_all_refuse = some ⟨oc_law_all_refuse, od_law_all_refuse, .func (fnOf "_law_all_refuse" "_law_all_refuse" (defArgs (top 69)) (defBody (top 69)) (defScope (top 69)) .none kV_law_all_refuse doc_law_all_refuse pm_law_all_refuse an_law_all_refuse (.ref co_law_all_refuse) ct_law_all_refuse), sl_law_all_refuse⟩) (cd_law_all_refuse : codeIn K (.ref co_law_all_refuse) "_law_all_refuse" = true) (kp_law_all_refuse : keepIn K (.ref f_law_all_refuse) = true)
    (ns_law_is_let : nsIn K mainGlobals "_law_is_let" = some (some (.ref f_law_is_let))) (lk_law_is_let : K.lookup f_law_is_let = some ⟨oc_law_is_let, od_law_is_let, .func (fnOf "_law_is_let" "_law_is_let" (defArgs (top 70)) (defBody (top 70)) (defScope (top 70)) .none kV_law_is_let doc_law_is_let pm_law_is_let an_law_is_let (.ref co_law_is_let) ct_law_is_let), sl_law_is_let⟩) (cd_law_is_let : codeIn K (.ref co_law_is_let) "_law_is_let" = true) (kp_law_is_let : keepIn K (.ref f_law_is_let) = true)
    (ns_law_spots_right : nsIn K mainGlobals "_law_spots_right" = some (some (.ref f_law_spots_right))) (lk_law_spots_right : K.lookup f_law_spots_right = some ⟨oc_law_spots_right, od_law_spots_right, .func (fnOf "_law_spots_right" "_law_spots_right" (defArgs (top 71)) (defBody (top 71)) (defScope (top 71)) .none kV_law_spots_right doc_law_spots_right pm_law_spots_right an_law_spots_right (.ref co_law_spots_right) ct_law_spots_right), sl_law_spots_right⟩) (cd_law_spots_right : codeIn K (.ref co_law_spots_right) "_law_spots_right" = true) (kp_law_spots_right : keepIn K (.ref f_law_spots_right) = true)
    (nRE : nsIn K mainGlobals "RoundError" = some (some (.ref RE))) (k0 : ClsAt l.prog K "BadYard" (initOf (top 2)) "place" C0 i0) (k1 : ClsAt l.prog K "BadSetting" (initOf (top 5)) "place" C1 i1) (k2 : ClsAt l.prog K "BadEnd" (initOf (top 4)) "place" C2 i2) (k3 : ClsAt l.prog K "OutOfPlace" (initOf (top 16)) "place" C3 i3) (n4 : nsIn K mainGlobals "BadTurn" = some (some (.ref C4))) (n5 : nsIn K mainGlobals "BadLead" = some (some (.ref C5))) (n6 : nsIn K mainGlobals "BadDraft" = some (some (.ref C6))) (n7 : nsIn K mainGlobals "BadNames" = some (some (.ref C7))) (n8 : nsIn K mainGlobals "BadSplit" = some (some (.ref C8))) (n9 : nsIn K mainGlobals "BadText" = some (some (.ref C9))) (n10 : nsIn K mainGlobals "BadTwins" = some (some (.ref C10))) (n11 : nsIn K mainGlobals "BadWorths" = some (some (.ref C11))) (n12 : nsIn K mainGlobals "BadDeed" = some (some (.ref C12))) (n13 : nsIn K mainGlobals "BadPaper" = some (some (.ref C13))) (n14 : nsIn K mainGlobals "BadTable" = some (some (.ref C14))) (n15 : nsIn K mainGlobals "Barred" = some (some (.ref C15))) (n16 : nsIn K mainGlobals "ManyRounds" = some (some (.ref C16))) (n17 : nsIn K mainGlobals "NeverOne" = some (some (.ref C17))) (n18 : nsIn K mainGlobals "TooMany" = some (some (.ref C18)))
    (r0 : SaidC K (clsS C0 C1 C2 C3 C4 C5 C6 C7 C8 C9 C10 C11 C12 C13 C14 C15 C16 C17 C18) RE 0) (r1 : SaidC K (clsS C0 C1 C2 C3 C4 C5 C6 C7 C8 C9 C10 C11 C12 C13 C14 C15 C16 C17 C18) RE 1) (r2 : SaidC K (clsS C0 C1 C2 C3 C4 C5 C6 C7 C8 C9 C10 C11 C12 C13 C14 C15 C16 C17 C18) RE 2) (r3 : SaidC K (clsS C0 C1 C2 C3 C4 C5 C6 C7 C8 C9 C10 C11 C12 C13 C14 C15 C16 C17 C18) RE 3)
    (lawNs : nsIn K mainGlobals "law" = some (some (.ref f_law))) (lawLk : K.lookup f_law = some ⟨oc, od, .func (fnOf "law" "law" (defArgs sLaw) (defBody sLaw) (defScope sLaw) .none kV doc pm an (.ref c_law) ct), sl⟩) (lawCd : codeIn K (.ref c_law) "law" = true) (lawKp : keepIn K (.ref f_law) = true)
    (tab_law_all_refuse : tabIn K "_law_all_refuse" = some (co_law_all_refuse, P_law_all_refuse)) (ntab_law_all_refuse : K.lookup P_law_all_refuse = none)    (tab_law_is_let : tabIn K "_law_is_let" = some (co_law_is_let, P_law_is_let)) (ntab_law_is_let : K.lookup P_law_is_let = none)    (tab_law_spots_right : tabIn K "_law_spots_right" = some (co_law_spots_right, P_law_spots_right)) (ntab_law_spots_right : K.lookup P_law_spots_right = none) (npAI : P_law_all_refuse ≠ P_law_is_let) (npAS : P_law_all_refuse ≠ P_law_spots_right) (npIS : P_law_is_let ≠ P_law_spots_right) : LawG l w K CX0 15 63 "script" mg fa h := by
  have e := hfa.symm.trans (mg_of X G lawNs)
  cases e
  obtain ⟨hd_law_all_refuse, ht_law_all_refuse⟩ := tabs_law_all_refuse tab_law_all_refuse
  obtain ⟨hd_law_is_let, ht_law_is_let⟩ := tabs_law_is_let tab_law_is_let
  obtain ⟨hd_law_spots_right, ht_law_spots_right⟩ := tabs_law_spots_right tab_law_spots_right
  have memC : ∀ p ∈ [(co_law_all_refuse, P_law_all_refuse), (co_law_is_let, P_law_is_let), (co_law_spots_right, P_law_spots_right)], p ∈ [(co_law_all_refuse, P_law_all_refuse), (co_law_is_let, P_law_is_let), (co_law_spots_right, P_law_spots_right)] := fun p hp => hp
  refine ⟨fnOf "law" "law" (defArgs sLaw) (defBody sLaw) (defScope sLaw) .none kV doc pm an (.ref c_law) ct, [(co_law_all_refuse, P_law_all_refuse), (co_law_is_let, P_law_is_let), (co_law_spots_right, P_law_spots_right)], spLaw K P_law_all_refuse P_law_is_let P_law_spots_right, (List.forall_mem_cons.mpr ⟨ht_law_all_refuse, (List.forall_mem_cons.mpr ⟨ht_law_is_let, (List.forall_mem_cons.mpr ⟨ht_law_spots_right, (fun p hp => absurd hp List.not_mem_nil)⟩)⟩)⟩), (List.forall_mem_cons.mpr ⟨ntab_law_all_refuse, (List.forall_mem_cons.mpr ⟨ntab_law_is_let, (List.forall_mem_cons.mpr ⟨ntab_law_spots_right, (fun p hp => absurd hp List.not_mem_nil)⟩)⟩)⟩), (List.forall_mem_cons.mpr ⟨hd_law_all_refuse, (List.forall_mem_cons.mpr ⟨hd_law_is_let, (List.forall_mem_cons.mpr ⟨hd_law_spots_right, (fun p hp => absurd hp List.not_mem_nil)⟩)⟩)⟩), fun s u => .of_eq rfl, fun H a ns hl _ hT hS => ⟨a, ns, rfl, hS, hl, hT _ (memC (co_law_all_refuse, P_law_all_refuse) (by simp)), hT _ (memC (co_law_is_let, P_law_is_let) (by simp)), hT _ (memC (co_law_spots_right, P_law_spots_right) (by simp)), fun _ => rfl⟩, fun base inB nsB tB => ?_⟩
  have no : ∀ {x : Str}, nsIn K mainGlobals x = some none → mg x = none := fun z => mg_none_of X G z
  have T : TB mg := ⟨no z_len, no z_range, no z_tuple, no z_list, no z_sorted, no z_enumerate, no z_isinstance, no z_int, no z_bool, no z_repr, no z_all⟩
  have TCo : TC mg := ⟨⟨_, mg_of X G k_MOST_CROSSINGS⟩, ⟨_, mg_of X G k_PLACES⟩⟩
  have noS : mg "super" = none := no z_super
  have tB_law_all_refuse := tB _ (memC (co_law_all_refuse, P_law_all_refuse) (by simp))
  have tB_law_is_let := tB _ (memC (co_law_is_let, P_law_is_let) (by simp))
  have tB_law_spots_right := tB _ (memC (co_law_spots_right, P_law_spots_right) (by simp))
  have c_is_number := d_is_number.cal (ps := ["thing"]) X G fun _ _ _ _ _ _ us hl => match us, hl with | [_], _ => rfl
  have c_is_below := d_is_below.cal (ps := ["thing", "many"]) X G fun _ _ _ _ _ _ us hl => match us, hl with | [_, _], _ => rfl
  have c_reached := d_reached.cal (ps := ["beside", "start"]) X G fun _ _ _ _ _ _ us hl => match us, hl with | [_, _], _ => rfl
  have c_need_yard := d_need_yard.cal (ps := ["thing"]) X G fun _ _ _ _ _ _ us hl => match us, hl with | [_], _ => rfl
  have c_yard_fault := d_yard_fault.cal (ps := ["thing"]) X G fun _ _ _ _ _ _ us hl => match us, hl with | [_], _ => rfl
  have c_can_be_many_lines := d_can_be_many_lines.cal (ps := ["many"]) X G fun _ _ _ _ _ _ us hl => match us, hl with | [_], _ => rfl
  have c_is_line := d_is_line.cal (ps := ["thing", "many_ends"]) X G fun _ _ _ _ _ _ us hl => match us, hl with | [_, _], _ => rfl
  have c_is_whole := d_is_whole.cal (ps := ["lines"]) X G fun _ _ _ _ _ _ us hl => match us, hl with | [_], _ => rfl
  have c_crossings_beside := d_crossings_beside.cal (ps := ["lines", "many"]) X G fun _ _ _ _ _ _ us hl => match us, hl with | [_, _], _ => rfl
  have c_crossings := d_crossings.cal (ps := ["yard"]) X G fun _ _ _ _ _ _ us hl => match us, hl with | [_], _ => rfl
  have c_fars_of_lines := d_fars_of_lines.cal (ps := ["lines"]) X G fun _ _ _ _ _ _ us hl => match us, hl with | [_], _ => rfl
  have c_mate := d_mate.cal (ps := ["end", "way"]) X G fun _ _ _ _ _ _ us hl => match us, hl with | [_, _], _ => rfl
  have c_need_setting := d_need_setting.cal (ps := ["yard", "thing"]) X G fun _ _ _ _ _ _ us hl => match us, hl with | [_, _], _ => rfl
  have c_ways_fault := d_ways_fault.cal (ps := ["thing", "many", "is_draft"]) X G fun _ _ _ _ _ _ us hl => match us, hl with | [_, _, _], _ => rfl
  have c_rounds_of := d_rounds_of.cal (ps := ["yard", "setting"]) X G fun _ _ _ _ _ _ us hl => match us, hl with | [_, _], _ => rfl
  have c_rounds_by_fars := d_rounds_by_fars.cal (ps := ["fars", "setting"]) X G fun _ _ _ _ _ _ us hl => match us, hl with | [_, _], _ => rfl
  have c_round_from := d_round_from.cal (ps := ["fars", "setting", "start"]) X G fun _ _ _ _ _ _ us hl => match us, hl with | [_, _, _], _ => rfl
  have c_end_after := d_end_after.cal (ps := ["fars", "setting", "end"]) X G fun _ _ _ _ _ _ us hl => match us, hl with | [_, _, _], _ => rfl
  have c_many_rounds := d_many_rounds.cal (ps := ["yard", "setting"]) X G fun _ _ _ _ _ _ us hl => match us, hl with | [_, _], _ => rfl
  have c_round_at := d_round_at.cal (ps := ["yard", "setting", "end"]) X G fun _ _ _ _ _ _ us hl => match us, hl with | [_, _, _], _ => rfl
  have c_meeting := d_meeting.cal (ps := ["yard", "setting", "crossing"]) X G fun _ _ _ _ _ _ us hl => match us, hl with | [_, _, _], _ => rfl
  have c_need_crossing := d_need_crossing.cal (ps := ["thing", "many"]) X G fun _ _ _ _ _ _ us hl => match us, hl with | [_, _], _ => rfl
  have c_outer_way := d_outer_way.cal (ps := ["yard", "setting", "crossing"]) X G fun _ _ _ _ _ _ us hl => match us, hl with | [_, _, _], _ => rfl
  have c_law_mixed := d_law_mixed.cal (ps := ["cell", "k"]) X G fun _ _ _ _ _ _ us hl => match us, hl with | [_, _], _ => rfl
  have c_law_begin := d_law_begin.cal (ps := ["script"]) X G fun _ _ _ _ _ _ us hl => match us, hl with | [_], _ => rfl
  have c_law_draw := d_law_draw.cal (ps := ["state", "many"]) X G fun _ _ _ _ _ _ us hl => match us, hl with | [_, _], _ => rfl
  have c_law_order := d_law_order.cal (ps := ["state", "size"]) X G fun _ _ _ _ _ _ us hl => match us, hl with | [_, _], _ => rfl
  have c_law_across := d_law_across.cal (ps := ["lines", "many", "one", "other"]) X G fun _ _ _ _ _ _ us hl => match us, hl with | [_, _, _, _], _ => rfl
  have c_law_yard := d_law_yard.cal (ps := ["state", "many"]) X G fun _ _ _ _ _ _ us hl => match us, hl with | [_, _], _ => rfl
  have c_law_size := d_law_size.cal (ps := ["state", "most"]) X G fun _ _ _ _ _ _ us hl => match us, hl with | [_, _], _ => rfl
  have c_law_said := d_law_said.cal (ps := ["deed"]) X G fun _ _ _ _ _ _ us hl => match us, hl with | [_], _ => rfl
  have c_law_place := d_law_place.cal (ps := ["many", "thing"]) X G fun _ _ _ _ _ _ us hl => match us, hl with | [_, _], _ => rfl
  have c_law_odd := d_law_odd.cal (ps := ["state"]) X G fun _ _ _ _ _ _ us hl => match us, hl with | [_], _ => rfl
  have c_law_bent := d_law_bent.cal (ps := ["state", "setting"]) X G fun _ _ _ _ _ _ us hl => match us, hl with | [_, _], _ => rfl
  have c_law_no_yard := d_law_no_yard.cal (ps := ["state", "yard"]) X G fun _ _ _ _ _ _ us hl => match us, hl with | [_, _], _ => rfl
  have fn_law_all_refuse : FunC K "_law_all_refuse" "_law_all_refuse" (top 69) f_law_all_refuse _ co_law_all_refuse := ⟨_, _, _, _, _, _, _, _, rfl, lk_law_all_refuse, cd_law_all_refuse⟩
  have d_law_all_refuse := def_at (st := top 69) ns_law_all_refuse lk_law_all_refuse cd_law_all_refuse kp_law_all_refuse
  have c_law_all_refuse := d_law_all_refuse.cal (ps := ["yard", "thing", "due", "end", "crossing"]) X G fun _ _ _ _ _ _ us hl => match us, hl with | [_, _, _, _, _], _ => rfl
  have fn_law_is_let : FunC K "_law_is_let" "_law_is_let" (top 70) f_law_is_let _ co_law_is_let := ⟨_, _, _, _, _, _, _, _, rfl, lk_law_is_let, cd_law_is_let⟩
  have d_law_is_let := def_at (st := top 70) ns_law_is_let lk_law_is_let cd_law_is_let kp_law_is_let
  have c_law_is_let := d_law_is_let.cal (ps := ["yard", "setting"]) X G fun _ _ _ _ _ _ us hl => match us, hl with | [_, _], _ => rfl
  have fn_law_spots_right : FunC K "_law_spots_right" "_law_spots_right" (top 71) f_law_spots_right _ co_law_spots_right := ⟨_, _, _, _, _, _, _, _, rfl, lk_law_spots_right, cd_law_spots_right⟩
  have d_law_spots_right := def_at (st := top 71) ns_law_spots_right lk_law_spots_right cd_law_spots_right kp_law_spots_right
  have c_law_spots_right := d_law_spots_right.cal (ps := ["state", "yard", "setting"]) X G fun _ _ _ _ _ _ us hl => match us, hl with | [_, _, _], _ => rfl
  have Nm : SaidN mg (clsS C0 C1 C2 C3 C4 C5 C6 C7 C8 C9 C10 C11 C12 C13 C14 C15 C16 C17 C18) RE := ⟨mg_of X G nRE, mg_of X G k0.ns, mg_of X G k1.ns, mg_of X G k2.ns, mg_of X G k3.ns, mg_of X G n4, mg_of X G n5, mg_of X G n6, mg_of X G n7, mg_of X G n8, mg_of X G n9, mg_of X G n10, mg_of X G n11, mg_of X G n12, mg_of X G n13, mg_of X G n14, mg_of X G n15, mg_of X G n16, mg_of X G n17, mg_of X G n18, no z_ValueError⟩
  have G_is_number := ok_isnum (P := l.prog) (w := w) (base := base) d_is_number.fn T
  have G_is_below := ok_isbelow d_is_below.fn c_is_number G_is_number
  have G_can := ok_canbe (P := l.prog) (w := w) (base := base) d_can_be_many_lines.fn T TCo
  have G_is_line := ok_isline d_is_line.fn T c_is_below G_is_below
  have G_reached := ok_reached (P := l.prog) (w := w) (base := base) d_reached.fn T
  have G_beside := ok_besideX (P := l.prog) (w := w) (base := base) d_crossings_beside.fn T TCo
  have G_whole := ok_iswhole d_is_whole.fn T c_reached G_reached c_crossings_beside G_beside
  have G_fault := ok_fault d_yard_fault.fn T c_can_be_many_lines G_can c_is_line G_is_line c_is_whole G_whole
  have G_need := ok_need d_need_yard.fn k0.own (k0.cls X G) noS c_yard_fault G_fault
  have G_cross := ok_cross d_crossings.fn T c_need_yard G_need
  have G_fars := ok_fars (P := l.prog) (w := w) (base := base) d_fars_of_lines.fn T
  have G_mate := ok_mate (P := l.prog) (w := w) (mg := mg) (base := base) d_mate.fn
  have G_ea := ok_ea d_end_after.fn TCo c_mate G_mate
  have G_rf := ok_rf d_round_from.fn T c_end_after G_ea
  have G_rb := ok_rb d_rounds_by_fars.fn T c_round_from G_rf
  have G_ways := ok_ways d_ways_fault.fn T ⟨_, mg_of X G k_MANY_WAYS⟩ c_is_below G_is_below
  have G_ns2 := ok_ns2 d_need_setting.fn k1.own (k1.cls X G) noS c_ways_fault G_ways c_crossings G_cross
  have G_ro2 := ok_ro2 d_rounds_of.fn c_need_setting G_ns2 c_rounds_by_fars G_rb c_fars_of_lines G_fars
  have G_mr := ok_mr3 d_many_rounds.fn T c_rounds_of G_ro2
  have G_nx := ok_nx2 d_need_crossing.fn k3.own (k3.cls X G) noS c_is_below G_is_below
  have G_ra := ok_ra2 d_round_at.fn T k2.own (k2.cls X G) noS c_need_setting G_ns2 c_fars_of_lines G_fars c_is_below G_is_below
  have G_mt := ok_mt2 d_meeting.fn T c_rounds_of G_ro2 c_need_crossing G_nx
  have G_ow := ok_ow2 d_outer_way.fn T c_need_setting G_ns2 c_need_crossing G_nx
  have G_mixed := ok_mixed (P := l.prog) (w := w) (mg := mg) (base := base) d_law_mixed.fn
  have G_begin := ok_begin (P := l.prog) (w := w) (base := base) d_law_begin.fn T
  have G_draw := ok_draw d_law_draw.fn T c_law_mixed G_mixed
  have G_order := ok_order d_law_order.fn T c_law_draw G_draw
  have G_across := ok_across (P := l.prog) (w := w) (base := base) d_law_across.fn T
  have G_yard := ok_yard d_law_yard.fn T (no z_min) (no z_max) c_law_draw G_draw c_law_order G_order c_law_across G_across
  have G_size := ok_size d_law_size.fn (no z_min) c_law_draw G_draw
  have G_pl := ok_pl (P := l.prog) (w := w) (base := base) d_law_place.fn T
  have G_od := ok_od d_law_odd.fn T c_law_draw G_draw
  have G_be := ok_be d_law_bent.fn T c_law_draw G_draw c_law_odd G_od
  have G_ny := ok_ny (C0 := C0) d_law_no_yard.fn T c_law_draw G_draw
  obtain ⟨hoA, hoI, hoS⟩ := one_of3 (a := qualA) (b := qualI) (c := qualS) npAI npAS npIS
  have G_il := ok_il (CL := clsS C0 C1 C2 C3 C4 C5 C6 C7 C8 C9 C10 C11 C12 C13 C14 C15 C16 C17 C18) fn_law_is_let T tB_law_is_let (List.mem_cons_of_mem _ (List.mem_cons_self ..)) hoI Nm d_law_said.fn c_law_said c_need_setting G_ns2
  have G_ar := ok_ar (CL := clsS C0 C1 C2 C3 C4 C5 C6 C7 C8 C9 C10 C11 C12 C13 C14 C15 C16 C17 C18) fn_law_all_refuse T tB_law_all_refuse (List.mem_cons_self ..) hoA Nm r0 r1 d_law_said.fn c_law_said c_need_setting G_ns2 c_rounds_of G_ro2 c_many_rounds G_mr c_round_at G_ra c_meeting G_mt c_outer_way G_ow
  have G_sp := ok_sp (CL := clsS C0 C1 C2 C3 C4 C5 C6 C7 C8 C9 C10 C11 C12 C13 C14 C15 C16 C17 C18) fn_law_spots_right T tB_law_spots_right (List.mem_cons_of_mem _ (List.mem_cons_of_mem _ (List.mem_cons_self ..))) hoS Nm r2 r3 d_law_said.fn c_law_said c_round_at G_ra c_meeting G_mt c_outer_way G_ow c_law_draw G_draw
  exact ok_law (CL := clsS C0 C1 C2 C3 C4 C5 C6 C7 C8 C9 C10 C11 C12 C13 C14 C15 C16 C17 C18) rfl (fun_mk lawLk lawCd lawKp) T c_law_begin G_begin c_law_yard G_yard c_law_size G_size c_law_draw G_draw c_law_bent G_be c_law_place G_pl c_law_no_yard G_ny c_law_is_let G_il c_law_spots_right G_sp c_law_all_refuse G_ar
end One
end P_H11

open PySem PySem.W PyProof.Rows in
set_option maxRecDepth 100000 in
set_option maxHeartbeats 0 in
theorem PySem.Challenge.cw_oneround_k10_settings_looked_at_holds : PySem.Challenge.rw_oneround_k10_settings_looked_at.Holds := by
  w_on; o_law; k_head; (case hw => w_witness2)
  k_fill
  refine One.walkGX (l := PySem.Challenge.rw_oneround_k10_settings_looked_at) (n := 63) (k := 15) (CX := fun _ => L2.CX0) (x := "script") rfl (by decide) rfl ⟨rfl, by decide, by decide⟩ (fun w h Y => PySem.W.km_in_of Y) ?F (fun _ _ _ _ _ z => z)
  case F =>
    intro w mg fa h Y KX G hmg tabs
    refine' One.all_mk KX G hmg (tabs (x := "_law_all_refuse") (by rfl)) (tabs (x := "_law_is_let") (by rfl)) (tabs (x := "_law_spots_right") (by rfl)) ?z_len ?z_range ?z_tuple ?z_list ?z_sorted ?z_enumerate ?z_isinstance ?z_int ?z_bool ?z_repr ?z_all ?z_super ?z_ValueError ?z_min ?z_max ?k_MOST_CROSSINGS ?k_PLACES ?k_MANY_WAYS ?d_is_number ?d_is_below ?d_reached ?d_need_yard ?d_yard_fault ?d_can_be_many_lines ?d_is_line ?d_is_whole ?d_crossings_beside ?d_crossings ?d_fars_of_lines ?d_mate ?d_need_setting ?d_ways_fault ?d_rounds_of ?d_rounds_by_fars ?d_round_from ?d_end_after ?d_many_rounds ?d_round_at ?d_meeting ?d_need_crossing ?d_outer_way ?d_law_mixed ?d_law_begin ?d_law_draw ?d_law_order ?d_law_across ?d_law_yard ?d_law_size ?d_law_said ?d_law_place ?d_law_odd ?d_law_bent ?d_law_no_yard ?ns_law_all_refuse ?lk_law_all_refuse ?cd_law_all_refuse ?kp_law_all_refuse ?ns_law_is_let ?lk_law_is_let ?cd_law_is_let ?kp_law_is_let ?ns_law_spots_right ?lk_law_spots_right ?cd_law_spots_right ?kp_law_spots_right ?nRE ?k0 ?k1 ?k2 ?k3 ?n4 ?n5 ?n6 ?n7 ?n8 ?n9 ?n10 ?n11 ?n12 ?n13 ?n14 ?n15 ?n16 ?n17 ?n18 ?r0 ?r1 ?r2 ?r3 ?lawNs ?lawLk ?lawCd ?lawKp ?tab_law_all_refuse ?ntab_law_all_refuse ?tab_law_is_let ?ntab_law_is_let ?tab_law_spots_right ?ntab_law_spots_right ?npAI ?npAS ?npIS
    (case z_len => k_is)
    (case z_range => k_is)
    (case z_tuple => k_is)
    (case z_list => k_is)
    (case z_sorted => k_is)
    (case z_enumerate => k_is)
    (case z_isinstance => k_is)
    (case z_int => k_is)
    (case z_bool => k_is)
    (case z_repr => k_is)
    (case z_all => k_is)
    (case z_super => k_is)
    (case z_ValueError => k_is)
    (case z_min => k_is)
    (case z_max => k_is)
    (case k_MOST_CROSSINGS => k_is)
    (case k_PLACES => k_is)
    (case k_MANY_WAYS => k_is)
    (case d_is_number => refine' One.def_at ?a ?l ?c ?k; (case a => k_is); (case l => k_is); (case c => k_is); (case k => k_is))
    (case d_is_below => refine' One.def_at ?a ?l ?c ?k; (case a => k_is); (case l => k_is); (case c => k_is); (case k => k_is))
    (case d_reached => refine' One.def_at ?a ?l ?c ?k; (case a => k_is); (case l => k_is); (case c => k_is); (case k => k_is))
    (case d_need_yard => refine' One.def_at ?a ?l ?c ?k; (case a => k_is); (case l => k_is); (case c => k_is); (case k => k_is))
    (case d_yard_fault => refine' One.def_at ?a ?l ?c ?k; (case a => k_is); (case l => k_is); (case c => k_is); (case k => k_is))
    (case d_can_be_many_lines => refine' One.def_at ?a ?l ?c ?k; (case a => k_is); (case l => k_is); (case c => k_is); (case k => k_is))
    (case d_is_line => refine' One.def_at ?a ?l ?c ?k; (case a => k_is); (case l => k_is); (case c => k_is); (case k => k_is))
    (case d_is_whole => refine' One.def_at ?a ?l ?c ?k; (case a => k_is); (case l => k_is); (case c => k_is); (case k => k_is))
    (case d_crossings_beside => refine' One.def_at ?a ?l ?c ?k; (case a => k_is); (case l => k_is); (case c => k_is); (case k => k_is))
    (case d_crossings => refine' One.def_at ?a ?l ?c ?k; (case a => k_is); (case l => k_is); (case c => k_is); (case k => k_is))
    (case d_fars_of_lines => refine' One.def_at ?a ?l ?c ?k; (case a => k_is); (case l => k_is); (case c => k_is); (case k => k_is))
    (case d_mate => refine' One.def_at ?a ?l ?c ?k; (case a => k_is); (case l => k_is); (case c => k_is); (case k => k_is))
    (case d_need_setting => refine' One.def_at ?a ?l ?c ?k; (case a => k_is); (case l => k_is); (case c => k_is); (case k => k_is))
    (case d_ways_fault => refine' One.def_at ?a ?l ?c ?k; (case a => k_is); (case l => k_is); (case c => k_is); (case k => k_is))
    (case d_rounds_of => refine' One.def_at ?a ?l ?c ?k; (case a => k_is); (case l => k_is); (case c => k_is); (case k => k_is))
    (case d_rounds_by_fars => refine' One.def_at ?a ?l ?c ?k; (case a => k_is); (case l => k_is); (case c => k_is); (case k => k_is))
    (case d_round_from => refine' One.def_at ?a ?l ?c ?k; (case a => k_is); (case l => k_is); (case c => k_is); (case k => k_is))
    (case d_end_after => refine' One.def_at ?a ?l ?c ?k; (case a => k_is); (case l => k_is); (case c => k_is); (case k => k_is))
    (case d_many_rounds => refine' One.def_at ?a ?l ?c ?k; (case a => k_is); (case l => k_is); (case c => k_is); (case k => k_is))
    (case d_round_at => refine' One.def_at ?a ?l ?c ?k; (case a => k_is); (case l => k_is); (case c => k_is); (case k => k_is))
    (case d_meeting => refine' One.def_at ?a ?l ?c ?k; (case a => k_is); (case l => k_is); (case c => k_is); (case k => k_is))
    (case d_need_crossing => refine' One.def_at ?a ?l ?c ?k; (case a => k_is); (case l => k_is); (case c => k_is); (case k => k_is))
    (case d_outer_way => refine' One.def_at ?a ?l ?c ?k; (case a => k_is); (case l => k_is); (case c => k_is); (case k => k_is))
    (case d_law_mixed => refine' One.def_at ?a ?l ?c ?k; (case a => k_is); (case l => k_is); (case c => k_is); (case k => k_is))
    (case d_law_begin => refine' One.def_at ?a ?l ?c ?k; (case a => k_is); (case l => k_is); (case c => k_is); (case k => k_is))
    (case d_law_draw => refine' One.def_at ?a ?l ?c ?k; (case a => k_is); (case l => k_is); (case c => k_is); (case k => k_is))
    (case d_law_order => refine' One.def_at ?a ?l ?c ?k; (case a => k_is); (case l => k_is); (case c => k_is); (case k => k_is))
    (case d_law_across => refine' One.def_at ?a ?l ?c ?k; (case a => k_is); (case l => k_is); (case c => k_is); (case k => k_is))
    (case d_law_yard => refine' One.def_at ?a ?l ?c ?k; (case a => k_is); (case l => k_is); (case c => k_is); (case k => k_is))
    (case d_law_size => refine' One.def_at ?a ?l ?c ?k; (case a => k_is); (case l => k_is); (case c => k_is); (case k => k_is))
    (case d_law_said => refine' One.def_at ?a ?l ?c ?k; (case a => k_is); (case l => k_is); (case c => k_is); (case k => k_is))
    (case d_law_place => refine' One.def_at ?a ?l ?c ?k; (case a => k_is); (case l => k_is); (case c => k_is); (case k => k_is))
    (case d_law_odd => refine' One.def_at ?a ?l ?c ?k; (case a => k_is); (case l => k_is); (case c => k_is); (case k => k_is))
    (case d_law_bent => refine' One.def_at ?a ?l ?c ?k; (case a => k_is); (case l => k_is); (case c => k_is); (case k => k_is))
    (case d_law_no_yard => refine' One.def_at ?a ?l ?c ?k; (case a => k_is); (case l => k_is); (case c => k_is); (case k => k_is))
    (case ns_law_all_refuse => k_is)
    (case lk_law_all_refuse => k_is)
    (case cd_law_all_refuse => k_is)
    (case kp_law_all_refuse => k_is)
    (case ns_law_is_let => k_is)
    (case lk_law_is_let => k_is)
    (case cd_law_is_let => k_is)
    (case kp_law_is_let => k_is)
    (case ns_law_spots_right => k_is)
    (case lk_law_spots_right => k_is)
    (case cd_law_spots_right => k_is)
    (case kp_law_spots_right => k_is)
    (case nRE => k_is)
    (case k0 => refine' One.cls_at ?ns ?xL ?al ?sa ?noF ?veB ?slf ?op ?tp ?sh ?iC ?l1 ?c1 ?lc ?hvs ?hfile ?lcc ?tC ?kC ?exC ?tyC; (case ns => k_is); (case xL => k_is); (case al => refine' One.al_of ?xR ?fR; (case xR => k_is); (case fR => k_is)); (case sa => k_is); (case noF => k_is); (case veB => k_is); (case slf => k_is); (case op => k_is); (case tp => rfl); (case sh => exact One.shape0); (case iC => k_is); (case l1 => k_is); (case c1 => k_is); (case lc => k_is); (case hvs => first | rfl | k_is); (case hfile => first | rfl | decide +kernel | k_is); (case lcc => k_is); (case tC => k_is); (case kC => k_is); (case exC => k_is); (case tyC => k_is))
    (case k1 => refine' One.cls_at ?ns ?xL ?al ?sa ?noF ?veB ?slf ?op ?tp ?sh ?iC ?l1 ?c1 ?lc ?hvs ?hfile ?lcc ?tC ?kC ?exC ?tyC; (case ns => k_is); (case xL => k_is); (case al => refine' One.al_of ?xR ?fR; (case xR => k_is); (case fR => k_is)); (case sa => k_is); (case noF => k_is); (case veB => k_is); (case slf => k_is); (case op => k_is); (case tp => rfl); (case sh => exact One.shape1); (case iC => k_is); (case l1 => k_is); (case c1 => k_is); (case lc => k_is); (case hvs => first | rfl | k_is); (case hfile => first | rfl | decide +kernel | k_is); (case lcc => k_is); (case tC => k_is); (case kC => k_is); (case exC => k_is); (case tyC => k_is))
    (case k2 => refine' One.cls_at ?ns ?xL ?al ?sa ?noF ?veB ?slf ?op ?tp ?sh ?iC ?l1 ?c1 ?lc ?hvs ?hfile ?lcc ?tC ?kC ?exC ?tyC; (case ns => k_is); (case xL => k_is); (case al => refine' One.al_of ?xR ?fR; (case xR => k_is); (case fR => k_is)); (case sa => k_is); (case noF => k_is); (case veB => k_is); (case slf => k_is); (case op => k_is); (case tp => rfl); (case sh => exact One.shape2); (case iC => k_is); (case l1 => k_is); (case c1 => k_is); (case lc => k_is); (case hvs => first | rfl | k_is); (case hfile => first | rfl | decide +kernel | k_is); (case lcc => k_is); (case tC => k_is); (case kC => k_is); (case exC => k_is); (case tyC => k_is))
    (case k3 => refine' One.cls_at ?ns ?xL ?al ?sa ?noF ?veB ?slf ?op ?tp ?sh ?iC ?l1 ?c1 ?lc ?hvs ?hfile ?lcc ?tC ?kC ?exC ?tyC; (case ns => k_is); (case xL => k_is); (case al => refine' One.al_of ?xR ?fR; (case xR => k_is); (case fR => k_is)); (case sa => k_is); (case noF => k_is); (case veB => k_is); (case slf => k_is); (case op => k_is); (case tp => rfl); (case sh => exact One.shape3); (case iC => k_is); (case l1 => k_is); (case c1 => k_is); (case lc => k_is); (case hvs => first | rfl | k_is); (case hfile => first | rfl | decide +kernel | k_is); (case lcc => k_is); (case tC => k_is); (case kC => k_is); (case exC => k_is); (case tyC => k_is))
    (case n4 => k_is)
    (case n5 => k_is)
    (case n6 => k_is)
    (case n7 => k_is)
    (case n8 => k_is)
    (case n9 => k_is)
    (case n10 => k_is)
    (case n11 => k_is)
    (case n12 => k_is)
    (case n13 => k_is)
    (case n14 => k_is)
    (case n15 => k_is)
    (case n16 => k_is)
    (case n17 => k_is)
    (case n18 => k_is)
    (case r0 => refine' One.said0 ?hg ?hk ?hs ?hd ?ha ?hn ?ht ?hm ?no ?q0 ?q1 ?q2 ?q3 ?q4 ?q5 ?q6 ?q7 ?q8 ?q9 ?q10 ?q11 ?q12 ?q13 ?q14 ?q15 ?q16 ?q17 ?q18 ?ve ?u1 ?u2 ?u3 ?u4; (case hg => k_is); (case hk => k_is); (case hs => k_is); (case hd => k_is); (case ha => k_is); (case hn => k_is); (case ht => k_is); (case hm => k_is); (case no => k_is); (case q0 => first | k_is | kit_is); (case q1 => first | k_is | kit_is); (case q2 => first | k_is | kit_is); (case q3 => first | k_is | kit_is); (case q4 => first | k_is | kit_is); (case q5 => first | k_is | kit_is); (case q6 => first | k_is | kit_is); (case q7 => first | k_is | kit_is); (case q8 => first | k_is | kit_is); (case q9 => first | k_is | kit_is); (case q10 => first | k_is | kit_is); (case q11 => first | k_is | kit_is); (case q12 => first | k_is | kit_is); (case q13 => first | k_is | kit_is); (case q14 => first | k_is | kit_is); (case q15 => first | k_is | kit_is); (case q16 => first | k_is | kit_is); (case q17 => first | k_is | kit_is); (case q18 => first | k_is | kit_is); (case ve => first | k_is | kit_is); (case u1 => k_is); (case u2 => k_is); (case u3 => k_is); (case u4 => k_is))
    (case r1 => refine' One.said1 ?hg ?hk ?hs ?hd ?ha ?hn ?ht ?hm ?no ?q0 ?q1 ?q2 ?q3 ?q4 ?q5 ?q6 ?q7 ?q8 ?q9 ?q10 ?q11 ?q12 ?q13 ?q14 ?q15 ?q16 ?q17 ?q18 ?ve ?u1 ?u2 ?u3 ?u4; (case hg => k_is); (case hk => k_is); (case hs => k_is); (case hd => k_is); (case ha => k_is); (case hn => k_is); (case ht => k_is); (case hm => k_is); (case no => k_is); (case q0 => first | k_is | kit_is); (case q1 => first | k_is | kit_is); (case q2 => first | k_is | kit_is); (case q3 => first | k_is | kit_is); (case q4 => first | k_is | kit_is); (case q5 => first | k_is | kit_is); (case q6 => first | k_is | kit_is); (case q7 => first | k_is | kit_is); (case q8 => first | k_is | kit_is); (case q9 => first | k_is | kit_is); (case q10 => first | k_is | kit_is); (case q11 => first | k_is | kit_is); (case q12 => first | k_is | kit_is); (case q13 => first | k_is | kit_is); (case q14 => first | k_is | kit_is); (case q15 => first | k_is | kit_is); (case q16 => first | k_is | kit_is); (case q17 => first | k_is | kit_is); (case q18 => first | k_is | kit_is); (case ve => first | k_is | kit_is); (case u1 => k_is); (case u2 => k_is); (case u3 => k_is); (case u4 => k_is))
    (case r2 => refine' One.said2 ?hg ?hk ?hs ?hd ?ha ?hn ?ht ?hm ?no ?q0 ?q1 ?q2 ?q3 ?q4 ?q5 ?q6 ?q7 ?q8 ?q9 ?q10 ?q11 ?q12 ?q13 ?q14 ?q15 ?q16 ?q17 ?q18 ?ve ?u1 ?u2 ?u3 ?u4; (case hg => k_is); (case hk => k_is); (case hs => k_is); (case hd => k_is); (case ha => k_is); (case hn => k_is); (case ht => k_is); (case hm => k_is); (case no => k_is); (case q0 => first | k_is | kit_is); (case q1 => first | k_is | kit_is); (case q2 => first | k_is | kit_is); (case q3 => first | k_is | kit_is); (case q4 => first | k_is | kit_is); (case q5 => first | k_is | kit_is); (case q6 => first | k_is | kit_is); (case q7 => first | k_is | kit_is); (case q8 => first | k_is | kit_is); (case q9 => first | k_is | kit_is); (case q10 => first | k_is | kit_is); (case q11 => first | k_is | kit_is); (case q12 => first | k_is | kit_is); (case q13 => first | k_is | kit_is); (case q14 => first | k_is | kit_is); (case q15 => first | k_is | kit_is); (case q16 => first | k_is | kit_is); (case q17 => first | k_is | kit_is); (case q18 => first | k_is | kit_is); (case ve => first | k_is | kit_is); (case u1 => k_is); (case u2 => k_is); (case u3 => k_is); (case u4 => k_is))
    (case r3 => refine' One.said3 ?hg ?hk ?hs ?hd ?ha ?hn ?ht ?hm ?no ?q0 ?q1 ?q2 ?q3 ?q4 ?q5 ?q6 ?q7 ?q8 ?q9 ?q10 ?q11 ?q12 ?q13 ?q14 ?q15 ?q16 ?q17 ?q18 ?ve ?u1 ?u2 ?u3 ?u4; (case hg => k_is); (case hk => k_is); (case hs => k_is); (case hd => k_is); (case ha => k_is); (case hn => k_is); (case ht => k_is); (case hm => k_is); (case no => k_is); (case q0 => first | k_is | kit_is); (case q1 => first | k_is | kit_is); (case q2 => first | k_is | kit_is); (case q3 => first | k_is | kit_is); (case q4 => first | k_is | kit_is); (case q5 => first | k_is | kit_is); (case q6 => first | k_is | kit_is); (case q7 => first | k_is | kit_is); (case q8 => first | k_is | kit_is); (case q9 => first | k_is | kit_is); (case q10 => first | k_is | kit_is); (case q11 => first | k_is | kit_is); (case q12 => first | k_is | kit_is); (case q13 => first | k_is | kit_is); (case q14 => first | k_is | kit_is); (case q15 => first | k_is | kit_is); (case q16 => first | k_is | kit_is); (case q17 => first | k_is | kit_is); (case q18 => first | k_is | kit_is); (case ve => first | k_is | kit_is); (case u1 => k_is); (case u2 => k_is); (case u3 => k_is); (case u4 => k_is))
    (case lawNs => k_is)
    (case lawLk => k_is)
    (case lawCd => k_is)
    (case lawKp => k_is)
    (case tab_law_all_refuse => refine' One.tab_mkX ?ta ?tl ?tc ?tf ?tv; (case ta => k_is); (case tl => k_is); (case tc => rfl); (case tf => k_is); (case tv => rfl))
    (case ntab_law_all_refuse => first | rfl | kernel_rfl | decide +kernel)
    (case tab_law_is_let => refine' One.tab_mkX ?ta ?tl ?tc ?tf ?tv; (case ta => k_is); (case tl => k_is); (case tc => rfl); (case tf => k_is); (case tv => rfl))
    (case ntab_law_is_let => first | rfl | kernel_rfl | decide +kernel)
    (case tab_law_spots_right => refine' One.tab_mkX ?ta ?tl ?tc ?tf ?tv; (case ta => k_is); (case tl => k_is); (case tc => rfl); (case tf => k_is); (case tv => rfl))
    (case ntab_law_spots_right => first | rfl | kernel_rfl | decide +kernel)
    (case npAI => first | decide +kernel | (intro e; cases e))
    (case npAS => first | decide +kernel | (intro e; cases e))
    (case npIS => first | decide +kernel | (intro e; cases e))
