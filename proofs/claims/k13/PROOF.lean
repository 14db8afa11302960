import PyProof.Rows.All
import Wide.All
import OpenK.AllK
import Wide.FinOn
import HandS.ForMost
import HandS.Wide
import HandS.Codes
import HandS.Flow
import HandS.SortRule
import HandS.IsInst
import HandS.Conv
import HandS.TupLe
import KE.GoesMore
import HandS.Lambda
import HandS.ExcInit
import HandS.ExcIs
import HandS.ExcField
import HandS.ExcValue
import HandS.RaiseMore
import KE.KExcSuper
import HandS.WordsExc
import PyProof.ReprRoads
import PySem.Challenge.RW_oneround_k13_whole_across_and_sewn_out
import HandS.Walk
import HandS.Text
import HandS.Ends
import HandS.FStrTup
import HandS.Deep
import HandS.TupMul
import HandS.TupAny
import KE.DataCmp
import KE.SortData
import KE.KExcIs
import HandS.ExcSuper
import HandS.EndTab
set_option Elab.async false

section P_M1
set_option linter.all false
/-! Lines, yards: the mathematics of what a law's own growing and calling makes. -/
namespace One
/-- the ends of lines -/
def ends : List (Nat × Nat) → List Nat
  | [] => []
  | p :: r => p.1 :: p.2 :: ends r
/-- the items whose place, counted from k, is let by p -/
def keepIx {α : Type} (p : Nat → Bool) : Nat → List α → List α
  | _, [] => []
  | k, x :: r => if p k then x :: keepIx p (k + 1) r else keepIx p (k + 1) r
theorem ends_append : ∀ (a b : List (Nat × Nat)), ends (a ++ b) = ends a ++ ends b
  | [], _ => rfl
  | p :: r, b => by simp [ends, ends_append r b]
theorem ends_perm {a b : List (Nat × Nat)} (h : a.Perm b) : (ends a).Perm (ends b) := by
  induction h with
  | nil => exact .refl _
  | cons x _ ih => exact .cons _ (.cons _ ih)
  | swap x y l => 
    show (y.1 :: y.2 :: x.1 :: x.2 :: ends l).Perm (x.1 :: x.2 :: y.1 :: y.2 :: ends l)
    have : ([y.1, y.2] ++ ([x.1, x.2] ++ ends l)).Perm ([x.1, x.2] ++ ([y.1, y.2] ++ ends l)) := by
      rw [← List.append_assoc, ← List.append_assoc]
      exact List.Perm.append_right _ List.perm_append_comm
    exact this
  | trans _ _ i j => exact i.trans j
theorem ends_length : ∀ a : List (Nat × Nat), (ends a).length = 2 * a.length
  | [] => rfl
  | p :: r => by simp [ends, ends_length r]; omega
theorem mem_ends : ∀ {a : List (Nat × Nat)} {e : Nat}, e ∈ ends a ↔ ∃ p ∈ a, e = p.1 ∨ e = p.2
  | [], e => by simp [ends]
  | p :: r, e => by
    simp only [ends, List.mem_cons, mem_ends (a := r)]
    constructor
    · rintro (h | h | ⟨q, hq, h⟩)
      · exact ⟨p, .inl rfl, .inl h⟩
      · exact ⟨p, .inl rfl, .inr h⟩
      · exact ⟨q, .inr hq, h⟩
    · rintro ⟨q, rfl | hq, h⟩
      · rcases h with h | h
        · exact .inl h
        · exact .inr (.inl h)
      · exact .inr (.inr ⟨q, hq, h⟩)
theorem keepIx_length_le {α : Type} (p : Nat → Bool) : ∀ (k : Nat) (l : List α), (keepIx p k l).length ≤ l.length
  | _, [] => Nat.le_refl _
  | k, x :: r => by
    unfold keepIx
    have := keepIx_length_le p (k + 1) r
    split <;> simp <;> omega
theorem keepIx_snoc {α : Type} (p : Nat → Bool) : ∀ (k : Nat) (l : List α) (x : α), keepIx p k (l ++ [x]) = keepIx p k l ++ (if p (k + l.length) then [x] else [])
  | k, [], x => by simp [keepIx]
  | k, y :: r, x => by
    simp only [List.cons_append, keepIx, keepIx_snoc p (k + 1) r x, List.length_cons]
    have : k + 1 + r.length = k + (r.length + 1) := by omega
    rw [this]
    split <;> simp
theorem keepIx_congr {α : Type} {p q : Nat → Bool} : ∀ (k : Nat) (l : List α), (∀ m, k ≤ m → p m = q m) → keepIx p k l = keepIx q k l
  | _, [], _ => rfl
  | k, x :: r, h => by
    unfold keepIx
    rw [h k (Nat.le_refl _), keepIx_congr (k + 1) r (fun m hm => h m (by omega))]
theorem keepIx_out {α : Type} (p : Nat → Bool) : ∀ (k i : Nat) (l : List α) (x : α), l[i]? = some x → p (k + i) = true → (keepIx p k l).Perm (x :: keepIx (fun m => p m && !decide (m = k + i)) k l)
  | k, _, [], x, h, _ => by simp at h
  | k, 0, y :: r, x, h, hp => by
    have e : y = x := Option.some.inj h
    subst e
    have hp' : p k = true := hp
    simp only [keepIx, hp', Nat.add_zero, decide_true, Bool.not_true, Bool.and_false, if_true]
    refine .cons _ ?_
    have e : keepIx (fun m => p m && !decide (m = k)) (k + 1) r = keepIx p (k + 1) r := keepIx_congr (k + 1) r fun m hm => by
      have : ¬ m = k := by omega
      simp [this]
    simp [e]
  | k, i + 1, y :: r, x, h, hp => by
    have ih := keepIx_out p (k + 1) i r x (by simpa using h) (by rw [show k + 1 + i = k + (i + 1) by omega]; exact hp)
    have hk : ¬ k = k + (i + 1) := by omega
    simp only [keepIx, hk, decide_false, Bool.not_false, Bool.and_true]
    rw [show (fun m => p m && !decide (m = k + (i + 1))) = (fun m => p m && !decide (m = k + 1 + i)) by funext m; rw [show k + (i + 1) = k + 1 + i by omega]]
    split
    · exact (List.Perm.cons _ ih).trans (.swap _ _ _)
    · exact ih
theorem keepIx_all {α : Type} : ∀ (k : Nat) (l : List α), keepIx (fun _ => true) k l = l
  | _, [] => rfl
  | k, x :: r => by simp [keepIx, keepIx_all (k + 1) r]
/-- lines of n crossings: each end in just one of them -/
structure Lines (n : Nat) (ps : List (Nat × Nat)) : Prop where
  len : ps.length = 2 * n
  nd : (ends ps).Nodup
  lt : ∀ e ∈ ends ps, e < 4 * n
/-- all hangs together: what is closed under lines and has crossing 0 has all -/
def Whole (n : Nat) (ps : List (Nat × Nat)) : Prop := ∀ P : Nat → Prop, (∀ p ∈ ps, P (p.1 / 4) ↔ P (p.2 / 4)) → P 0 → ∀ c, c < n → P c
theorem Whole.from {n : Nat} {ps : List (Nat × Nat)} (w : Whole n ps) {P : Nat → Prop} (h : ∀ p ∈ ps, P (p.1 / 4) ↔ P (p.2 / 4)) {a : Nat} (ha : a < n) (hp : P a) {c : Nat} (hc : c < n) : P c := by
  by_cases h0 : P 0
  · exact w P h h0 c hc
  · exact absurd hp (w (fun x => ¬ P x) (fun p m => not_congr (h p m)) h0 a ha)
theorem Whole.perm {n : Nat} {ps qs : List (Nat × Nat)} (w : Whole n ps) (h : ps.Perm qs) : Whole n qs := fun P hP h0 c hc => w P (fun p m => hP p (h.mem_iff.mp m)) h0 c hc
theorem Lines.perm {n : Nat} {ps qs : List (Nat × Nat)} (w : Lines n ps) (h : ps.Perm qs) : Lines n qs :=
  ⟨h.length_eq ▸ w.len, (ends_perm h).nodup_iff.mp w.nd, fun e m => w.lt e ((ends_perm h).mem_iff.mpr m)⟩
/-- the fresh lines of crossing n put across two lines, or twice across one -/
def fresh (n : Nat) (i j : Nat) (a b : Nat × Nat) : List (Nat × Nat) :=
  if i = j then [(a.1, 4 * n), (4 * n + 1, 4 * n + 2), (a.2, 4 * n + 3)] else [(a.1, 4 * n), (a.2, 4 * n + 2), (b.1, 4 * n + 1), (b.2, 4 * n + 3)]
/-- the places but two -/
def notIJ (i j : Nat) : Nat → Bool := fun m => !decide (m = i) && !decide (m = j)
def putOn (n : Nat) (ps : List (Nat × Nat)) (i j : Nat) (a b : Nat × Nat) : List (Nat × Nat) := keepIx (notIJ i j) 0 ps ++ fresh n i j a b
theorem keep_one {α : Type} {ps : List α} {i : Nat} {a : α} (ha : ps[i]? = some a) : ps.Perm (a :: keepIx (notIJ i i) 0 ps) := by
  have h := keepIx_out (fun _ => true) 0 i ps a ha rfl
  rw [keepIx_all] at h
  refine h.trans ?_
  rw [keepIx_congr (q := notIJ i i) 0 ps fun m _ => by simp [notIJ]]
theorem keep_two {α : Type} {ps : List α} {i j : Nat} {a b : α} (hij : i ≠ j) (ha : ps[i]? = some a) (hb : ps[j]? = some b) : ps.Perm (a :: b :: keepIx (notIJ i j) 0 ps) := by
  have h := keepIx_out (fun _ => true) 0 i ps a ha rfl
  rw [keepIx_all] at h
  refine h.trans (.cons _ ?_)
  have h2 := keepIx_out (fun m => true && !decide (m = 0 + i)) 0 j ps b hb (by simp; omega)
  refine h2.trans ?_
  rw [keepIx_congr (q := notIJ i j) 0 ps fun m _ => by simp [notIJ]]
theorem mem_keep {α : Type} (p : Nat → Bool) : ∀ (k : Nat) (l : List α) (x : α), x ∈ keepIx p k l → x ∈ l
  | _, [], _, h => h
  | k, y :: r, x, h => by
    unfold keepIx at h
    split at h
    · rcases List.mem_cons.mp h with e | h
      · exact List.mem_cons.mpr (.inl e)
      · exact List.mem_cons.mpr (.inr (mem_keep p (k + 1) r x h))
    · exact List.mem_cons.mpr (.inr (mem_keep p (k + 1) r x h))
theorem put_ends {n : Nat} {ps : List (Nat × Nat)} {i j : Nat} {a b : Nat × Nat} (ha : ps[i]? = some a) (hb : ps[j]? = some b) :
    (ends (putOn n ps i j a b)).Perm (ends ps ++ [4 * n, 4 * n + 1, 4 * n + 2, 4 * n + 3]) := by
  unfold putOn
  rw [ends_append]
  unfold fresh
  by_cases hij : i = j
  · subst hij
    rw [if_pos rfl]
    have h := ends_perm (keep_one ha)
    refine List.Perm.trans ?_ (List.Perm.append_right _ h.symm)
    show (ends (keepIx (notIJ i i) 0 ps) ++ [a.1, 4 * n, 4 * n + 1, 4 * n + 2, a.2, 4 * n + 3]).Perm ((a.1 :: a.2 :: ends (keepIx (notIJ i i) 0 ps)) ++ [4 * n, 4 * n + 1, 4 * n + 2, 4 * n + 3])
    refine List.perm_iff_count.mpr fun x => ?_
    simp only [List.count_append, List.count_cons, List.count_nil]
    omega
  · rw [if_neg hij]
    have h := ends_perm (keep_two hij ha hb)
    refine List.Perm.trans ?_ (List.Perm.append_right _ h.symm)
    show (ends (keepIx (notIJ i j) 0 ps) ++ [a.1, 4 * n, a.2, 4 * n + 2, b.1, 4 * n + 1, b.2, 4 * n + 3]).Perm ((a.1 :: a.2 :: b.1 :: b.2 :: ends (keepIx (notIJ i j) 0 ps)) ++ [4 * n, 4 * n + 1, 4 * n + 2, 4 * n + 3])
    refine List.perm_iff_count.mpr fun x => ?_
    simp only [List.count_append, List.count_cons, List.count_nil]
    omega
theorem put_len {n : Nat} {ps : List (Nat × Nat)} {i j : Nat} {a b : Nat × Nat} (ha : ps[i]? = some a) (hb : ps[j]? = some b) : (putOn n ps i j a b).length = ps.length + 2 := by
  have h := (put_ends (n := n) ha hb).length_eq
  rw [List.length_append, ends_length, ends_length] at h
  simp at h
  omega
theorem put_lines {n : Nat} {ps : List (Nat × Nat)} {i j : Nat} {a b : Nat × Nat} (L : Lines n ps) (ha : ps[i]? = some a) (hb : ps[j]? = some b) : Lines (n + 1) (putOn n ps i j a b) := by
  have hp := put_ends (n := n) ha hb
  refine ⟨by rw [put_len ha hb, L.len]; omega, hp.nodup_iff.mpr (List.nodup_append.mpr ⟨L.nd, ?_, fun x hx y hy => ?_⟩), fun e he => ?_⟩
  · simp
  · have := L.lt x hx
    simp at hy
    omega
  · rcases List.mem_append.mp (hp.mem_iff.mp he) with h | h
    · have := L.lt e h
      omega
    · simp at h
      omega
theorem put_whole {n : Nat} {ps : List (Nat × Nat)} {i j : Nat} {a b : Nat × Nat} (hn : 0 < n) (L : Lines n ps) (w : Whole n ps) (ha : ps[i]? = some a) (hb : ps[j]? = some b) : Whole (n + 1) (putOn n ps i j a b) := by
  intro P hP h0
  have old : ∀ p ∈ keepIx (notIJ i j) 0 ps, P (p.1 / 4) ↔ P (p.2 / 4) := fun p m => hP p (List.mem_append.mpr (.inl m))
  have d0 : 4 * n / 4 = n := by omega
  have d1 : (4 * n + 1) / 4 = n := by omega
  have d2 : (4 * n + 2) / 4 = n := by omega
  have d3 : (4 * n + 3) / 4 = n := by omega
  have new : ∀ p ∈ fresh n i j a b, P (p.1 / 4) ↔ P (p.2 / 4) := fun p m => hP p (List.mem_append.mpr (.inr m))
  have hA : (P (a.1 / 4) ↔ P n) ∧ (P (a.2 / 4) ↔ P n) ∧ (i ≠ j → (P (b.1 / 4) ↔ P n) ∧ (P (b.2 / 4) ↔ P n)) := by
    unfold fresh at new
    by_cases hij : i = j
    · rw [if_pos hij] at new
      have q1 := new (a.1, 4 * n) (by simp)
      have q2 := new (a.2, 4 * n + 3) (by simp)
      simp only [d0, d3] at q1 q2
      exact ⟨q1, q2, fun z => absurd hij z⟩
    · rw [if_neg hij] at new
      have q1 := new (a.1, 4 * n) (by simp)
      have q2 := new (a.2, 4 * n + 2) (by simp)
      have q3 := new (b.1, 4 * n + 1) (by simp)
      have q4 := new (b.2, 4 * n + 3) (by simp)
      simp only [d0, d1, d2, d3] at q1 q2 q3 q4
      exact ⟨q1, q2, fun _ => ⟨q3, q4⟩⟩
  have clo : ∀ p ∈ ps, P (p.1 / 4) ↔ P (p.2 / 4) := by
    intro p m
    by_cases hij : i = j
    · subst hij
      rcases List.mem_cons.mp ((keep_one ha).mem_iff.mp m) with e | m
      · subst e
        exact hA.1.trans hA.2.1.symm
      · exact old p m
    · rcases List.mem_cons.mp ((keep_two hij ha hb).mem_iff.mp m) with e | m
      · subst e
        exact hA.1.trans hA.2.1.symm
      · rcases List.mem_cons.mp m with e | m
        · subst e
          exact (hA.2.2 hij).1.trans (hA.2.2 hij).2.symm
        · exact old p m
  have all := w P clo h0
  intro c hc
  by_cases h : c < n
  · exact all c h
  · have e : c = n := by omega
    subst e
    have am : a.1 ∈ ends ps := mem_ends.mpr ⟨a, List.mem_of_getElem? ha, .inl rfl⟩
    have := L.lt _ am
    exact hA.1.mp (all _ (by omega))
end One
end P_M1

section P_M2
set_option linter.all false
namespace One
/-- what a law's own growing makes -/
structure Grown (n : Nat) (ps : List (Nat × Nat)) : Prop where
  pos : 0 < n
  lines : Lines n ps
  whole : Whole n ps
theorem grown_one {a b c d : Nat} (h : [a, b, c, d].Perm [0, 1, 2, 3]) : Grown 1 [(a, b), (c, d)] := by
  refine ⟨by decide, ⟨rfl, h.nodup_iff.mpr (by decide), fun e he => ?_⟩, fun P _ h0 x hx => ?_⟩
  · have := h.mem_iff.mp he
    simp at this
    omega
  · have e : x = 0 := by omega
    subst e
    exact h0
theorem Grown.put {n : Nat} {ps : List (Nat × Nat)} {i j : Nat} {a b : Nat × Nat} (g : Grown n ps) (ha : ps[i]? = some a) (hb : ps[j]? = some b) : Grown (n + 1) (putOn n ps i j a b) :=
  ⟨by omega, put_lines g.lines ha hb, put_whole g.pos g.lines g.whole ha hb⟩
/-- how ends are called otherwise, crossing by crossing -/
structure Called (n : Nat) (ns : List Nat) : Prop where
  perm : ns.Perm (List.range (4 * n))
  blk : ∀ i j, i < 4 * n → j < 4 * n → i / 4 = j / 4 → ns.getD i 0 / 4 = ns.getD j 0 / 4
theorem Called.len {n : Nat} {ns : List Nat} (c : Called n ns) : ns.length = 4 * n := by rw [c.perm.length_eq, List.length_range]
theorem Called.lt {n : Nat} {ns : List Nat} (c : Called n ns) {i : Nat} (hi : i < 4 * n) : ns.getD i 0 < 4 * n := by
  have h : i < ns.length := by rw [c.len]; exact hi
  rw [List.getD_eq_getElem?_getD, List.getElem?_eq_getElem h, Option.getD_some]
  exact List.mem_range.mp (c.perm.mem_iff.mp (List.getElem_mem h))
theorem Called.inj {n : Nat} {ns : List Nat} (c : Called n ns) {i j : Nat} (hi : i < 4 * n) (hj : j < 4 * n) (e : ns.getD i 0 = ns.getD j 0) : i = j := by
  have h1 : i < ns.length := by rw [c.len]; exact hi
  have h2 : j < ns.length := by rw [c.len]; exact hj
  rw [List.getD_eq_getElem?_getD, List.getElem?_eq_getElem h1, Option.getD_some, List.getD_eq_getElem?_getD, List.getElem?_eq_getElem h2, Option.getD_some] at e
  exact (List.getElem_inj (c.perm.nodup_iff.mpr List.nodup_range)).mp e
theorem Called.onto {n : Nat} {ns : List Nat} (c : Called n ns) {x : Nat} (hx : x < 4 * n) : ∃ i, i < 4 * n ∧ ns.getD i 0 = x := by
  have h := c.perm.mem_iff.mpr (List.mem_range.mpr hx)
  obtain ⟨i, hi, e⟩ := List.mem_iff_getElem.mp h
  refine ⟨i, by rw [← c.len]; exact hi, ?_⟩
  rw [List.getD_eq_getElem?_getD, List.getElem?_eq_getElem hi, Option.getD_some, e]
/-- a line, the lesser end ahead -/
def low (x y : Nat) : Nat × Nat := if y < x then (y, x) else (x, y)
def callL (ns : List Nat) (p : Nat × Nat) : Nat × Nat := low (ns.getD p.1 0) (ns.getD p.2 0)
theorem low_mem (x y : Nat) : ∀ e, (e = (low x y).1 ∨ e = (low x y).2) ↔ (e = x ∨ e = y) := by
  intro e
  unfold low
  split
  · exact Or.comm
  · exact Iff.rfl
theorem ends_map (ns : List Nat) : ∀ ps : List (Nat × Nat), (ends (ps.map (callL ns))).Perm ((ends ps).map fun e => ns.getD e 0)
  | [] => .refl _
  | p :: r => by
    have ih := ends_map ns r
    show ((callL ns p).1 :: (callL ns p).2 :: ends (r.map (callL ns))).Perm (ns.getD p.1 0 :: ns.getD p.2 0 :: (ends r).map fun e => ns.getD e 0)
    unfold callL low
    split
    · exact (List.Perm.swap _ _ _).trans (.cons _ (.cons _ ih))
    · exact .cons _ (.cons _ ih)
theorem nodup_map_on {α β : Type} {f : α → β} : ∀ {l : List α}, (∀ x ∈ l, ∀ y ∈ l, f x = f y → x = y) → l.Nodup → (l.map f).Nodup
  | [], _, _ => List.nodup_nil
  | a :: r, h, hn => by
    obtain ⟨h1, h2⟩ := List.nodup_cons.mp hn
    refine List.nodup_cons.mpr ⟨fun m => ?_, nodup_map_on (fun x hx y hy => h x (List.mem_cons.mpr (.inr hx)) y (List.mem_cons.mpr (.inr hy))) h2⟩
    obtain ⟨y, hy, e⟩ := List.mem_map.mp m
    have := h y (List.mem_cons.mpr (.inr hy)) a (List.mem_cons.mpr (.inl rfl)) e
    exact h1 (this ▸ hy)
theorem called_lines {n : Nat} {ps : List (Nat × Nat)} {ns : List Nat} (L : Lines n ps) (c : Called n ns) : Lines n (ps.map (callL ns)) := by
  have hp := ends_map ns ps
  refine ⟨by rw [List.length_map]; exact L.len, hp.nodup_iff.mpr (nodup_map_on (fun x hx y hy e => c.inj (L.lt x hx) (L.lt y hy) e) L.nd), fun e he => ?_⟩
  obtain ⟨x, hx, rfl⟩ := List.mem_map.mp (hp.mem_iff.mp he)
  exact c.lt (L.lt x hx)
theorem called_whole {n : Nat} {ps : List (Nat × Nat)} {ns : List Nat} (hn : 0 < n) (L : Lines n ps) (w : Whole n ps) (c : Called n ns) : Whole n (ps.map (callL ns)) := by
  intro P hP h0 x hx
  have clo : ∀ p ∈ ps, P (ns.getD (4 * (p.1 / 4)) 0 / 4) ↔ P (ns.getD (4 * (p.2 / 4)) 0 / 4) := by
    intro p m
    have l1 := L.lt p.1 (mem_ends.mpr ⟨p, m, .inl rfl⟩)
    have l2 := L.lt p.2 (mem_ends.mpr ⟨p, m, .inr rfl⟩)
    rw [c.blk (4 * (p.1 / 4)) p.1 (by omega) l1 (by omega), c.blk (4 * (p.2 / 4)) p.2 (by omega) l2 (by omega)]
    have q := hP (callL ns p) (List.mem_map.mpr ⟨p, m, rfl⟩)
    unfold callL low at q
    split at q
    · exact q.symm
    · exact q
  obtain ⟨i, hi, ei⟩ := c.onto (x := 0) (by omega)
  obtain ⟨j, hj, ej⟩ := c.onto (x := 4 * x) (by omega)
  have start : P (ns.getD (4 * (i / 4)) 0 / 4) := by
    rw [c.blk (4 * (i / 4)) i (by omega) hi (by omega), ei]
    exact h0
  have all := w.from (P := fun k => P (ns.getD (4 * k) 0 / 4)) clo (a := i / 4) (by omega) start (c := j / 4) (by omega)
  have all : P (ns.getD (4 * (j / 4)) 0 / 4) := all
  rw [c.blk (4 * (j / 4)) j (by omega) hj (by omega), ej] at all
  rw [show 4 * x / 4 = x by omega] at all
  exact all
/-- pairs in order -/
def ltP (p q : Nat × Nat) : Prop := p.1 < q.1 ∨ (p.1 = q.1 ∧ p.2 < q.2)
def leP (p q : Nat × Nat) : Prop := p.1 < q.1 ∨ (p.1 = q.1 ∧ p.2 ≤ q.2)
/-- a yard of n crossings -/
structure Yard (n : Nat) (L : List (Nat × Nat)) : Prop where
  pos : 0 < n
  lines : Lines n L
  whole : Whole n L
  up : L.Pairwise ltP
  low : ∀ p ∈ L, p.1 < p.2
theorem nodup_firsts : ∀ {L : List (Nat × Nat)}, (ends L).Nodup → L.Pairwise fun p q => p.1 ≠ q.1 ∧ p.1 ≠ q.2 ∧ p.2 ≠ q.1 ∧ p.2 ≠ q.2
  | [], _ => .nil
  | p :: r, h => by
    have h : (p.1 :: p.2 :: ends r).Nodup := h
    obtain ⟨h1, h2⟩ := List.nodup_cons.mp h
    obtain ⟨h3, h4⟩ := List.nodup_cons.mp h2
    refine List.pairwise_cons.mpr ⟨fun q hq => ?_, nodup_firsts h4⟩
    have m1 : q.1 ∈ ends r := mem_ends.mpr ⟨q, hq, .inl rfl⟩
    have m2 : q.2 ∈ ends r := mem_ends.mpr ⟨q, hq, .inr rfl⟩
    exact ⟨fun e => h1 (List.mem_cons.mpr (.inr (e ▸ m1))), fun e => h1 (List.mem_cons.mpr (.inr (e ▸ m2))), fun e => h3 (e ▸ m1), fun e => h3 (e ▸ m2)⟩
theorem nodup_pair : ∀ {L : List (Nat × Nat)}, (ends L).Nodup → ∀ p ∈ L, p.1 ≠ p.2
  | p :: r, h, q, m => by
    have h : (p.1 :: p.2 :: ends r).Nodup := h
    obtain ⟨h1, h2⟩ := List.nodup_cons.mp h
    rcases List.mem_cons.mp m with e | m
    · subst e
      exact fun e => h1 (List.mem_cons.mpr (.inl e))
    · exact nodup_pair (List.nodup_cons.mp h2).2 q m
/-- lines with the lesser ends ahead, sorted, are a yard -/
theorem yard_of_sorted {n : Nat} {L M : List (Nat × Nat)} (hn : 0 < n) (hL : Lines n L) (w : Whole n L) (hl : ∀ p ∈ L, p.1 ≤ p.2) (hp : M.Perm L) (hs : M.Pairwise leP) : Yard n M := by
  have hM := hL.perm hp.symm
  refine ⟨hn, hM, w.perm hp.symm, ?_, fun p m => ?_⟩
  · refine (hs.and (nodup_firsts hM.nd)).imp ?_
    rintro p q ⟨h1, h2, _⟩
    rcases h1 with h1 | ⟨h1, _⟩
    · exact .inl h1
    · exact absurd h1 h2
  · have h1 := hl p (hp.mem_iff.mp m)
    have h2 := nodup_pair hM.nd p m
    omega
theorem low_le (x y : Nat) : (low x y).1 ≤ (low x y).2 := by
  unfold low
  split <;> simp <;> omega
theorem called_yard {n : Nat} {ps M : List (Nat × Nat)} {ns : List Nat} (g : Grown n ps) (c : Called n ns) (hp : M.Perm (ps.map (callL ns))) (hs : M.Pairwise leP) : Yard n M :=
  yard_of_sorted g.pos (called_lines g.lines c) (called_whole g.pos g.lines g.whole c) (fun p m => by
    obtain ⟨q, _, rfl⟩ := List.mem_map.mp m
    exact low_le _ _) hp hs
/-! ### the calling, block by block -/
def blocks : List (Nat × List Nat) → List Nat
  | [] => []
  | b :: r => b.2.map (fun p => 4 * b.1 + p) ++ blocks r
theorem blocks_snoc : ∀ (l : List (Nat × List Nat)) (b : Nat × List Nat), blocks (l ++ [b]) = blocks l ++ b.2.map (fun p => 4 * b.1 + p)
  | [], b => by simp [blocks]
  | a :: r, b => by simp [blocks, blocks_snoc r b]
theorem blocks_len : ∀ {l : List (Nat × List Nat)}, (∀ b ∈ l, b.2.length = 4) → (blocks l).length = 4 * l.length
  | [], _ => rfl
  | a :: r, h => by
    have h1 := h a (List.mem_cons.mpr (.inl rfl))
    have h2 := blocks_len (l := r) fun b hb => h b (List.mem_cons.mpr (.inr hb))
    simp [blocks, h1, h2]
    omega
theorem blocks_get : ∀ {l : List (Nat × List Nat)}, (∀ b ∈ l, b.2.Perm [0, 1, 2, 3]) → ∀ i, i < 4 * l.length → ∃ b ∈ l, l[i / 4]? = some b ∧ (blocks l).getD i 0 / 4 = b.1
  | [], _, i, hi => by simp at hi
  | a :: r, h, i, hi => by
    have ha := h a (List.mem_cons.mpr (.inl rfl))
    have hlen : (a.2.map (fun p => 4 * a.1 + p)).length = 4 := by rw [List.length_map, ha.length_eq]; rfl
    by_cases hi4 : i < 4
    · refine ⟨a, List.mem_cons.mpr (.inl rfl), by rw [show i / 4 = 0 by omega]; rfl, ?_⟩
      have hx : i < a.2.length := by rw [ha.length_eq]; exact hi4
      have hm := ha.mem_iff.mp (List.getElem_mem hx)
      have e : (blocks (a :: r)).getD i 0 = 4 * a.1 + a.2[i] := by
        show (a.2.map (fun p => 4 * a.1 + p) ++ blocks r).getD i 0 = _
        rw [List.getD_eq_getElem?_getD, List.getElem?_append_left (by rw [hlen]; exact hi4), List.getElem?_map, List.getElem?_eq_getElem hx]
        rfl
      rw [e]
      simp at hm
      omega
    · have hi' : i - 4 < 4 * r.length := by simp at hi; omega
      obtain ⟨b, hb, h1, h2⟩ := blocks_get (l := r) (fun b hb => h b (List.mem_cons.mpr (.inr hb))) (i - 4) hi'
      refine ⟨b, List.mem_cons.mpr (.inr hb), ?_, ?_⟩
      · rw [show i / 4 = (i - 4) / 4 + 1 by omega]
        exact h1
      · have e : (blocks (a :: r)).getD i 0 = (blocks r).getD (i - 4) 0 := by
          show (a.2.map (fun p => 4 * a.1 + p) ++ blocks r).getD i 0 = _
          rw [List.getD_eq_getElem?_getD, List.getElem?_append_right (by rw [hlen]; omega), hlen, List.getD_eq_getElem?_getD]
        rw [e]
        exact h2
theorem blocks_perm : ∀ {l m : List (Nat × List Nat)}, l.Perm m → (blocks l).Perm (blocks m) := fun h => by
  induction h with
  | nil => exact .refl _
  | cons x _ ih => exact List.Perm.append_left _ ih
  | swap x y l =>
    show (y.2.map (fun p => 4 * y.1 + p) ++ (x.2.map (fun p => 4 * x.1 + p) ++ blocks l)).Perm (x.2.map (fun p => 4 * x.1 + p) ++ (y.2.map (fun p => 4 * y.1 + p) ++ blocks l))
    rw [← List.append_assoc, ← List.append_assoc]
    exact List.Perm.append_right _ List.perm_append_comm
  | trans _ _ i j => exact i.trans j
theorem blocks_std : ∀ (l : List (Nat × List Nat)), (∀ b ∈ l, b.2.Perm [0, 1, 2, 3]) → (blocks l).Perm (blocks (l.map fun b => (b.1, [0, 1, 2, 3])))
  | [], _ => .refl _
  | a :: r, h => List.Perm.append (List.Perm.map _ (h a (List.mem_cons.mpr (.inl rfl)))) (blocks_std r fun b hb => h b (List.mem_cons.mpr (.inr hb)))
theorem blocks_range : ∀ n : Nat, blocks ((List.range n).map fun c => (c, [0, 1, 2, 3])) = List.range (4 * n)
  | 0 => rfl
  | n + 1 => by
    rw [List.range_succ, List.map_append, List.map_cons, List.map_nil, blocks_snoc, blocks_range n, show 4 * (n + 1) = 4 * n + 4 by omega]
    rw [show 4 * n + 4 = (4 * n + 3) + 1 by omega, List.range_succ, show 4 * n + 3 = (4 * n + 2) + 1 by omega, List.range_succ, show 4 * n + 2 = (4 * n + 1) + 1 by omega, List.range_succ, List.range_succ]
    simp
theorem called_of_blocks {n : Nat} {l : List (Nat × List Nat)} (hp : (l.map Prod.fst).Perm (List.range n)) (hb : ∀ b ∈ l, b.2.Perm [0, 1, 2, 3]) : Called n (blocks l) := by
  have hlen : l.length = n := by rw [← List.length_map (f := Prod.fst) (as := l), hp.length_eq, List.length_range]
  refine ⟨?_, fun i j hi hj e => ?_⟩
  · refine (blocks_std l hb).trans ?_
    rw [← blocks_range n]
    refine blocks_perm ?_
    rw [show (fun b : Nat × List Nat => (b.1, [0, 1, 2, 3])) = (fun c => (c, [0, 1, 2, 3])) ∘ Prod.fst from rfl, ← List.map_map]
    exact List.Perm.map _ hp
  · obtain ⟨b, _, h1, h2⟩ := blocks_get hb i (by rw [hlen]; exact hi)
    obtain ⟨d, _, h3, h4⟩ := blocks_get hb j (by rw [hlen]; exact hj)
    rw [e, h3] at h1
    cases h1
    rw [h2, h4]
end One
end P_M2

section P_N0
set_option linter.all false
set_option maxRecDepth 100000
set_option maxHeartbeats 4000000
namespace One
open PySem PySem.Spec PyProof.Rows L2
def top (i : Nat) : Stmt := PySem.Challenge.pw_oneround_k13_whole_across_and_sewn_out.main.body.getD i (.Pass ⟨0, 0, 0, 0⟩)

/-! ### a list that is only read, with a list behind it -/
theorem add_read (l : Addr) (items : Array Value) (n : Nat) (sl : Array (Option Value)) (b : Addr) (items2 : Array Value) (n2 : Nat) (hc0 : items.size + items2.size ≤ sizeLine) :
    Meets (Builtin.«list.__add__» ⟨[.ref l, .ref b], []⟩) (fun _ R s => s.heap.get? l = some ⟨.type "list", none, .seq items n, sl⟩ ∧ s.heap.get? b = some ⟨.type "list", none, .seq items2 n2, #[]⟩ ∧
      R (.ok (.ret (Value.ref s.heap.objs.size))) { s with heap := s.heap.push { cls := Value.type "list", data := Data.seq (items ++ items2) }, toks := s.toks }) :=
  .of_wp fun prog w A R s h => by
    obtain ⟨hp, g, d, tk, os⟩ := s
    obtain ⟨hl, hb, h⟩ := h
    have f1 := PySem.AutoSeq1.idx_int
    have f3 := PySem.AutoSeq1.sub_list_list
    wp_walk using PySem.AutoSeq1.wpAny_loadPart' hl, PySem.AutoSeq1.wpAny_loadPart' hb
    exact ⟨_, rfl, h⟩
section
variable {X : Cx}
def rCatS (K : PySem.W.Frag) : R2 := fun x y H Q => ∃ l b xs zs, x = .ref l ∧ y = .ref b ∧ SqL K H l xs ∧ H b = some (.lst zs) ∧ xs.length + zs.length ≤ sizeLine ∧ ∀ p, H p = none → Q (.ref p) (upd H p (.lst (xs ++ zs)))
theorem op_catS : OpR X (binaryOp .Add) (rCatS X.K) := by
  intro pins s σ H x y v u Q I rx ry h
  obtain ⟨l, b, xs, zs, rfl, rfl, hS, hB, hz, q⟩ := h
  cases rx
  cases ry
  obtain ⟨its, r, ⟨⟨oc, od, oda, osl⟩, n, e, ec, ed, edd⟩, hl⟩ := I.list hS
  dsimp only at ec ed edd
  subst ec ed edd
  obtain ⟨z2, its2, n2, r2, hl2, e2⟩ := I.lstM hB
  have ha : s.TypeIs (.ref l) "list" := ⟨_, e, rfl⟩
  have hb : s.TypeIs (.ref b) "list" := ⟨_, e2, rfl⟩
  have hsz : its.toArray.size + its2.toArray.size ≤ sizeLine := by
    rw [List.size_toArray, List.size_toArray, ← r.length, ← r2.length]
    exact hz
  refine PySem.concat_meets ha hb PySem.noFill_list_add PySem.seq_list_add F.slot_list_add F.entry_list_add (F.args_list_add_2 _ _) (add_read l its.toArray n osl b its2.toArray n2 hsz) ⟨e, e2, ?_⟩
  have ea : its.toArray ++ its2.toArray = (its ++ its2).toArray := by simp
  rw [ea]
  exact ⟨.ref _, _, I.lnew (t' := s.toks) (r.append r2) (by rw [List.length_append]; exact hz), rfl, q _ I.fresh⟩
end
/-- all but p stands as it stood -/
def But (p : Addr) (H H' : Hp) : Prop := ∀ b, b ≠ p → H' b = H b
/-- all that stood but p stands as it stood -/
def Ext (p : Addr) (H H' : Hp) : Prop := ∀ b o, b ≠ p → H b = some o → H' b = some o
theorem But.ext {p : Addr} {H H' : Hp} (h : But p H H') : Ext p H H' := fun b o hb e => (h b hb).trans e
theorem But.trans {p : Addr} {H H1 H2 : Hp} (h : But p H H1) (k : But p H1 H2) : But p H H2 := fun b hb => (k b hb).trans (h b hb)
theorem Ext.refl (p : Addr) (H : Hp) : Ext p H H := fun _ _ _ e => e
theorem Ext.trans {p : Addr} {H H1 H2 : Hp} (h : Ext p H H1) (k : Ext p H1 H2) : Ext p H H2 := fun b o hb e => k b o hb (h b o hb e)
theorem Ext.same {p : Addr} {H H1 : Hp} (h : Same H H1) : Ext p H H1 := fun b o _ e => h b o e
theorem Ext.new {p q : Addr} {H : Hp} {o : HO} (h : H q = none) : Ext p H (upd H q o) := fun b u _ e => by
  rw [upd_ne (ne_of_none e h)]
  exact e
/-- the names that the program's top leaves to the built-ins -/
structure TB (mg : Str → Option Value) : Prop where
  len : mg "len" = none
  range : mg "range" = none
  tuple : mg "tuple" = none
  list : mg "list" = none
  sorted : mg "sorted" = none
  enumerate : mg "enumerate" = none
  isinstance : mg "isinstance" = none
  int : mg "int" = none
  bool : mg "bool" = none
  repr : mg "repr" = none
  all : mg "all" = none
theorem get_cell {cells : List Int} {i : Int} (h0 : 0 ≤ i) (h1 : i < (cells.length : Int)) : ∃ z, atI (cells.map V.int) i = some (V.int z) := by
  have hlt : i.toNat < cells.length := by omega
  refine ⟨cells[i.toNat], at_of (j := i.toNat) (by omega) ?_⟩
  rw [List.getElem?_map, List.getElem?_eq_getElem hlt]
  rfl
theorem But.upd {p : Addr} {H H' : Hp} {o : HO} (h : But p H H') : But p H (upd H' p o) := fun b hb => (upd_ne hb).trans (h b hb)
/-- a test, then what comes of it, with a word between them -/
def tMid (t : TT) : TT := fun σ H Q => ∃ M : Bool → Hp → Prop, t σ H M ∧ ∀ b H', M b H' → Q b H'
theorem pt_mid {X : Cx} {e : Expr} {t : TT} (h : PT X e t) : PT X e (tMid t) := ⟨fun pins s σ H Q I ⟨M, h1, h2⟩ =>
  thn (h.run pins s σ H M I h1) fun b s' ⟨H', I', q⟩ => ⟨H', I', h2 b H' q⟩⟩
/-- an expression, then what comes of it, with a word between them -/
def tMidE (t : TE) : TE := fun σ H Q => ∃ M : V → Hp → Prop, t σ H M ∧ ∀ v H', M v H' → Q v H'
theorem pe_mid {X : Cx} {e : Expr} {t : TE} (h : PE X e t) : PE X e (tMidE t) := ⟨fun pins s σ H Q I ⟨M, h1, h2⟩ =>
  thn (h.run pins s σ H M I h1) fun u s' ⟨v, H', I', r, q⟩ => ⟨v, H', I', r, h2 v H' q⟩⟩

/-- a def that is called by its name -/
structure Cal (K : PySem.W.Frag) (mg : Str → Option Value) (x : Str) (f : Addr) (fd : FuncData) (ps : List Str) : Prop where
  g : mg x = some (.ref f)
  kp : PySem.W.keepIn K (.ref f) = true
  b : Binds K fd ps []
/-- at a stands the pair p -/
def PAt (H : Hp) (a : Addr) (p : Nat × Nat) : Prop := H a = some (.tup [.int (p.1 : Nat), .int (p.2 : Nat)])
/-- at these addresses stand these pairs -/
inductive PL (H : Hp) : List Addr → List (Nat × Nat) → Prop
  | nil : PL H [] []
  | cons {a p as ps} : PAt H a p → PL H as ps → PL H (a :: as) (p :: ps)
theorem PL.len {H : Hp} {as : List Addr} {ps : List (Nat × Nat)} (h : PL H as ps) : as.length = ps.length := by
  induction h with
  | nil => rfl
  | cons _ _ ih => simp [ih]
theorem PL.get {H : Hp} {as : List Addr} {ps : List (Nat × Nat)} (h : PL H as ps) : ∀ {i : Nat} {p : Nat × Nat}, ps[i]? = some p → ∃ a, as[i]? = some a ∧ PAt H a p := by
  induction h with
  | nil => intro i p e; simp at e
  | cons h1 _ ih =>
    intro i p e
    cases i with
    | zero =>
      have e := Option.some.inj e
      subst e
      exact ⟨_, rfl, h1⟩
    | succ i => exact ih (i := i) (by simpa using e)
theorem PL.got {H : Hp} {as : List Addr} {ps : List (Nat × Nat)} (h : PL H as ps) : ∀ {i : Nat} {a : Addr}, as[i]? = some a → ∃ p, ps[i]? = some p ∧ PAt H a p := by
  induction h with
  | nil => intro i p e; simp at e
  | cons h1 _ ih =>
    intro i p e
    cases i with
    | zero =>
      have e := Option.some.inj e
      subst e
      exact ⟨_, rfl, h1⟩
    | succ i => exact ih (i := i) (by simpa using e)
theorem PL.app {H : Hp} {as bs : List Addr} {ps qs : List (Nat × Nat)} (h : PL H as ps) (k : PL H bs qs) : PL H (as ++ bs) (ps ++ qs) := by
  induction h with
  | nil => exact k
  | cons h1 _ ih => exact .cons h1 ih
theorem PL.mono {H H' : Hp} {as : List Addr} {ps : List (Nat × Nat)} (h : PL H as ps) (k : ∀ b xs, H b = some (.tup xs) → H' b = some (.tup xs)) : PL H' as ps := by
  induction h with
  | nil => exact .nil
  | cons h1 _ ih => exact .cons (k _ _ h1) ih
theorem PL.keep {H : Hp} {as : List Addr} {ps : List (Nat × Nat)} (h : PL H as ps) (f : Nat → Bool) : ∀ k, PL H (keepIx f k as) (keepIx f k ps) := by
  induction h with
  | nil => intro k; exact .nil
  | cons h1 _ ih =>
    intro k
    unfold keepIx
    split
    · exact .cons h1 (ih _)
    · exact ih _
theorem sameT {H H' : Hp} (e : Same H H') : ∀ b xs, H b = some (.tup xs) → H' b = some (.tup xs) := fun b xs h => e b _ h
theorem Same.new {H : Hp} {q : Addr} {o : HO} (h : H q = none) : Same H (upd H q o) := fun b u e => by
  rw [upd_ne (ne_of_none e h)]
  exact e
abbrev refs (as : List Addr) : List V := as.map V.ref
/-- a display of two pairs of written numbers -/
theorem rd_two {a b c d : Int} {σ : L2.St} {H : Hp} {Q : VK} (h : ∀ (H' : Hp) (l t1 t2 : Addr), Same H H' → H' l = some (.lst [.ref t1, .ref t2]) → H' t1 = some (.tup [.int a, .int b]) → H' t2 = some (.tup [.int c, .int d]) → Q (.ref l) H') :
    tLst (tCons (tTup (tCons (tC (.int a)) (tCons (tC (.int b)) tNil))) (tCons (tTup (tCons (tC (.int c)) (tCons (tC (.int d)) tNil))) tNil)) σ H Q := by
  refine ⟨by show 2 ≤ sizeLine; decide, fun t1 h1 => ⟨by show 2 ≤ sizeLine; decide, fun t2 h2 => ⟨by show 2 ≤ sizeLine; decide, fun l hl => ?_⟩⟩⟩
  have s1 := Same.new (o := .tup [.int a, .int b]) h1
  have s2 := Same.new (o := .tup [.int c, .int d]) h2
  have s3 := Same.new (o := .lst [.ref t1, .ref t2]) hl
  exact h _ l t1 t2 (s1.trans (s2.trans s3)) upd_same (s3 _ _ (s2 _ _ upd_same)) (s3 _ _ upd_same)
/-- where the dict of the draws stands -/
def DictAt (H : Hp) (p : Addr) : Prop := ∃ kvs, H p = some (.dK kvs)
theorem tupD {p : Addr} {H H' : Hp} (hd : DictAt H p) (e : Ext p H H') : ∀ b xs, H b = some (.tup xs) → H' b = some (.tup xs) := fun b xs h => by
  obtain ⟨kvs, h1⟩ := hd
  exact e b _ (ne_of h h1 (by intro z; cases z)) h
theorem DictAt.neL {p L : Addr} {H : Hp} {xs : List V} (hd : DictAt H p) (h : H L = some (.lst xs)) : L ≠ p := fun z => by
  obtain ⟨kvs, h1⟩ := hd
  rw [z, h1] at h
  cases h
theorem two_le : 2 ≤ sizeLine := by decide
/-- two tuples and a list of both, made one behind another -/
theorem made_two {H : Hp} {t1 t2 l : Addr} {x y : List V} {zs : List V} (h1 : H t1 = none) (h2 : upd H t1 (.tup x) t2 = none) (h3 : upd (upd H t1 (.tup x)) t2 (.tup y) l = none) :
    ∃ H', H' = upd (upd (upd H t1 (.tup x)) t2 (.tup y)) l (.lst zs) ∧ Same H H' ∧ H' l = some (.lst zs) ∧ H' t1 = some (.tup x) ∧ H' t2 = some (.tup y) := by
  have s1 := Same.new (o := .tup x) h1
  have s2 := Same.new (o := .tup y) h2
  have s3 := Same.new (o := .lst zs) h3
  exact ⟨_, rfl, s1.trans (s2.trans s3), upd_same, s3 _ _ (s2 _ _ upd_same), s3 _ _ upd_same⟩
theorem PAt.of {H : Hp} {t : Addr} {x y : Int} {a b : Nat} (h : H t = some (.tup [.int x, .int y])) (hx : x = (a : Nat)) (hy : y = (b : Nat)) : PAt H t (a, b) := by
  subst hx hy
  exact h
theorem refs_app (a b : List Addr) : refs (a ++ b) = refs a ++ refs b := List.map_append
theorem in_two (j j1 j2 : Nat) : (!inV (V.int (j : Nat)) [V.int (j1 : Nat), V.int (j2 : Nat)]) = notIJ j1 j2 j := by
  unfold inV notIJ
  simp only [List.any_cons, List.any_nil, Bool.or_false]
  have e : ∀ k : Nat, eqV (V.int (k : Nat)) (V.int (j : Nat)) = decide (j = k) := by
    intro k
    show ((k : Int) == (j : Int)) = decide (j = k)
    by_cases q : j = k
    · subst q
      simp
    · have q' : ¬ (k : Int) = (j : Int) := by omega
      simp [q, q']
  rw [e, e, Bool.not_or]
theorem ref_at {as : List Addr} {i : Nat} {a : Addr} (h : as[i]? = some a) : atI (refs as) (i : Nat) = some (.ref a) := at_of (j := i) rfl (by rw [List.getElem?_map, h]; rfl)
abbrev nats (ns : List Nat) : List V := ns.map fun x => V.int (x : Nat)
theorem nats_app (a b : List Nat) : nats (a ++ b) = nats a ++ nats b := List.map_append
theorem nats_at {ns : List Nat} {i x : Nat} (h : ns[i]? = some x) : (nats ns)[i]? = some (V.int (x : Nat)) := by rw [List.getElem?_map, h]; rfl
theorem nats_erase : ∀ (ns : List Nat) (k : Nat), (nats ns).eraseIdx k = nats (ns.eraseIdx k)
  | [], _ => rfl
  | x :: r, 0 => rfl
  | x :: r, k + 1 => by
    show V.int (x : Nat) :: (nats r).eraseIdx k = V.int (x : Nat) :: nats (r.eraseIdx k)
    rw [nats_erase r k]
theorem nats_range (n : Nat) : rgV 0 (n : Nat) = nats (List.range n) := by
  unfold rgV
  have e : (((n : Nat) : Int) - 0).toNat = n := by omega
  rw [e]
  refine List.map_congr_left fun x _ => ?_
  rw [Int.zero_add]
theorem seq_ix {j n : Nat} (h : j < n) : seqIndex? ((j : Nat) : Int) n = some j := by
  unfold seqIndex?
  simp
  omega
theorem erase_perm : ∀ {l : List Nat} {k x : Nat}, l[k]? = some x → l.Perm (x :: l.eraseIdx k)
  | [], k, x, h => by simp at h
  | y :: r, 0, x, h => by
    have e : y = x := Option.some.inj h
    subst e
    exact .refl _
  | y :: r, k + 1, x, h => (List.Perm.cons y (erase_perm (l := r) (k := k) (by simpa using h))).trans (.swap _ _ _)
theorem Ext.wr {p q : Addr} {H H' : Hp} {o : HO} (e : Ext p H H') (h : H q = none) : Ext p H (upd H' q o) := fun b u hb hu => by
  rw [upd_ne (ne_of_none hu h)]
  exact e b u hb hu
theorem Ext.free {p q : Addr} {H H' : Hp} (e : Ext p H H') (hq : q ≠ p) (h : H' q = none) : H q = none := by
  cases z : H q with
  | none => rfl
  | some o =>
    rw [e q o hq z] at h
    cases h
theorem yes {σ : L2.St} {H : Hp} {A B : Hp → Prop} (h : A H) : tYes σ H (fun b H3 => if b = true then A H3 else B H3) := by
  show if true = true then A H else B H
  rw [if_pos rfl]
  exact h
def rLen (K : PySem.W.Frag) : List V → Hp → VK → Prop := fun xs H Q => ∃ p ys, xs = [.ref p] ∧ (SqL K H p ys ∨ SqT K H p ys) ∧ Q (.int ys.length) H

/-! ### sorting pairs -/
/-- the pair that stands at an address -/
def keyN (H : Hp) (a : Addr) : Nat × Nat := match H a with
  | some (.tup [.int i, .int j]) => (i.toNat, j.toNat)
  | _ => (0, 0)
theorem keyN_of {H : Hp} {a : Addr} {p : Nat × Nat} (h : PAt H a p) : keyN H a = p := by
  unfold keyN
  rw [show H a = some (.tup [.int (p.1 : Nat), .int (p.2 : Nat)]) from h]
  rfl
theorem PL.keys {H : Hp} {as : List Addr} {ps : List (Nat × Nat)} (h : PL H as ps) : ps = as.map (keyN H) ∧ ∀ a ∈ as, PAt H a (keyN H a) := by
  induction h with
  | nil => exact ⟨rfl, fun a m => absurd m (by simp)⟩
  | cons h1 _ ih =>
    rw [List.map_cons, keyN_of h1]
    refine ⟨by rw [← ih.1], fun a m => ?_⟩
    rcases List.mem_cons.mp m with e | m
    · subst e
      rw [keyN_of h1]
      exact h1
    · exact ih.2 a m
theorem PL.of_keys {H : Hp} : ∀ {as : List Addr}, (∀ a ∈ as, PAt H a (keyN H a)) → PL H as (as.map (keyN H))
  | [], _ => .nil
  | a :: r, h => .cons (h a (List.mem_cons.mpr (.inl rfl))) (PL.of_keys fun b hb => h b (List.mem_cons.mpr (.inr hb)))
def backA : V → Addr
  | .ref a => a
  | _ => 0
theorem refs_of : ∀ {ys : List V}, (∀ y ∈ ys, ∃ a, y = V.ref a) → ys = refs (ys.map backA)
  | [], _ => rfl
  | y :: r, h => by
    obtain ⟨a, rfl⟩ := h y (List.mem_cons.mpr (.inl rfl))
    show V.ref a :: r = V.ref a :: refs (r.map backA)
    rw [← refs_of fun z hz => h z (List.mem_cons.mpr (.inr hz))]
theorem back_refs (as : List Addr) : (refs as).map backA = as := by
  rw [refs, List.map_map]
  exact List.map_id' as
/-- sorted(xs), xs a list of pairs -/
theorem rd_sorted {K : PySem.W.Frag} {H : Hp} {Q : VK} {a : Addr} {as : List Addr} {ps : List (Nat × Nat)} (hs : SqL K H a (refs as)) (hP : PL H as ps)
    (h : ∀ (bs : List Addr) (qs : List (Nat × Nat)) (p : Addr), PL H bs qs → qs.Perm ps → qs.Pairwise leP → H p = none → Q (.ref p) (upd H p (.lst (refs bs)))) : rSortedPO K [.ref a] H Q := by
  obtain ⟨e1, e2⟩ := hP.keys
  refine ⟨a, refs as, fun v => (((keyN H (backA v)).1 : Nat), ((keyN H (backA v)).2 : Nat)), rfl, hs, fun x hx => ?_, fun ys p h1 h2 hp => ?_⟩
  · obtain ⟨b, hb, rfl⟩ := List.mem_map.mp hx
    exact ⟨b, rfl, e2 b hb⟩
  · have hy : ys = refs (ys.map backA) := refs_of fun y m => by
      obtain ⟨b, _, e⟩ := List.mem_map.mp (h2.perm.mem_iff.mp m)
      exact ⟨b, e.symm⟩
    have hb : (ys.map backA).Perm as := by
      have := h2.perm.map backA
      rwa [back_refs] at this
    rw [hy]
    refine h (ys.map backA) ((ys.map backA).map (keyN H)) p (PL.of_keys fun b m => e2 b (hb.mem_iff.mp m)) (by rw [e1]; exact hb.map _) ?_ hp
    rw [List.map_map, List.pairwise_map]
    refine List.Pairwise.imp ?_ h1
    intro x y hxy
    have q := SrtO.lexB_no.mp hxy
    show leP (keyN H (backA x)) (keyN H (backA y))
    unfold leP
    simp only at q
    omega
/-- sorted([x, y]) -/
theorem low_of {x y : Nat} {ns : List Int} (hp : ns.Perm [((x : Nat) : Int), ((y : Nat) : Int)]) (hs : ns.Pairwise (· ≤ ·)) : ns = [(((low x y).1 : Nat) : Int), (((low x y).2 : Nat) : Int)] := by
  have hl := hp.length_eq
  match ns, hl with
  | [a, b], _ =>
    have hab : a ≤ b := by
      have := (List.pairwise_cons.mp hs).1 b (by simp)
      exact this
    have ha := hp.mem_iff (a := a)
    have hb := hp.mem_iff (a := b)
    have c1 := hp.count_eq a
    have c2 := hp.count_eq b
    simp only [List.mem_cons, List.not_mem_nil, or_false, true_or, or_true, true_iff] at ha hb
    unfold low
    rcases ha with rfl | rfl <;> rcases hb with rfl | rfl
    · simp only [List.count_cons, List.count_nil, beq_self_eq_true, if_true] at c1
      by_cases q : ((y : Int) == (x : Int)) = true
      · have : y = x := by
          have z : (y : Int) = (x : Int) := by simpa using q
          omega
        subst this
        split <;> rfl
      · rw [if_neg q] at c1
        omega
    · rw [if_neg (by omega)]
    · by_cases q : y < x
      · rw [if_pos q]
      · have : x = y := by omega
        subst this
        rw [if_neg q]
    · simp only [List.count_cons, List.count_nil, beq_self_eq_true, if_true] at c1
      by_cases q : ((x : Int) == (y : Int)) = true
      · have : x = y := by
          have z : (x : Int) = (y : Int) := by simpa using q
          omega
        subst this
        split <;> rfl
      · rw [if_neg q] at c1
        omega
/-- at t stands a yard of n crossings, a tuple of these pairs -/
def YAt (H : Hp) (t : Addr) (n : Nat) (ps : List (Nat × Nat)) : Prop := Yard n ps ∧ ∃ as : List Addr, H t = some (.tup (refs as)) ∧ PL H as ps
theorem YAt.mono {H H' : Hp} {t : Addr} {n : Nat} {ps : List (Nat × Nat)} (h : YAt H t n ps) (k : ∀ b xs, H b = some (.tup xs) → H' b = some (.tup xs)) : YAt H' t n ps := by
  obtain ⟨y, as, h1, h2⟩ := h
  exact ⟨y, as, k _ _ h1, h2.mono k⟩

end One
end P_N0

section P_E1
set_option linter.all false
set_option maxRecDepth 100000
set_option maxHeartbeats 4000000
/-! Ranges with a step as values; what kind a value is. -/
namespace One
open PySem PySem.Spec PyProof.Rows L2
def RngO (a : Addr) (lo hi c : Int) : HO := .ext fun h => ∃ t u v, h.get? a = some { cls := .type "range", data := .fields #[.int lo t, .int hi u, .int c v] }
theorem rng_has (r : Addr) (a b c i : Int) (t u v k : Tok) :
    Meets (Builtin.«range.__contains__» ⟨[.ref r, .int i k], []⟩) (fun _ R s => s.heap.get? r = some ⟨.type "range", none, .fields #[.int a t, .int b u, .int c v], #[]⟩ ∧ R (.ok (.ret (.bool (Builtin.Range.rangePlace? a b c i).isSome))) s) :=
  .of_wp fun prog w A R s h => by
    obtain ⟨hp, g, d, tk, os⟩ := s
    obtain ⟨hl, h⟩ := h
    wp_walk
    exact ⟨_, rfl, h⟩
section
variable {X : Cx}
theorem op_in_rngC : OpR X (compareOp .In) (fun x y H Q => ∃ i a lo hi c, x = V.int i ∧ y = V.ref a ∧ H a = some (RngO a lo hi c) ∧ Q (.bl (Builtin.Range.rangePlace? lo hi c i).isSome) H) := by
  intro pins s σ H x y v u Q I rx ry h
  obtain ⟨i, a, lo, hi, c, rfl, rfl, ha, q⟩ := h
  obtain ⟨k, rfl⟩ := rx
  obtain rfl : u = Value.ref a := ry
  obtain ⟨⟨t1, t2, t3, ho⟩, _, _⟩ := I.hok a _ ha
  refine (show wpAny _ _ (do return Value.bool (← contains (Value.ref a) (Value.int i k))) _ _ s from ?_)
  exact wpAny_bind (wpAny_contains_slot (T := "range") ⟨_, ho, rfl⟩ F.slot_range_contains (call_meets F.slot_range_contains ⟨_, ho, rfl⟩ F.entry_range_contains (F.args_range_contains_2 _ _) (rng_has a lo hi c i t1 t2 t3 k)
    ⟨ho, wpAny_truthy_bool (wpAny_pure ⟨.bl _, H, I, rfl, q⟩)⟩))
theorem cr_range3 : CallR X (.type "range") (fun vs H Q => ∃ i j c, vs = [V.int i, V.int j, V.int c] ∧ (c ≠ 0 ∧ c.natAbs < 1073741824) ∧ ∀ p, H p = none → Q (.ref p) (upd H p (RngO p i j c))) := by
  intro pins s σ H vs us Q I r h
  obtain ⟨i, j, c, rfl, hc, q⟩ := h
  obtain ⟨u1, u2, u3, rfl, ri, rj, rc⟩ : ∃ u1 u2 u3, us = [u1, u2, u3] ∧ RelV (V.int i) u1 ∧ RelV (V.int j) u2 ∧ RelV (V.int c) u3 := by
    cases r with
    | cons p q =>
      cases q with
      | cons p' q' =>
        cases q' with
        | cons p'' q'' =>
          cases q''
          exact ⟨_, _, _, rfl, p, p', p''⟩
  obtain ⟨t, rfl⟩ := ri
  obtain ⟨t2, rfl⟩ := rj
  obtain ⟨t3, rfl⟩ := rc
  have hget : (s.heap.push { cls := .type "range", data := .fields #[.int i t, .int j t2, .int c t3] }).get? s.heap.objs.size = some { cls := .type "range", data := .fields #[.int i t, .int j t2, .int c t3] } := Heap.get?_push_size _ rfl
  refine call_range_3 hc.1 ?_ (.inl (PyProof.noPylong_small hc.2))
  exact ⟨.ref s.heap.objs.size, upd H s.heap.objs.size (RngO s.heap.objs.size i j c), I.laid (t' := s.toks) (fun b o e => Heap.get?_push_of_some _ e) (Nat.le_refl _) ⟨⟨t, t2, t3, hget⟩, ⟨_, hget⟩, fun h1 h2 ⟨a, b, d, e⟩ st => ⟨a, b, d, st _ e⟩⟩, rfl, q _ (I.hok.fresh (Nat.le_refl _))⟩
end
end One
end P_E1

section P_E2
set_option linter.all false
set_option maxRecDepth 100000
set_option maxHeartbeats 4000000
namespace One
open PySem PySem.Spec PyProof.Rows L2
/-! ### what kind a value is -/
inductive TV (H : Hp) : V → String → Prop
  | non : TV H .non "NoneType"
  | bl (b : Bool) : TV H (.bl b) "bool"
  | int (i : Int) : TV H (.int i) "int"
  | str (x : Str) : TV H (.str x) "str"
  | tup {a : Addr} {xs : List V} (e : H a = some (.tup xs)) : TV H (.ref a) "tuple"
  | lst {a : Addr} {xs : List V} (e : H a = some (.lst xs)) : TV H (.ref a) "list"
  | dct {a : Addr} {kvs : List (Key × V)} (e : H a = some (.dK kvs)) : TV H (.ref a) "dict"
theorem TV.tyx {K : PySem.W.Frag} {H : Hp} {v : V} {T : String} (h : TV H v T) : TyX K H v (.type T) := by
  cases h with
  | non => exact .base .non
  | bl b => exact .base (.bl b)
  | int i => exact .base (.int i)
  | str x => exact .base (.str x)
  | tup e => exact .base (.tup e)
  | lst e => exact .base (.lst e)
  | dct e => exact .base (.dK e)
def isI : V → Bool
  | .int _ => true
  | _ => false
def belowV (v : V) (n : Int) : Bool := match v with
  | .int i => decide (0 ≤ i) && decide (i < n)
  | _ => false
theorem nof {p : Prop} (z : false = true) : p := by cases z
theorem noT {p : Prop} (z : true = false) : p := by cases z
theorem TV.kInt {K : PySem.W.Frag} {H : Hp} {v : V} {T : String} (h : TV H v T) : ∃ b, PySem.W.kitOne K (.type T) (.type "int") = some b ∧ (b = true → ∃ b2, PySem.W.kitOne K (.type T) (.type "bool") = some b2 ∧ isI v = !b2) ∧ (b = false → isI v = false) := by
  cases h with
  | non => exact ⟨false, kit_ty (by decide +kernel), nof, fun _ => rfl⟩
  | bl b => exact ⟨true, kit_ty (by decide +kernel), fun _ => ⟨true, kit_ty (by decide +kernel), rfl⟩, noT⟩
  | int i => exact ⟨true, kit_ty (by decide +kernel), fun _ => ⟨false, kit_ty (by decide +kernel), rfl⟩, noT⟩
  | str x => exact ⟨false, kit_ty (by decide +kernel), nof, fun _ => rfl⟩
  | tup e => exact ⟨false, kit_ty (by decide +kernel), nof, fun _ => rfl⟩
  | lst e => exact ⟨false, kit_ty (by decide +kernel), nof, fun _ => rfl⟩
  | dct e => exact ⟨false, kit_ty (by decide +kernel), nof, fun _ => rfl⟩
def isTup (T : String) : Bool := T == "tuple"
theorem TV.kTup {K : PySem.W.Frag} {H : Hp} {v : V} {T : String} (h : TV H v T) : PySem.W.kitOne K (.type T) (.type "tuple") = some (isTup T) := by
  cases h <;> exact kit_ty (by decide +kernel)
/-- the constants of the program's top -/
structure TC (mg : Str → Option Value) : Prop where
  most : ∃ t, mg "MOST_CROSSINGS" = some (.int 40 t)
  places : ∃ t, mg "PLACES" = some (.int 4 t)
abbrev sIsNum : Stmt := top 8
abbrev sIsBelow : Stmt := top 9
abbrev sCanBe : Stmt := top 18
abbrev sIsLine : Stmt := top 19
theorem scIsNum : FnScope ["thing"] ["thing"] (defScope sIsNum) := ⟨rfl, rfl, rfl, by decide +kernel, rfl, by decide +kernel, by decide +kernel⟩
theorem scIsBelow : FnScope ["thing", "many"] ["thing", "many"] (defScope sIsBelow) := ⟨rfl, rfl, rfl, by decide +kernel, rfl, by decide +kernel, by decide +kernel⟩
theorem scCanBe : FnScope ["many"] ["many"] (defScope sCanBe) := ⟨rfl, rfl, rfl, by decide +kernel, rfl, by decide +kernel, by decide +kernel⟩
theorem scIsLine : FnScope ["thing", "many_ends", "low", "high"] ["thing", "many_ends"] (defScope sIsLine) := ⟨rfl, rfl, rfl, by decide +kernel, rfl, by decide +kernel, by decide +kernel⟩
def spIsNum : Sp := fun vs H Q _ => ∃ (v : V) (T : String), vs = [v] ∧ TV H v T ∧ Q (.bl (isI v)) H
def spIsBelow : Sp := fun vs H Q _ => ∃ (v : V) (n : Int) (T : String), vs = [v, .int n] ∧ TV H v T ∧ Q (.bl (belowV v n)) H
/-- as many lines as a yard may have -/
def canBe (n : Int) : Bool := decide (2 ≤ n) && decide (n ≤ 80) && decide (n % 2 = 0)
def spCanBe : Sp := fun vs H Q _ => ∃ n : Int, vs = [.int n] ∧ ∀ H', Same H H' → Q (.bl (canBe n)) H'
section
variable {P : Program} {w : World} {K : PySem.W.Frag} {mg : Str → Option Value} {base : Heap}
theorem ok_isnum {f : Addr} {fd : FuncData} (F : Fun K "is_number" "is_number" sIsNum f fd) (T : TB mg) : FnOk P w K mg base CX0 1 f fd ["thing"] spIsNum := by
  refine F.ok scIsNum (fun vs H Q E h => ?_) (fun cdv A outer s H vs Q E hr h => ?_)
  · obtain ⟨v, _, rfl, _⟩ := h
    rfl
  · obtain ⟨v, ty, rfl, hv, k⟩ := h
    refine ⟨_, pss_one (ps_ret (pe_and (pe_callB call_isi (by rfl) T.isinstance boot_isinstance (pa_cons (pv 0) (pa_cons (pe_bltn (v := .ty "int") (by rfl) T.int PyProof.Rows.boot_int rfl) pa_nil)))
      (pe_one (pe_not (pe_callB call_isi (by rfl) T.isinstance boot_isinstance (pa_cons (pv 0) (pa_cons (pe_bltn (v := .ty "bool") (by rfl) T.bool (by decide +kernel) rfl) pa_nil))))))), ?_⟩
    obtain ⟨b, kb, h1, h2⟩ := hv.kInt (K := K)
    refine ⟨_, rfl, v, _, _, _, b, rfl, .ty _, hv.tyx, kb, b, rfl, ?_⟩
    cases b with
    | true =>
      obtain ⟨b2, kb2, e⟩ := h1 rfl
      refine iteT ⟨_, rfl, v, _, _, _, b2, rfl, .ty _, hv.tyx, kb2, b2, rfl, ?_⟩
      rw [← e]
      exact k
    | false =>
      refine iteF ?_
      rw [h2 rfl] at k
      exact k
theorem ok_isbelow {f fN : Addr} {fd fdN : FuncData} (F : Fun K "is_below" "is_below" sIsBelow f fd) (N : Cal K mg "is_number" fN fdN ["thing"]) (GN : FnOk P w K mg base CX0 1 fN fdN ["thing"] spIsNum) : FnOk P w K mg base CX0 2 f fd ["thing", "many"] spIsBelow := by
  refine F.ok scIsBelow (fun vs H Q E h => ?_) (fun cdv A outer s H vs Q E hr h => ?_)
  · obtain ⟨v, n, _, rfl, _⟩ := h
    rfl
  · obtain ⟨v, n, ty, rfl, hv, k⟩ := h
    refine ⟨_, pss_one (ps_ret (pe_and (pe_call GN hr rfl N.g N.kp N.b .nil pass0 (pa_cons (pv 0) pa_nil)) (pe_one (pe_chain op_le op_lt pe_int (pv 0) (pv 1))))), ?_⟩
    refine ⟨_, rfl, v, ty, rfl, hv, _, rfl, ?_⟩
    cases v with
    | int i =>
      refine iteT ⟨_, rfl, _, _, rfl, rfl, _, rfl, ?_⟩
      by_cases h0 : 0 ≤ i
      · rw [if_pos (decide_eq_true h0)]
        refine ⟨_, rfl, _, _, rfl, rfl, ?_⟩
        have e : belowV (.int i) n = decide (i < n) := by
          show (decide (0 ≤ i) && decide (i < n)) = _
          rw [decide_eq_true h0, Bool.true_and]
        rw [e] at k
        exact k
      · rw [if_neg (by rw [decide_eq_false h0]; decide)]
        have e : belowV (.int i) n = false := by
          show (decide (0 ≤ i) && decide (i < n)) = _
          rw [decide_eq_false h0, Bool.false_and]
        rw [e] at k
        exact k
    | _ => exact iteF k
theorem ok_canbe {f : Addr} {fd : FuncData} (F : Fun K "can_be_many_lines" "can_be_many_lines" sCanBe f fd) (T : TB mg) (C : TC mg) : FnOk P w K mg base CX0 1 f fd ["many"] spCanBe := by
  refine F.ok scCanBe (fun vs H Q E h => ?_) (fun cdv A outer s H vs Q E hr h => ?_)
  · obtain ⟨n, rfl, _⟩ := h
    rfl
  · obtain ⟨n, rfl, k⟩ := h
    obtain ⟨t, ht⟩ := C.most
    refine ⟨_, pss_one (ps_ret (pe_cmpR op_in_rngC (pv 0) (pe_callTy cr_range3 (by rfl) T.range boot_range (pa_cons pe_int (pa_cons (pe_op op_add (pe_op op_mul pe_int (pe_glob (v := .int 40) rfl ht ⟨_, rfl⟩)) pe_int) (pa_cons pe_int pa_nil)))) (by rfl))), ?_⟩
    refine ⟨_, rfl, _, _, rfl, rfl, .inl ⟨by decide, by decide⟩, _, _, rfl, rfl, _, _, _, rfl, ⟨by decide, by decide⟩, fun p hp => ?_⟩
    refine ⟨n, p, _, _, _, rfl, rfl, upd_same, ?_⟩
    have e : (Builtin.Range.rangePlace? 2 (2 * 40 + 1) 2 n).isSome = canBe n := by
      unfold Builtin.Range.rangePlace? canBe
      rw [Bool.eq_iff_iff]
      simp only [show (2 : Int) > 0 from by decide, if_true, Bool.and_eq_true, decide_eq_true_eq, beq_iff_eq]
      constructor
      · intro q
        split at q
        · omega
        · cases q
      · intro q
        rw [if_pos (by omega)]
        rfl
    show Q (.bl (Builtin.Range.rangePlace? 2 (2 * 40 + 1) 2 n).isSome) _
    rw [e]
    exact k _ (Same.new hp)
end
end One
end P_E2

section P_M3
set_option linter.all false
namespace One
/-! ### going to all that is beside -/
def R (r : List Bool) (i : Nat) : Prop := r[i]? = some true
structure Dfs (s n : Nat) (f : Nat → List Nat) (r : List Bool) (w : List Nat) (cur : Nat → Prop) : Prop where
  len : r.length = n
  z : R r s
  wt : ∀ i ∈ w, R r i
  cl : ∀ i, R r i → i ∈ w ∨ cur i ∨ ∀ j ∈ f i, R r j
  so : ∀ P : Nat → Prop, (∀ i j, j ∈ f i → P i → P j) → P s → ∀ i, R r i → P i
theorem R_set {r : List Bool} {i j : Nat} (h : R r i) : R (r.set j true) i := by
  unfold R at *
  by_cases e : j = i
  · subst e
    have : j < r.length := (List.getElem?_eq_some_iff.mp h).1
    rw [List.getElem?_set_self this]
  · rw [List.getElem?_set_ne e]
    exact h
theorem R_new {r : List Bool} {j : Nat} (h : j < r.length) : R (r.set j true) j := by
  unfold R
  rw [List.getElem?_set_self h]
theorem R_back {r : List Bool} {i j : Nat} (h : R (r.set j true) i) : i = j ∨ R r i := by
  unfold R at *
  by_cases e : j = i
  · exact .inl e.symm
  · rw [List.getElem?_set_ne e] at h
    exact .inr h
theorem dfs_start {s n : Nat} (f : Nat → List Nat) (hn : s < n) : Dfs s n f ((List.replicate n false).set s true) [s] (fun _ => False) := by
  have h0 : s < (List.replicate n false).length := by rw [List.length_replicate]; exact hn
  have back : ∀ i, R ((List.replicate n false).set s true) i → i = s := fun i h => by
    rcases R_back h with e | e
    · exact e
    · unfold R at e
      have hi := (List.getElem?_eq_some_iff.mp e).2
      simp at hi
  refine ⟨by simp, R_new h0, fun i hi => ?_, fun i hi => .inl ?_, fun P _ h i hi => ?_⟩
  · rw [List.mem_singleton.mp hi]
    exact R_new h0
  · rw [back i hi]
    exact List.mem_singleton.mpr rfl
  · rw [back i hi]
    exact h
theorem dfs_pop {s n c : Nat} {f : Nat → List Nat} {r : List Bool} {w : List Nat} (d : Dfs s n f r (w ++ [c]) fun _ => False) : Dfs s n f r w (· = c) := by
  refine ⟨d.len, d.z, fun i hi => d.wt i (List.mem_append.mpr (.inl hi)), fun i hi => ?_, d.so⟩
  rcases d.cl i hi with h | h | h
  · rcases List.mem_append.mp h with h | h
    · exact .inl h
    · exact .inr (.inl (List.mem_singleton.mp h))
  · exact h.elim
  · exact .inr (.inr h)
theorem dfs_mark {s n c j : Nat} {f : Nat → List Nat} {r : List Bool} {w : List Nat} (d : Dfs s n f r w (· = c)) (hc : R r c) (hj : j ∈ f c) (hlt : j < n) : Dfs s n f (r.set j true) (w ++ [j]) (· = c) := by
  have hjl : j < r.length := by rw [d.len]; exact hlt
  refine ⟨by rw [List.length_set]; exact d.len, R_set d.z, fun i hi => ?_, fun i hi => ?_, fun P hP h0 i hi => ?_⟩
  · rcases List.mem_append.mp hi with h | h
    · exact R_set (d.wt i h)
    · rw [List.mem_singleton.mp h]
      exact R_new hjl
  · rcases R_back hi with e | h
    · exact .inl (List.mem_append.mpr (.inr (List.mem_singleton.mpr e)))
    · rcases d.cl i h with q | q | q
      · exact .inl (List.mem_append.mpr (.inl q))
      · exact .inr (.inl q)
      · exact .inr (.inr fun k hk => R_set (q k hk))
  · rcases R_back hi with e | h
    · rw [e]
      exact hP c j hj (d.so P hP h0 c hc)
    · exact d.so P hP h0 i h
theorem dfs_finish {s n c : Nat} {f : Nat → List Nat} {r : List Bool} {w : List Nat} (d : Dfs s n f r w (· = c)) (h : ∀ j ∈ f c, R r j) : Dfs s n f r w fun _ => False := by
  refine ⟨d.len, d.z, d.wt, fun i hi => ?_, d.so⟩
  rcases d.cl i hi with q | q | q
  · exact .inl q
  · subst q
    exact .inr (.inr h)
  · exact .inr (.inr q)
theorem count_set {r : List Bool} {j : Nat} (h : r[j]? = some false) : (r.set j true).count false + 1 = r.count false := by
  induction r generalizing j with
  | nil => simp at h
  | cons a r ih =>
    cases j with
    | zero =>
      have e : a = false := Option.some.inj h
      subst e
      simp
    | succ j =>
      have := ih (j := j) (by simpa using h)
      show ((a :: r.set j true).count false) + 1 = (a :: r).count false
      rw [List.count_cons, List.count_cons]
      omega
/-- what is beside each crossing by these lines -/
def Beside (ps : List (Nat × Nat)) (f : Nat → List Nat) : Prop := ∀ i j, j ∈ f i ↔ ∃ p ∈ ps, (p.1 / 4 = i ∧ p.2 / 4 = j) ∨ (p.2 / 4 = i ∧ p.1 / 4 = j)
theorem dfs_whole {n : Nat} {ps : List (Nat × Nat)} {f : Nat → List Nat} {r : List Bool} (hb : Beside ps f) (d : Dfs 0 n f r [] fun _ => False) : r.all id = true ↔ Whole n ps := by
  constructor
  · intro h P hP h0 c hc
    refine d.so P (fun i j hj hi => ?_) h0 c ?_
    · obtain ⟨p, hp, q⟩ := (hb i j).mp hj
      rcases q with ⟨q1, q2⟩ | ⟨q1, q2⟩
      · rw [← q2]
        rw [← q1] at hi
        exact (hP p hp).mp hi
      · rw [← q2]
        rw [← q1] at hi
        exact (hP p hp).mpr hi
    · have hl : c < r.length := by rw [d.len]; exact hc
      unfold R
      rw [List.getElem?_eq_getElem hl]
      have := List.all_eq_true.mp h r[c] (List.getElem_mem hl)
      exact congrArg some this
  · intro w
    have all := w (fun i => R r i) (fun p hp => ?_) d.z
    · refine List.all_eq_true.mpr fun b hb' => ?_
      obtain ⟨i, hi, e⟩ := List.mem_iff_getElem.mp hb'
      have q := all i (by rw [← d.len]; exact hi)
      unfold R at q
      rw [List.getElem?_eq_getElem hi, e] at q
      exact Option.some.inj q
    · have clo : ∀ i j, j ∈ f i → R r i → R r j := fun i j hj hi => by
        rcases d.cl i hi with q | q | q
        · exact absurd q (by simp)
        · exact q.elim
        · exact q j hj
      exact ⟨clo _ _ ((hb _ _).mpr ⟨p, hp, .inl ⟨rfl, rfl⟩⟩), clo _ _ ((hb _ _).mpr ⟨p, hp, .inr ⟨rfl, rfl⟩⟩)⟩
/-- the lists with one more at one of them -/
def addTo (f : Nat → List Nat) (i x : Nat) : Nat → List Nat := fun k => if k = i then f k ++ [x] else f k
theorem beside_nil : Beside [] fun _ => [] := fun i j => ⟨fun h => absurd h (by simp), fun ⟨p, hp, _⟩ => absurd hp (by simp)⟩
theorem mem_addTo {f : Nat → List Nat} {i x k j : Nat} : j ∈ addTo f i x k ↔ j ∈ f k ∨ (k = i ∧ j = x) := by
  unfold addTo
  by_cases e : k = i
  · rw [if_pos e, List.mem_append, List.mem_singleton]
    exact or_congr Iff.rfl ⟨fun h => ⟨e, h⟩, fun h => h.2⟩
  · rw [if_neg e]
    exact ⟨.inl, fun h => h.elim id fun q => absurd q.1 e⟩
theorem beside_add {ps : List (Nat × Nat)} {f : Nat → List Nat} (p : Nat × Nat) (h : Beside ps f) : Beside (ps ++ [p]) (addTo (addTo f (p.1 / 4) (p.2 / 4)) (p.2 / 4) (p.1 / 4)) := by
  intro i j
  rw [mem_addTo, mem_addTo, h i j]
  constructor
  · rintro ((⟨q, hq, z⟩ | ⟨rfl, rfl⟩) | ⟨rfl, rfl⟩)
    · exact ⟨q, List.mem_append.mpr (.inl hq), z⟩
    · exact ⟨p, List.mem_append.mpr (.inr (List.mem_singleton.mpr rfl)), .inl ⟨rfl, rfl⟩⟩
    · exact ⟨p, List.mem_append.mpr (.inr (List.mem_singleton.mpr rfl)), .inr ⟨rfl, rfl⟩⟩
  · rintro ⟨q, hq, z⟩
    rcases List.mem_append.mp hq with hq | hq
    · exact .inl (.inl ⟨q, hq, z⟩)
    · rw [List.mem_singleton.mp hq] at z
      rcases z with ⟨a, b⟩ | ⟨a, b⟩
      · exact .inl (.inr ⟨a.symm, b.symm⟩)
      · exact .inr ⟨a.symm, b.symm⟩
end One
end P_M3

section P_E3
set_option linter.all false
set_option maxRecDepth 100000
set_option maxHeartbeats 4000000
namespace One
open PySem PySem.Spec PyProof.Rows L2
abbrev sIsWhole : Stmt := top 20
abbrev nWhole : List Str := ["lines"]
theorem scIsWhole : FnScope nWhole ["lines"] (defScope sIsWhole) := ⟨rfl, rfl, rfl, by decide +kernel, rfl, by decide +kernel, by decide +kernel⟩
def ltB : V → V → Bool
  | .int a, .int b => decide (a < b)
  | _, _ => false
def lineB (xs : List V) (n : Int) : Bool := match xs with
  | [x, y] => belowV x n && belowV y n && ltB x y
  | _ => false
def spIsLine : Sp := fun vs H Q _ => ∃ (v : V) (n : Int), vs = [v, .int n] ∧ ((∃ T, TV H v T ∧ isTup T = false ∧ Q (.bl false) H) ∨ ∃ (a : Addr) (xs : List V), v = .ref a ∧ H a = some (.tup xs) ∧ (∀ x ∈ xs, ∃ T, TV H x T) ∧ Q (.bl (lineB xs n)) H)
/-- lines that are asked whether they hang together -/
structure Asked (n : Nat) (ps : List (Nat × Nat)) : Prop where
  pos : 0 < n
  len : ps.length = 2 * n
  lt : ∀ p ∈ ps, p.1 < 4 * n ∧ p.2 < 4 * n
def spIsWhole : Sp := fun vs H Q _ => ∃ (t : Addr) (n : Nat) (as : List Addr) (ps : List (Nat × Nat)), vs = [.ref t] ∧ H t = some (.tup (refs as)) ∧ PL H as ps ∧ Asked n ps ∧ n ≤ 100 ∧
  ∀ (H' : Hp) (b : Bool), Same H H' → (b = true ↔ Whole n ps) → Q (.bl b) H'
section
variable {P : Program} {w : World} {K : PySem.W.Frag} {mg : Str → Option Value} {base : Heap}
theorem ok_isline {f fB : Addr} {fd fdB : FuncData} (F : Fun K "is_line" "is_line" sIsLine f fd) (T : TB mg) (B : Cal K mg "is_below" fB fdB ["thing", "many"]) (GB : FnOk P w K mg base CX0 2 fB fdB ["thing", "many"] spIsBelow) :
    FnOk P w K mg base CX0 3 f fd ["thing", "many_ends"] spIsLine := by
  refine F.ok scIsLine (fun vs H Q E h => ?_) (fun cdv A outer s H vs Q E hr h => ?_)
  · obtain ⟨v, n, rfl, _⟩ := h
    rfl
  · obtain ⟨v, n, rfl, h⟩ := h
    have nd := scIsLine.nd
    refine ⟨_, pss_cons (ps_if (PW.pt (pw_or (pt_not (pt_val (pe_callB call_isi (by rfl) T.isinstance boot_isinstance (pa_cons (pv 0) (pa_cons (pe_bltn (v := .ty "tuple") (by rfl) T.tuple boot_tuple rfl) pa_nil)))))
        (pw_or1 (pt_cmpR op_ne (pe_callB call_len_seq (by rfl) T.len PySem.boot_len (pa_cons (pv 0) pa_nil)) pe_int (nomark _))))) (pss_one (ps_ret pe_bl)) pss_nil)
      (pss_cons (ps_asg (pv 0) (pg_tup rfl (pgs_cons (pg_name (i := 2) nd rfl (Or.inl rfl)) (pgs_cons (pg_name (i := 3) nd rfl (Or.inl rfl)) pgs_nil))))
      (pss_one (ps_ret (pe_and (pe_call GB hr rfl B.g B.kp B.b .nil pass0 (pa_cons (pv 2) (pa_cons (pv 1) pa_nil))) (pe_and (pe_call GB hr rfl B.g B.kp B.b .nil pass0 (pa_cons (pv 3) (pa_cons (pv 1) pa_nil)))
        (pe_one (pe_cmpR op_lt (pv 2) (pv 3) (nomark _)))))))), ?_⟩
    rcases h with ⟨ty, hv, hT, k⟩ | ⟨a, xs, rfl, ha, hx, k⟩
    · refine ⟨_, rfl, v, _, _, _, _, rfl, .ty _, hv.tyx, hv.kTup, _, rfl, ?_⟩
      rw [hT]
      exact iteT k
    · refine ⟨_, rfl, _, _, _, _, _, rfl, .ty _, (TV.tup ha).tyx, (TV.tup ha).kTup, _, rfl, ?_⟩
      refine iteF ⟨_, rfl, a, _, rfl, .inr (SqT.of ha), rfl, _, rfl, ?_⟩
      refine ite2 (fun hne => ?_) (fun heq => ?_)
      · have e : lineB xs n = false := by
          match xs, hne with
          | [], _ => rfl
          | [_], _ => rfl
          | [_, _], hne => simp at hne
          | _ :: _ :: _ :: _, _ => rfl
        rw [e] at k
        exact k
      · have hl : xs.length = 2 := by
          have q : ((xs.length : Nat) : Int) = 2 := by simpa using heq
          omega
        match xs, hl, hx, ha, k with
        | [x, y], _, hx, ha, k =>
          obtain ⟨t1, h1⟩ := hx x (by simp)
          obtain ⟨t2, h2⟩ := hx y (by simp)
          refine ⟨_, rfl, a, _, rfl, SqT.of ha, rfl, _, _, rfl, _, _, rfl, rfl, ?_⟩
          refine ⟨_, rfl, _, rfl, x, n, t1, rfl, h1, _, rfl, ?_⟩
          have k : Q (.bl (belowV x n && belowV y n && ltB x y)) H := k
          refine ite2 (fun b1 => ?_) (fun b1 => ?_)
          · refine ⟨_, rfl, _, rfl, y, n, t2, rfl, h2, _, rfl, ?_⟩
            refine ite2 (fun b2 => ?_) (fun b2 => ?_)
            · rw [b1, b2] at k
              cases x with
              | int i =>
                cases y with
                | int j => exact ⟨_, rfl, _, rfl, _, _, rfl, rfl, k⟩
                | _ => cases b2
              | _ => cases b1
            · rw [b1, Bool.eq_false_iff.mpr b2] at k
              exact k
          · rw [Bool.eq_false_iff.mpr b1] at k
            exact k
end
end One
end P_E3

section P_R1
set_option linter.all false
set_option maxRecDepth 100000
set_option maxHeartbeats 8000000
namespace One
open PySem PySem.Spec PyProof.Rows L2
/-- a list of lists of numbers at B, at bl, f says what stands in each; all made behind H0 -/
structure BSt (H0 H : Hp) (B : Addr) (bl : List Addr) (f : Nat → List Nat) : Prop where
  same : Same H0 H
  b : H B = some (.lst (refs bl))
  at_ : ∀ i a, bl[i]? = some a → H a = some (.lst (nats (f i)))
  new : ∀ a ∈ bl, H0 a = none
  nd : bl.Nodup
  nb : B ∉ bl
theorem BSt.keep {H0 H H' : Hp} {B : Addr} {bl : List Addr} {f : Nat → List Nat} (s : BSt H0 H B bl f) (k : Same H H') : BSt H0 H' B bl f :=
  ⟨s.same.trans k, k _ _ s.b, fun i a h => k _ _ (s.at_ i a h), s.new, s.nd, s.nb⟩
theorem BSt.wr {H0 H : Hp} {B q : Addr} {bl : List Addr} {f : Nat → List Nat} {o : HO} (s : BSt H0 H B bl f) (h0 : H0 q = none) (h1 : q ≠ B) (h2 : q ∉ bl) : BSt H0 (upd H q o) B bl f := by
  refine ⟨fun b u e => ?_, by rw [upd_ne (Ne.symm h1)]; exact s.b, fun i a h => ?_, s.new, s.nd, s.nb⟩
  · rw [upd_ne (ne_of_none e h0)]
    exact s.same _ _ e
  · rw [upd_ne (fun z => h2 (by rw [← z]; exact List.mem_of_getElem? h))]
    exact s.at_ i a h
theorem BSt.add {H0 H : Hp} {B a : Addr} {bl : List Addr} {f : Nat → List Nat} {i x : Nat} (s : BSt H0 H B bl f) (ha : bl[i]? = some a) : BSt H0 (upd H a (.lst (nats (f i) ++ [V.int (x : Nat)]))) B bl (addTo f i x) := by
  have hm := List.mem_of_getElem? ha
  refine ⟨fun b u e => ?_, by rw [upd_ne (fun z => s.nb (by rw [z]; exact hm))]; exact s.b, fun j c h => ?_, s.new, s.nd, s.nb⟩
  · rw [upd_ne (ne_of_none e (s.new a hm))]
    exact s.same _ _ e
  · unfold addTo
    by_cases e : j = i
    · subst e
      rw [ha] at h
      cases h
      rw [if_pos rfl, upd_same, nats_app]
      rfl
    · rw [if_neg e, upd_ne (fun z => e (nd_ix s.nd h (by rw [z]; exact ha)))]
      exact s.at_ j c h
def lenAt (H : Hp) (a : Addr) : Nat := match H a with
  | some (.lst xs) => xs.length
  | _ => 0
def noAt (H : Hp) (a : Addr) : Nat := match H a with
  | some (.lst xs) => xs.countP fun v => match v with | .bl b => !b | _ => false
  | _ => 0
theorem lenAt_of {H : Hp} {a : Addr} {ns : List Nat} (h : H a = some (.lst (nats ns))) : lenAt H a = ns.length := by
  unfold lenAt
  rw [h]
  exact List.length_map _
theorem noAt_of {H : Hp} {a : Addr} {r : List Bool} (h : H a = some (.lst (r.map V.bl))) : noAt H a = r.count false := by
  unfold noAt
  rw [h]
  show (r.map V.bl).countP _ = _
  rw [List.countP_map]
  refine List.countP_congr fun b _ => ?_
  cases b <;> simp
theorem take_ends {H : Hp} {ps : List (Nat × Nat)} {i : Nat} {p : Nat × Nat} (h : ps[i]? = some p) : ps.take (i + 1) = ps.take i ++ [p] := by
  rw [List.take_succ, h]
  rfl
theorem fdiv4 (x : Nat) : ((x : Nat) : Int) / 4 = ((x / 4 : Nat) : Int) := by omega
theorem nodup_app {α : Type} {l : List α} {x : α} (h : l.Nodup) (hx : x ∉ l) : (l ++ [x]).Nodup := by
  refine List.nodup_append.mpr ⟨h, by simp, fun a ha b hb => ?_⟩
  rw [List.mem_singleton.mp hb]
  exact fun e => hx (e ▸ ha)
theorem ix_nat {n j : Nat} (h : j < n) : ixN n ((j : Nat) : Int) = some j := by
  unfold ixN
  rw [if_pos (by omega), if_pos (by omega)]
  rfl
theorem flat_rep {α : Type} (x : α) : ∀ n : Nat, (List.replicate n [x]).flatten = List.replicate n x
  | 0 => rfl
  | n + 1 => by
    rw [List.replicate_succ, List.flatten_cons, flat_rep x n, List.replicate_succ]
    rfl
abbrev sBesideX : Stmt := top 21
abbrev nBesideX : List Str := ["lines", "many", "beside", "low", "high", "_"]
theorem scBesideX : FnScope nBesideX ["lines", "many"] (defScope sBesideX) := ⟨rfl, rfl, rfl, by decide +kernel, rfl, by decide +kernel, by decide +kernel⟩
/-- what is beside each of n crossings by these lines, told as lists in a list, all new -/
def spBesideX : Sp := fun vs H Q _ => ∃ (t : Addr) (n : Nat) (as : List Addr) (ps : List (Nat × Nat)), vs = [.ref t, .int (n : Nat)] ∧ H t = some (.tup (refs as)) ∧ PL H as ps ∧ (∀ p ∈ ps, p.1 < 4 * n ∧ p.2 < 4 * n) ∧ n ≤ 200 ∧ ps.length ≤ 400 ∧
  ∀ (H' : Hp) (D : Addr) (bl : List Addr) (f : Nat → List Nat), BSt H H' D bl f → H D = none → bl.length = n → Beside ps f → Q (.ref D) H'
section
variable {P : Program} {w : World} {K : PySem.W.Frag} {mg : Str → Option Value} {base : Heap}
theorem ok_besideX {f : Addr} {fd : FuncData} (F : Fun K "crossings_beside" "crossings_beside" sBesideX f fd) (T : TB mg) (C : TC mg) : FnOk P w K mg base CX0 1 f fd ["lines", "many"] spBesideX := by
  refine F.ok scBesideX (fun vs H Q E h => ?_) (fun cdv A outer s H vs Q E hr h => ?_)
  · obtain ⟨t, n, as, ps, rfl, _⟩ := h
    rfl
  · obtain ⟨t, n, as, ps, rfl, ht, hP, hA, hn, hpl, k⟩ := h
    have nd := scBesideX.nd
    obtain ⟨t4, ht4⟩ := C.places
    refine ⟨_, pss_cons (ps_setLc (i := 2) (own := [("_", 5)]) (g := gName 5) (tt := tYes) (te := tLst tNil) rfl nd rfl rfl (sw_true rfl rfl rfl (by decide +kernel)) (pi_range1 (by rfl) T.range (pa_cons (pv 1) pa_nil)) (blkOk_by (N := nBesideX) (sc := defScope sBesideX) (by decide +kernel))
        (fun _ _ _ _ _ => pg_name (i := 5) nd rfl (Or.inl rfl)) (fun _ _ _ _ _ => pts_nil) (fun _ _ _ _ _ => pe_lst pa_nil))
      (pss_cons (ps_for PassesOwn.never rfl (pi_tup (pv 0)) (pg_tup rfl (pgs_cons (pg_name (i := 3) nd rfl (Or.inl rfl)) (pgs_cons (pg_name (i := 4) nd rfl (Or.inl rfl)) pgs_nil)))
        (pss_cons (ps_expr (pe_bm PySem.F.plainAttrs_list PySem.F.slot_list_append PySem.F.type_list_append mt_append (pe_ix ix_list (pv 2) (pe_op op_fdiv (pv 3) (pe_glob (v := .int 4) rfl ht4 ⟨_, rfl⟩)) (fun _ _ => rfl)) (pa_cons (pe_op op_fdiv (pv 4) (pe_glob (v := .int 4) rfl ht4 ⟨_, rfl⟩)) pa_nil)))
        (pss_one (ps_expr (pe_bm PySem.F.plainAttrs_list PySem.F.slot_list_append PySem.F.type_list_append mt_append (pe_ix ix_list (pv 2) (pe_op op_fdiv (pv 4) (pe_glob (v := .int 4) rfl ht4 ⟨_, rfl⟩)) (fun _ _ => rfl)) (pa_cons (pe_op op_fdiv (pv 3) (pe_glob (v := .int 4) rfl ht4 ⟨_, rfl⟩)) pa_nil))))))
      (pss_one (ps_ret (pv 2)))), ?_⟩
    have hal : as.length = ps.length := hP.len
    have nl : (refs as).length = as.length := List.length_map _
    refine ⟨_, rfl, n, rfl, by omega, by omega, fun D hD => ?_⟩
    refine lc_it (walk_range (lo := 0) (n := ((n : Nat) : Int).toNat)) (fun i H6 => ∃ bl : List Addr, BSt H H6 D bl (fun _ => []) ∧ bl.length = i) ⟨[], ⟨Same.new hD, upd_same, fun i a h => absurd h (by simp), fun a h => absurd h (by simp), .nil, by simp⟩, rfl⟩ (fun _ _ _ _ => trivial) ?_ ?_
    · rintro i x H6 H7 hi ⟨bl, hB, hl⟩ ⟨rfl, rfl⟩
      refine ⟨rfl, yes ⟨Nat.zero_le _, fun l hl' => ⟨_, (Same.new hl') _ _ hB.b, small1000 ?_, bl ++ [l], ?_, ?_⟩⟩⟩
      · rw [List.length_map]
        omega
      · have s1 := Same.new (o := .lst []) hl'
        have h0 : H l = none := hB.same.free hl'
        have nlD : l ≠ D := (ne_of_none hB.b hl').symm
        have nlb : l ∉ bl := fun m => by
          obtain ⟨j, hj, e⟩ := List.mem_iff_getElem.mp m
          have q := hB.at_ j l (by rw [List.getElem?_eq_getElem hj, e])
          rw [hl'] at q
          cases q
        refine ⟨fun b u e => ?_, by rw [upd_same, refs_app]; rfl, fun j a h => ?_, fun a m => ?_, nodup_app hB.nd nlb, fun m => ?_⟩
        · rw [upd_ne (ne_of_none e hD)]
          exact s1 _ _ (hB.same _ _ e)
        · by_cases hj : j < bl.length
          · rw [List.getElem?_append_left hj] at h
            have q := hB.at_ j a h
            rw [upd_ne (fun z => hB.nb (by rw [← z]; exact List.mem_of_getElem? h))]
            exact s1 _ _ q
          · rw [List.getElem?_append_right (by omega)] at h
            have ea : a = l := by
              have := List.mem_of_getElem? h
              exact List.mem_singleton.mp this
            rw [ea, upd_ne nlD, upd_same]
            rfl
        · rcases List.mem_append.mp m with m | m
          · exact hB.new a m
          · rw [List.mem_singleton.mp m]
            exact h0
        · rcases List.mem_append.mp m with m | m
          · exact hB.nb m
          · exact nlD (List.mem_singleton.mp m).symm
      · rw [List.length_append, hl]
        rfl
    · rintro H6 ⟨bl, hB, hl⟩
      have hl : bl.length = n := by rw [hl]; omega
      refine ⟨_, rfl, t, rfl, ⟨_, SqT.of (hB.same _ _ ht)⟩, for_tup (K := K) (a := t) (xs := refs as) (fun i σ H7 => ∃ (f : Nat → List Nat) (v2 v3 : Option V), σ = [some (.ref t), some (.int (n : Nat)), some (.ref D), v2, v3, none] ∧ BSt H H7 D bl f ∧ Beside (ps.take i) f ∧ ∀ j, (f j).length ≤ 2 * i)
        ⟨fun _ => [], none, none, rfl, hB, beside_nil, fun _ => Nat.zero_le _⟩ (fun i σ H7 _ ⟨f, _, _, _, h, _⟩ => SqT.of (h.same _ _ ht)) ?_ ?_⟩
      · rintro i x σ H7 hx ⟨f, v2, v3, rfl, hB7, hbs, hfl⟩
        obtain ⟨a, ha⟩ : ∃ a, as[i]? = some a := by
          rw [List.getElem?_map] at hx
          cases e : as[i]? with
          | none =>
            rw [e] at hx
            cases hx
          | some a => exact ⟨a, rfl⟩
        rw [List.getElem?_map, ha] at hx
        cases hx
        obtain ⟨p, hp, pa⟩ := hP.got ha
        have hi : i < ps.length := by
          have := (List.getElem?_eq_some_iff.mp ha).1
          omega
        obtain ⟨q1, q2⟩ := hA p (List.mem_of_getElem? hp)
        have g1 : p.1 / 4 < bl.length := by omega
        have g2 : p.2 / 4 < bl.length := by omega
        obtain ⟨b1, hb1⟩ : ∃ b, bl[p.1 / 4]? = some b := ⟨_, List.getElem?_eq_getElem g1⟩
        obtain ⟨b2, hb2⟩ : ∃ b, bl[p.2 / 4]? = some b := ⟨_, List.getElem?_eq_getElem g2⟩
        have pa7 := hB7.same _ _ pa
        refine ⟨a, _, rfl, SqT.of pa7, rfl, _, _, rfl, _, _, rfl, rfl, ?_⟩
        have c1 := hB7.at_ _ _ hb1
        refine ⟨_, rfl, _, rfl, _, _, rfl, rfl, ⟨by decide, by decide⟩, D, _, _, .ref b1, rfl, rfl, SqL.of hB7.b, (by show atI _ (((p.1 : Nat) : Int) / 4) = _; rw [fdiv4]; exact ref_at hb1), .inl ⟨rfl, _, SqL.of c1⟩, _, rfl, _, _, rfl, rfl, ⟨by decide, by decide⟩, b1, _, _, rfl, rfl, c1, small1000 ?_, ?_⟩
        · rw [List.length_map]
          have := hfl (p.1 / 4)
          omega
        have hB8 : BSt H (upd H7 b1 (.lst (nats (f (p.1 / 4)) ++ [V.int (((p.2 : Nat) : Int) / 4)]))) D bl (addTo f (p.1 / 4) (p.2 / 4)) := by
          rw [fdiv4]
          exact hB7.add hb1
        have c2 := hB8.at_ _ _ hb2
        refine ⟨_, rfl, _, rfl, _, _, rfl, rfl, ⟨by decide, by decide⟩, D, _, _, .ref b2, rfl, rfl, SqL.of hB8.b, (by show atI _ (((p.2 : Nat) : Int) / 4) = _; rw [fdiv4]; exact ref_at hb2), .inl ⟨rfl, _, SqL.of c2⟩, _, rfl, _, _, rfl, rfl, ⟨by decide, by decide⟩, b2, _, _, rfl, rfl, c2, small1000 ?_, ?_⟩
        · rw [List.length_map]
          have := hfl (p.2 / 4)
          unfold addTo
          split
          · rw [List.length_append, List.length_singleton]
            omega
          · omega
        have hB9 : BSt H (upd (upd H7 b1 (.lst (nats (f (p.1 / 4)) ++ [V.int (((p.2 : Nat) : Int) / 4)]))) b2 (.lst (nats (addTo f (p.1 / 4) (p.2 / 4) (p.2 / 4)) ++ [V.int (((p.1 : Nat) : Int) / 4)]))) D bl (addTo (addTo f (p.1 / 4) (p.2 / 4)) (p.2 / 4) (p.1 / 4)) := by
          rw [fdiv4 p.1]
          exact hB8.add hb2
        refine ⟨_, _, _, rfl, hB9, ?_, fun j => ?_⟩
        · rw [take_ends (H := H) hp]
          exact beside_add p hbs
        · have := hfl j
          unfold addTo
          split <;> split <;> (try simp only [List.length_append, List.length_singleton]) <;> omega
      · rintro σ H7 ⟨f, v2, v3, rfl, hB7, hbs, hfl⟩
        rw [nl, hP.len, List.take_length] at hbs
        exact ⟨_, rfl, k _ D bl f hB7 hD hl hbs⟩
end
end One
end P_R1

section P_R2
set_option linter.all false
set_option maxRecDepth 100000
set_option maxHeartbeats 8000000
namespace One
open PySem PySem.Spec PyProof.Rows L2
abbrev sReached : Stmt := top 11
abbrev nReached : List Str := ["beside", "start", "told", "waiting", "other"]
theorem scReached : FnScope nReached ["beside", "start"] (defScope sReached) := ⟨rfl, rfl, rfl, by decide +kernel, rfl, by decide +kernel, by decide +kernel⟩
/-- lists of numbers in a list -/
structure LL (H : Hp) (B : Addr) (bl : List Addr) (f : Nat → List Nat) : Prop where
  b : H B = some (.lst (refs bl))
  at_ : ∀ i a, bl[i]? = some a → H a = some (.lst (nats (f i)))
theorem LL.keep {H H' : Hp} {B : Addr} {bl : List Addr} {f : Nat → List Nat} (s : LL H B bl f) (k : Same H H') : LL H' B bl f := ⟨k _ _ s.b, fun i a h => k _ _ (s.at_ i a h)⟩
theorem BSt.ll {H0 H : Hp} {B : Addr} {bl : List Addr} {f : Nat → List Nat} (s : BSt H0 H B bl f) : LL H B bl f := ⟨s.b, s.at_⟩
/-- to which numbers one comes from s, told as a new list of truths -/
def spReached : Sp := fun vs H Q _ => ∃ (B : Addr) (bl : List Addr) (f : Nat → List Nat) (n s : Nat), vs = [.ref B, .int (s : Nat)] ∧ LL H B bl f ∧ bl.length = n ∧ s < n ∧ n ≤ 200 ∧ (∀ i j, i < n → j ∈ f i → j < n) ∧
  ∀ (H' : Hp) (R4 : Addr) (r : List Bool), Same H H' → H R4 = none → H' R4 = some (.lst (r.map V.bl)) → Dfs s n f r [] (fun _ => False) → Q (.ref R4) H'
section
variable {P : Program} {w : World} {K : PySem.W.Frag} {mg : Str → Option Value} {base : Heap}
theorem ok_reached {f : Addr} {fd : FuncData} (F : Fun K "reached" "reached" sReached f fd) (T : TB mg) : FnOk P w K mg base CX0 1 f fd ["beside", "start"] spReached := by
  refine F.ok scReached (fun vs H Q E h => ?_) (fun cdv A outer s H vs Q E hr h => ?_)
  · obtain ⟨B, bl, g, n, st, rfl, _⟩ := h
    rfl
  · obtain ⟨B, bl, g, n, st, rfl, hL, hl, hs, hn, flt, k⟩ := h
    have nd := scReached.nd
    refine ⟨_, pss_cons (ps_set (i := 2) nd rfl (Or.inl rfl) (pe_op op_rep (pe_lst (pa_cons pe_bl pa_nil)) (pe_callB call_len_seq (by rfl) T.len PySem.boot_len (pa_cons (pv 0) pa_nil))))
      (pss_cons (ps_asg pe_bl (pg_sub (pv 2) (pv 1) set_list))
      (C8.pss_cut (ps_set (i := 3) nd rfl (Or.inl rfl) (pe_lst (pa_cons (pv 1) pa_nil)))
      (pss_cons (ps_while PassesOwn.never (pt_truth (pv 3) (by intro _; rfl))
        (pss_one (ps_for PassesOwn.never rfl (pi_list (pe_ix ix_list (pv 0) (pe_bm0 PySem.F.plainAttrs_list PySem.F.slot_list_pop PySem.F.type_list_pop mt_pop (pv 3)) (fun _ _ => rfl))) (pg_name (i := 4) nd rfl (Or.inl rfl))
          (pss_one (ps_if (pt_not (pt_val (pe_ix ix_list (pv 2) (pv 4) (fun _ _ => rfl)))) (pss_cons (ps_asg pe_bl (pg_sub (pv 2) (pv 4) set_list))
            (pss_one (ps_expr (pe_bm PySem.F.plainAttrs_list PySem.F.slot_list_append PySem.F.type_list_append mt_append (pv 3) (pa_cons (pv 4) pa_nil))))) pss_nil)))))
      (pss_one (ps_ret (pv 2)))))), ?_⟩
    have nlb : (((refs bl).length : Nat)) = n := by rw [List.length_map]; exact hl
    refine ⟨by show 1 ≤ sizeLine; decide, fun l1 hl1 => ⟨_, rfl, B, _, rfl, .inl (SqL.of ((Same.new hl1) _ _ hL.b)), ?_⟩⟩
    have s1 := Same.new (o := .lst [V.bl false]) hl1
    refine ⟨l1, _, _, rfl, rfl, upd_same, by omega, by omega, (by rw [nlb]; show 1 * _ ≤ _; exact Nat.le_of_lt (small1000 (by omega))), fun R4 hR4 => ?_⟩
    have s2 := Same.new (o := .lst (List.replicate (((refs bl).length : Nat) : Int).toNat [V.bl false]).flatten) hR4
    have eR : (List.replicate (((refs bl).length : Nat) : Int).toNat [V.bl false]).flatten = (List.replicate n false).map V.bl := by
      rw [nlb, show ((n : Nat) : Int).toNat = n by omega, List.map_replicate]
      exact flat_rep _ n
    have hR0 : H R4 = none := s1.free hR4
    have s12 := s1.trans s2
    refine ⟨_, rfl, _, rfl, R4, _, _, st, rfl, rfl, upd_same, ix_nat (by rw [eR, List.length_map, List.length_replicate]; exact hs), ?_⟩
    rw [eR]
    rw [eR] at s12
    have sa : Same H (upd (upd (upd H l1 (.lst [V.bl false])) R4 (.lst ((List.replicate n false).map V.bl))) R4 (.lst (((List.replicate n false).map V.bl).set st (V.bl true)))) := fun b u e => by
      rw [upd_ne (ne_of_none e hR0)]
      exact s12 _ _ e
    have setR : ∀ (r : List Bool) (j : Nat), (r.map V.bl).set j (V.bl true) = (r.set j true).map V.bl := fun r j => (List.map_set).symm
    refine ⟨fun σ H9 => ∃ (W : Addr) (r : List Bool) (w : List Nat) (v4 : Option V), (H W = none ∧ W ≠ R4) ∧ σ = [some (.ref B), some (.int (st : Nat)), some (.ref R4), some (.ref W), v4] ∧ Same H H9 ∧ H9 R4 = some (.lst (r.map V.bl)) ∧ H9 W = some (.lst (nats w)) ∧ Dfs st n g r w (fun _ => False) ∧ w.length + r.count false ≤ n, ⟨_, rfl, ⟨by show 1 ≤ sizeLine; decide, fun W hW => ?_⟩⟩, ?_⟩
    · have s3 := Same.new (o := .lst [V.int (st : Nat)]) hW
      have hW0 : H W = none := sa.free hW
      have nWR : W ≠ R4 := (ne_of_none upd_same hW).symm
      refine ⟨W, (List.replicate n false).set st true, [st], none, ⟨hW0, nWR⟩, rfl, sa.trans s3, ?_, upd_same, dfs_start g hs, ?_⟩
      · rw [upd_ne (Ne.symm nWR), upd_same, setR]
      · have := count_set (r := List.replicate n false) (j := st) (by rw [List.getElem?_replicate, if_pos hs])
        rw [List.count_replicate_self] at this
        show 1 + _ ≤ n
        omega
    · rintro σ0 H0 ⟨W, r0, w0, v4', ⟨hW0, nWR⟩, rfl, sH0, hR0', hw0, hd0, hm0⟩
      unfold tSeq
      refine while_by (fun σ H9 => ∃ (r : List Bool) (w : List Nat) (v4 : Option V), σ = [some (.ref B), some (.int (st : Nat)), some (.ref R4), some (.ref W), v4] ∧ Same H H9 ∧ H9 R4 = some (.lst (r.map V.bl)) ∧ H9 W = some (.lst (nats w)) ∧ Dfs st n g r w (fun _ => False) ∧ w.length + r.count false ≤ n)
        (fun σ H9 => 2 * noAt H9 R4 + lenAt H9 W) ⟨r0, w0, v4', rfl, sH0, hR0', hw0, hd0, hm0⟩ ?_ ?_
      · rintro σ H9 ⟨r, w, v4, rfl, sH, hR, hw, hd, hm⟩
        refine ⟨_, rfl, _, .inl ⟨_, SqL.of hw, rfl⟩, ?_⟩
        rcases List.eq_nil_or_concat w with rfl | ⟨w', c, rfl⟩
        · refine iteF ?_
          exact ⟨_, rfl, k _ R4 r sH hR0 hR hd⟩
        · rw [List.concat_eq_append] at hw hd hm ⊢
          have hne : (!(nats (w' ++ [c])).isEmpty) = true := by
            rw [nats_app]
            cases nats w' <;> rfl
          rw [hne]
          refine iteT ?_
          have hlast : (nats (w' ++ [c]))[(nats (w' ++ [c])).length - 1]? = some (V.int (c : Nat)) := by
            rw [nats_app, List.length_append]
            show (nats w' ++ [V.int (c : Nat)])[(nats w').length + 1 - 1]? = _
            rw [Nat.add_sub_cancel, List.getElem?_append_right (Nat.le_refl _), Nat.sub_self]
            rfl
          have hdrop : (nats (w' ++ [c])).dropLast = nats w' := by
            rw [nats_app]
            exact List.dropLast_concat
          have sH1 : Same H (upd H9 W (.lst (nats w'))) := fun b u e => by
            rw [upd_ne (ne_of_none e hW0)]
            exact sH _ _ e
          have hL1 := hL.keep sH1
          refine ⟨_, rfl, _, rfl, .inl ⟨rfl, _, SqL.of hw⟩, W, _, _, rfl, rfl, hw, hlast, ?_⟩
          rw [hdrop]
          have hRc : R r c := hd.wt c (List.mem_append.mpr (.inr (List.mem_singleton.mpr rfl)))
          have hcn : c < n := by
            have := (List.getElem?_eq_some_iff.mp hRc).1
            rw [hd.len] at this
            exact this
          have hR1 : (upd H9 W (.lst (nats w'))) R4 = some (.lst (r.map V.bl)) := by
            rw [upd_ne (Ne.symm nWR)]
            exact hR
          obtain ⟨b, hb⟩ : ∃ b, bl[c]? = some b := ⟨_, List.getElem?_eq_getElem (by omega)⟩
          have hbf := hL.at_ _ _ hb
          rw [List.length_append, List.length_singleton] at hm
          have hmu : 2 * noAt H9 R4 + lenAt H9 W = 2 * r.count false + (w'.length + 1) := by
            rw [noAt_of hR, lenAt_of hw, List.length_append, List.length_singleton]
          refine ⟨B, _, _, .ref b, rfl, rfl, SqL.of hL1.b, ref_at hb, b, rfl, ⟨_, SqL.of (sH1 _ _ hbf)⟩, for_list (K := K) (a := b) (xs := nats (g c)) (fun m σ Hm => ∃ (r2 : List Bool) (w2 : List Nat) (v4 : Option V), σ = [some (.ref B), some (.int (st : Nat)), some (.ref R4), some (.ref W), v4] ∧
              Same H Hm ∧ Hm R4 = some (.lst (r2.map V.bl)) ∧ Hm W = some (.lst (nats w2)) ∧ Dfs st n g r2 w2 (· = c) ∧ R r2 c ∧ w2.length + r2.count false + 1 ≤ n ∧ 2 * r2.count false + w2.length + 1 ≤ 2 * r.count false + (w'.length + 1) ∧ ∀ j ∈ (g c).take m, R r2 j)
            ⟨r, w', v4, rfl, sH1, hR1, upd_same, dfs_pop hd, hRc, by omega, by omega, fun j hj => absurd hj (by simp)⟩ (fun m σ Hm _ ⟨_, _, _, _, h, _⟩ => SqL.of (h _ _ hbf)) ?_ ?_⟩
          · rintro m x σ Hm hx ⟨r2, w2, v4, rfl, sH2, hR2, hw2, hd2, hRc2, hm1, hm2, hdone⟩
            obtain ⟨j, hj⟩ : ∃ j, (g c)[m]? = some j := by
              rw [List.getElem?_map] at hx
              cases e : (g c)[m]? with
              | none =>
                rw [e] at hx
                cases hx
              | some a => exact ⟨a, rfl⟩
            rw [List.getElem?_map, hj] at hx
            cases hx
            have hjf : j ∈ g c := List.mem_of_getElem? hj
            have hjn : j < n := flt c j hcn hjf
            have hjr : j < r2.length := by rw [hd2.len]; exact hjn
            obtain ⟨b2, hb2⟩ : ∃ b, r2[j]? = some b := ⟨_, List.getElem?_eq_getElem hjr⟩
            have etake : (g c).take (m + 1) = (g c).take m ++ [j] := by
              rw [List.take_succ, hj]
              rfl
            refine ⟨_, rfl, _, rfl, R4, _, _, .bl b2, rfl, rfl, SqL.of hR2, at_of (j := j) rfl (by rw [List.getElem?_map, hb2]; rfl), b2, rfl, ?_⟩
            cases b2 with
            | true =>
              refine iteF ⟨r2, w2, _, rfl, sH2, hR2, hw2, hd2, hRc2, hm1, hm2, fun i hi => ?_⟩
              rw [etake] at hi
              rcases List.mem_append.mp hi with hi | hi
              · exact hdone i hi
              · rw [List.mem_singleton.mp hi]
                exact hb2
            | false =>
              have hcnt := count_set hb2
              refine iteT ⟨_, rfl, _, rfl, R4, _, _, j, rfl, rfl, hR2, ix_nat (by rw [List.length_map]; exact hjr), ?_⟩
              have hw3 : (upd Hm R4 (.lst ((r2.map V.bl).set j (V.bl true)))) W = some (.lst (nats w2)) := by
                rw [upd_ne nWR]
                exact hw2
              refine ⟨_, rfl, .inl ⟨rfl, _, SqL.of hw3⟩, _, rfl, W, _, _, rfl, rfl, hw3, small1000 (by rw [List.length_map]; omega), ?_⟩
              refine ⟨r2.set j true, w2 ++ [j], _, rfl, (fun b u e => ?_), ?_, ?_, dfs_mark hd2 hRc2 hjf hjn, R_set hRc2, ?_, ?_, fun i hi => ?_⟩
              · rw [upd_ne (ne_of_none e hW0), upd_ne (ne_of_none e hR0)]
                exact sH2 _ _ e
              · rw [upd_ne (Ne.symm nWR), upd_same, setR]
              · rw [upd_same, nats_app]
                rfl
              · rw [List.length_append, List.length_singleton]
                omega
              · rw [List.length_append, List.length_singleton]
                omega
              · rw [etake] at hi
                rcases List.mem_append.mp hi with hi | hi
                · exact R_set (hdone i hi)
                · rw [List.mem_singleton.mp hi]
                  exact R_new hjr
          · rintro σ Hm ⟨r2, w2, v4, rfl, sH2, hR2, hw2, hd2, hRc2, hm1, hm2, hdone⟩
            rw [List.length_map, List.take_length] at hdone
            refine ⟨⟨r2, w2, _, rfl, sH2, hR2, hw2, dfs_finish hd2 hdone, by omega⟩, ?_⟩
            show 2 * noAt Hm R4 + lenAt Hm W < 2 * noAt H9 R4 + lenAt H9 W
            rw [hmu, noAt_of hR2, lenAt_of hw2]
            omega
      · intro σ H1 Q1 Q2 hq h
        obtain ⟨v, e, kk, ht, q⟩ := h
        exact ⟨v, e, kk, ht, hq _ _ q⟩
end
end One
end P_R2

section P_E4
set_option linter.all false
set_option maxRecDepth 100000
set_option maxHeartbeats 4000000
namespace One
open PySem PySem.Spec PyProof.Rows L2
section
variable {P : Program} {w : World} {K : PySem.W.Frag} {mg : Str → Option Value} {base : Heap}
theorem ok_iswhole {f fR fB : Addr} {fd fdR fdB : FuncData} (F : Fun K "is_whole" "is_whole" sIsWhole f fd) (T : TB mg) (DR : Cal K mg "reached" fR fdR ["beside", "start"]) (GR : FnOk P w K mg base CX0 1 fR fdR ["beside", "start"] spReached)
    (DB : Cal K mg "crossings_beside" fB fdB ["lines", "many"]) (GB : FnOk P w K mg base CX0 1 fB fdB ["lines", "many"] spBesideX) : FnOk P w K mg base CX0 2 f fd ["lines"] spIsWhole := by
  refine F.ok scIsWhole (fun vs H Q E h => ?_) (fun cdv A outer s H vs Q E hr h => ?_)
  · obtain ⟨t, n, as, ps, rfl, _⟩ := h
    rfl
  · obtain ⟨t, n, as, ps, rfl, ht, hP, hA, hn, k⟩ := h
    refine ⟨_, pss_one (ps_ret (pe_callB (cr_all rfl) (by rfl) T.all boot_all (pa_cons (pe_call GR hr rfl DR.g DR.kp DR.b .nil pass0 (pa_cons (pe_call GB hr rfl DB.g DB.kp DB.b .nil pass0 (pa_cons (pv 0) (pa_cons (pe_op op_fdiv (pe_callB call_len_seq (by rfl) T.len PySem.boot_len (pa_cons (pv 0) pa_nil)) pe_int) pa_nil))) (pa_cons pe_int pa_nil))) pa_nil))), ?_⟩
    have hal : as.length = 2 * n := by rw [hP.len, hA.len]
    have nl : (refs as).length = as.length := List.length_map _
    have e2 : (((refs as).length : Nat) : Int) / 2 = (n : Nat) := by rw [nl, hal]; omega
    refine ⟨_, rfl, _, rfl, t, _, rfl, .inr (SqT.of ht), _, _, rfl, rfl, ⟨by decide, by decide⟩, t, n, as, ps, (by show [V.ref t, V.int ((((refs as).length : Nat) : Int) / 2)] = _; rw [e2]), ht, hP, hA.lt, by omega, (by rw [hA.len]; omega), fun H1 D bl g hB hD hl hbs => ?_⟩
    refine ⟨D, bl, g, n, 0, rfl, hB.ll, hl, hA.pos, by omega, fun i j hi hj => ?_, fun H2 R4 r s2 hR0 hR hd => ?_⟩
    · obtain ⟨p, hp, q⟩ := (hbs i j).mp hj
      obtain ⟨q1, q2⟩ := hA.lt p hp
      rcases q with ⟨_, q⟩ | ⟨_, q⟩ <;> omega
    · exact ⟨R4, r, rfl, SqL.of hR, k _ _ (hB.same.trans s2) (dfs_whole hbs hd)⟩
end
end One
end P_E4

section P_E5
set_option linter.all false
set_option maxRecDepth 100000
set_option maxHeartbeats 4000000
namespace One
open PySem PySem.Spec PyProof.Rows L2
/-! ### enumerate of a tuple -/
theorem enum_newT (tt : Addr) (xs : Array Value) (sz : Nat) (dc : Option Addr) (sl : Array (Option Value)) :
    Meets (Builtin.«enumerate.__new__» ⟨[.type "enumerate", .ref tt], []⟩) (fun _ R s => s.heap.get? tt = some ⟨.type "tuple", dc, .seq xs sz, sl⟩ ∧
      R (.ok (.ret (.ref (s.heap.push { cls := .type "tuple_iterator", data := .fields #[.ref tt, .int 0 0] }).objs.size)))
        { s with heap := (s.heap.push { cls := .type "tuple_iterator", data := .fields #[.ref tt, .int 0 0] }).push { cls := .type "enumerate", data := .fields #[.none, .bool false, .ref s.heap.objs.size, rawInt 0, .none, .none] } }) :=
  .of_wp fun prog w A R s q => by
    obtain ⟨hp, g, d, tk, os⟩ := s
    obtain ⟨hl, q⟩ := q
    have su := sub_enumerate
    have hT : Heap.IsTuple (Shared.heap ⟨hp, g, d, tk, os⟩) tt xs := ⟨_, hl, rfl, sz, rfl⟩
    wp_walk using AutoSeq1.wpAny_loadPart' hl
    refine wpAny_stack_any fun stk => wpAny_pure ?_
    split
    · rename_i cl _ _ _ _ _
      cases (cl == Value.type "enumerate") <;> (wp_walk using AutoSeq1.wpAny_loadPart' hl, wpAny_pyIter_tuple hT; exact ⟨_, rfl, q⟩)
    · wp_walk using AutoSeq1.wpAny_loadPart' hl, wpAny_pyIter_tuple hT
      exact ⟨_, rfl, q⟩
section
variable {prog : Program} {w : World} {A : Around} {E : Value → Shared → Prop} {s : Shared}
theorem call_enumT {tt : Addr} {xs : Array Value} {Q : Value → Shared → Prop} (hL : s.heap.IsTuple tt xs)
    (k : ∀ g, IsEnum g (s.heap.objs.size + 1) s.heap.objs.size 0 .none → g.IsTupleIter s.heap.objs.size tt 0 → (∀ b o, s.heap.get? b = some o → g.get? b = some o) → Q (.ref (s.heap.objs.size + 1)) { s with heap := g }) :
    wpAny (model prog w) A (call (.type "enumerate") [.ref tt]) Q E s := by
  obtain ⟨⟨cl, dc, da, sl⟩, hl, hcl, sz, hda⟩ := hL
  dsimp only at hcl hda
  subst hcl hda
  refine callType_new F.called_enumerate (by decide) (F.typeCall_enumerate_1 _) (F.newCall_enumerate_1 _) (fun ob => F.args_object_init_2 ob _) F.entry_enumerate_new (enum_newT tt xs sz dc sl) ⟨hl, ?_⟩
  have e1 : (s.heap.push { cls := .type "tuple_iterator", data := .fields #[.ref tt, .int 0 0] }).objs.size = s.heap.objs.size + 1 := Heap.size_push ..
  show _ ∧ _
  rw [e1]
  have e2 : IsEnum ((s.heap.push { cls := .type "tuple_iterator", data := .fields #[.ref tt, .int 0 0] }).push { cls := .type "enumerate", data := .fields #[.none, .bool false, .ref s.heap.objs.size, rawInt 0, .none, .none] }) (s.heap.objs.size + 1) s.heap.objs.size 0 .none := by
    have z := Heap.get?_push_size (s.heap.push { cls := .type "tuple_iterator", data := .fields #[.ref tt, .int 0 0] }) (o := { cls := .type "enumerate", data := .fields #[.none, .bool false, .ref s.heap.objs.size, rawInt 0, .none, .none] }) rfl
    rw [e1] at z
    exact z
  exact ⟨⟨_, e2, rfl⟩, k _ e2 ⟨_, Heap.get?_push_of_some _ (Heap.get?_push_size _ rfl), rfl, rfl⟩ fun b o x => Heap.get?_push_of_some _ (Heap.get?_push_of_some _ x)⟩
end
/-- the tuple at a, each item in a new pair with its number -/
def IteT (K : PySem.W.Frag) (a : Addr) : It :=
  ⟨fun i H => ∃ (xs : List V) (x : V), SqT K H a xs ∧ xs[i]? = some x, fun i H v H' => ∃ T x, v = .ref T ∧ H T = none ∧ H' = upd H T (.tup [.int (i : Nat), x]) ∧ ∀ xs, SqT K H a xs → xs[i]? = some x, fun i H => ∃ xs : List V, SqT K H a xs ∧ xs.length ≤ i⟩
theorem turn_enumT {P : Program} {w : World} {K : PySem.W.Frag} {elts : List Expr} {kk : Nat} {tpos : Pos} (a e it : Addr) (hat : a ≠ it) (hae : a ≠ e) :
    Turn P w K (.Tuple elts kk tpos) (IteT K a) [e, it] e (fun i h => (∃ old, IsEnum h e it ((i : Nat) : Int) old) ∧ h.IsTupleIter it a i ∧ e ≠ it) where
  mem := List.mem_cons_self
  obj := fun i h st b hb => by
    obtain ⟨⟨old, he⟩, ⟨o, ho, _, hd⟩, _⟩ := st
    rcases List.mem_cons.mp hb with z | z
    · rw [z]
      exact ⟨_, he, fun v q => nomatch q⟩
    · exact ⟨o, by rw [List.mem_singleton.mp z]; exact ho, fun v q => by rw [hd] at q; cases q⟩
  keep := fun i h h' ⟨⟨old, he⟩, hi, hne⟩ k => ⟨⟨old, k e (by simp) _ he⟩, hi.at fun o e => k it (by simp) o e, hne⟩
  item := by
    intro X e1 e2 e3 hc i pins s σ H E I hf ⟨⟨old, he⟩, hit, hne⟩ ⟨xs, x, hq, hx⟩
    subst e1 e2 e3
    obtain ⟨its, rv, p, hz⟩ := I.tuple hq
    obtain ⟨u, hu, ru⟩ := rv.get hx
    have hel : e < s.heap.objs.size := Heap.lt_size he
    have hil : it < s.heap.objs.size := by
      obtain ⟨_, q, _⟩ := hit
      exact Heap.lt_size q
    have p' : s.heap.IsTuple a its.toArray := p
    have hlt : i < its.toArray.size := by
      rw [List.size_toArray]
      exact (List.getElem?_eq_some_iff.mp hu).1
    refine wpAny_pyNext_enum_itemD (fp := [it, a]) (Draws.tuple (A := X.A.in1) (show X.A.in1.handled = none from I.ok.hd hc) it a hat its.toArray) he ⟨hit, p'⟩ hlt hne (by simp [hne, Ne.symm hae]) fun x2 g tk hx2 ho hst hT hsz hk => ?_
    have ex : x2 = u := by
      have z : its.toArray[i]? = some x2 := hx2
      rw [List.getElem?_toArray, hu] at z
      exact (Option.some.inj z).symm
    subst ex
    refine ⟨_, rfl, wpAny_letOwnedTupleGo_enum (s := { s with heap := g, toks := tk + 1 }) ho fun g2 he2 sb => ?_⟩
    have hT2 : g2.get? s.heap.objs.size = some { cls := .type "tuple", data := .seq #[.int i tk, x2] } := (sb.2 _ (Nat.ne_of_gt hel)).trans hT
    have made : ObjOk X.prog X.w (upd H s.heap.objs.size (.tup [.int (i : Nat), x])) g2 s.heap.objs.size (.tup [.int (i : Nat), x]) :=
      ⟨two_le, [.int i tk, x2], .cons ⟨_, rfl⟩ (.cons ru .nil), ⟨_, hT2, rfl, _, rfl⟩⟩
    have I1 : Inv X pins σ (upd H s.heap.objs.size (.tup [.int (i : Nat), x])) { s with heap := g2, toks := tk + 1 } :=
      I.turnedNew (ch := [e, it]) (fun b ob hb q => (sb.2 b fun z => hb (by rw [z]; exact List.mem_cons_self)).trans (hk b ob (fun z => hb (by rw [z]; exact List.mem_cons_self)) (fun z => hb (by rw [z]; simp)) q)) hf (Nat.le_refl _) made
    have e0 : ((i + 1 : Nat) : Int) = (i : Int) + 1 := by omega
    refine ⟨.ref s.heap.objs.size, _, I1, rfl, ⟨_, x, rfl, I.hok.fresh (Nat.le_refl _), rfl, fun ys hy => by rw [I.tuple_inj hy hq]; exact hx⟩, ⟨⟨x2, by rw [e0]; exact he2⟩, hst.1.at fun o q => (sb.2 it (Ne.symm hne)).trans q, hne⟩, fun b hb => ?_⟩
    have lt : b < s.heap.objs.size := by
      rcases List.mem_cons.mp hb with z | z
      · rw [z]
        exact hel
      · rw [List.mem_singleton.mp z]
        exact hil
    exact (upd_ne (Nat.ne_of_lt lt)).trans (hf b hb).1
  done := by
    intro X e1 e2 e3 hc i pins s σ H E I hf ⟨⟨old, he⟩, hit, hne⟩ ⟨xs, hq, hx⟩
    subst e1 e2 e3
    obtain ⟨its, rv, p, hz⟩ := I.tuple hq
    obtain ⟨f0, f1, f2, f3, f4, f5⟩ := hf it (by simp)
    have hn : its.toArray.size ≤ i := by
      rw [List.size_toArray, ← rv.length]
      exact hx
    unfold pyNext
    have hT : s.TypeIs (.ref e) "enumerate" := ⟨_, he, rfl⟩
    refine wpAny_bind (wpAny_attempt (wpAny_callSpecial?_slot (name := Str.ofString "__next__") hT F.slot_enumerate_next (wpAny_call_entry F.slot_enumerate_next hT F.entry_enumerate_next ?_ (F.args_enumerate_next_1 _))))
    show wpAny _ _ (field (.ref e) 2 >>= _) _ _ _
    refine wpAny_bind (wpAny_field he rfl (x := .ref it) rfl (wpAny_bind (wpAny_nextOf_tuple_end (I.ok.hd hc) hit (show s.heap.IsTuple a its.toArray from p) (Array.getElem?_eq_none hn) fun g x hg ⟨o, ho, hco⟩ => ?_)))
    exact wpAny_bind (wpAny_isInstance (T := "StopIteration") (b := true) ⟨o, ho, hco⟩ isSubtype_stop (wpAny_pure ⟨rfl, I.turned (t' := s.toks) (fun b o hb e => hg b o hb e) f0 f1 f3 f4 f5⟩))
  self := fun A i s Q E ⟨⟨_, he⟩, _⟩ q => wpAny_pyIter_enum he q
def iEnumT (K : PySem.W.Frag) (ta : TA) : TI := fun σ H R => ta σ H fun vs H1 => ∃ a xs, vs = [.ref a] ∧ SqT K H1 a xs ∧ R (IteT K a) H1
theorem pi_enumT {X : Cx} {e : Expr} {ta : TA} {p pos tpos : Pos} {elts : List Expr} {kk : Nat} (hg : Gl X "enumerate") (hm : X.mg "enumerate" = none) (ha : PA X [e] ta) (hs : starEach [e] X.env = [(false, eval e X.env)] := by rfl) :
    PI X (.Tuple elts kk tpos) (.Call (.Name "enumerate" p) [e] [] pos) (iEnumT X.K ta) := by
  refine ⟨fun pins s σ H R I q0 => Call_ (ld_blt I hg hm boot_enumerate (PyProof.Rows.callWith_type1 (thn (ha.run pos pins s σ H _ I q0) fun us s1 ⟨vs, H1, I1, r1, a, xs, ex, hq, q⟩ => ?_) hs rfl))⟩
  subst ex
  cases r1 with
  | cons r rr =>
    cases rr
    cases r
    obtain ⟨its, rv, p', hz⟩ := I1.tuple hq
    have hal : a < s1.heap.objs.size := by
      obtain ⟨o, ho, _⟩ := p'
      exact Heap.lt_size ho
    refine call_enumT (show s1.heap.IsTuple a its.toArray from p') fun g he hit hk => wpAny_pyIter_enum he ?_
    have I2 : Inv X pins σ H1 { s1 with heap := g } := I1.kept (t' := s1.toks) hk
    refine ⟨s1.heap.objs.size + 1, [s1.heap.objs.size + 1, s1.heap.objs.size], _, _, H1, rfl, I2, turn_enumT a (s1.heap.objs.size + 1) s1.heap.objs.size (Nat.ne_of_lt hal) (Nat.ne_of_lt (Nat.lt_succ_of_lt hal)), ⟨⟨.none, he⟩, hit, Nat.succ_ne_self _⟩, fun b hb => ?_, q⟩
    have le : s1.heap.objs.size ≤ b := by
      rcases List.mem_cons.mp hb with z | z
      · rw [z]
        exact Nat.le_add_right _ _
      · rw [List.mem_singleton.mp z]
        exact Nat.le_refl _
    exact I1.fpOk le (I1.hok.fresh le)
theorem walk_enumT {K : PySem.W.Frag} {a : Addr} {xs : List V} : Walk (IteT K a) xs.length (fun H => SqT K H a xs) (YPair (fun i => some (.int (i : Nat))) (fun i => xs[i]?)) := by
  refine ⟨fun i _ hi q => ⟨xs, xs[i], q, List.getElem?_eq_getElem hi⟩, fun _ q => ⟨xs, q, Nat.le_refl _⟩, fun i H v H' _ q ⟨T, x, h1, h2, h3, h4⟩ => ⟨T, .int (i : Nat), x, h1, h2, h3, rfl, h4 xs q⟩⟩
end One
end P_E5

section P_M4
set_option linter.all false
namespace One
/-! ### the look at a yard, line by line -/
def leB (p q : Nat × Nat) : Bool := decide (p.1 < q.1) || (decide (p.1 = q.1) && decide (p.2 ≤ q.2))
def notUp (p : Nat × Nat) : Option (Nat × Nat) → Bool
  | none => false
  | some q => leB p q
/-- the number of the first thing that can't be: none is what is no line -/
def goF : Nat → List Nat → Option (Nat × Nat) → List (Option (Nat × Nat)) → Option Nat
  | _, _, _, [] => none
  | k, _, _, none :: _ => some k
  | k, met, ah, some p :: r => if notUp p ah || met.contains p.1 || met.contains p.2 then some k else goF (k + 1) (met ++ [p.1, p.2]) (some p) r
theorem goF_pairs : ∀ (os : List (Option (Nat × Nat))) (k : Nat) (met : List Nat) (ah : Option (Nat × Nat)), goF k met ah os = none → os = (os.filterMap id).map some
  | [], _, _, _, _ => rfl
  | none :: r, k, met, ah, h => by cases h
  | some p :: r, k, met, ah, h => by
    unfold goF at h
    split at h
    · cases h
    · have := goF_pairs r _ _ _ h
      simp only [List.filterMap_cons, id, List.map_cons]
      rw [← this]
theorem goF_good : ∀ (ps : List (Nat × Nat)) (k : Nat) (met : List Nat) (ah : Option (Nat × Nat)), (∀ q, ah = some q → ∀ p ∈ ps, ltP q p) → ps.Pairwise ltP → (met ++ ends ps).Nodup → goF k met ah (ps.map some) = none
  | [], _, _, _, _, _, _ => rfl
  | p :: r, k, met, ah, h1, h2, h3 => by
    obtain ⟨hp, hr⟩ := List.pairwise_cons.mp h2
    have h3 : (met ++ (p.1 :: p.2 :: ends r)).Nodup := h3
    have n1 : ¬ p.1 ∈ met := fun m => (List.nodup_append.mp h3).2.2 _ m p.1 (by simp) rfl
    have n2 : ¬ p.2 ∈ met := fun m => (List.nodup_append.mp h3).2.2 _ m p.2 (by simp) rfl
    have up : notUp p ah = false := by
      cases e : ah with
      | none => rfl
      | some q =>
        have := h1 q e p (List.mem_cons.mpr (.inl rfl))
        unfold ltP at this
        unfold notUp leB
        simp only [Bool.or_eq_false_iff, Bool.and_eq_false_iff, decide_eq_false_iff_not]
        omega
    show (if notUp p ah || met.contains p.1 || met.contains p.2 then some k else goF (k + 1) (met ++ [p.1, p.2]) (some p) (r.map some)) = none
    rw [if_neg (by simp [up, n1, n2])]
    refine goF_good r _ _ _ (fun q e x hx => ?_) hr ?_
    · cases e
      exact hp x hx
    · rw [List.append_assoc]
      exact h3
theorem yard_good {n : Nat} {L : List (Nat × Nat)} (y : Yard n L) : goF 0 [] none (L.map some) = none := goF_good L 0 [] none (fun _ e => by cases e) y.up (by simpa using y.lines.nd)
end One
end P_M4

section P_E6
set_option linter.all false
set_option maxRecDepth 100000
set_option maxHeartbeats 8000000
namespace One
open PySem PySem.Spec PyProof.Rows L2
abbrev sFault : Stmt := top 17
abbrev nFault : List Str := ["thing", "many_ends", "taken", "ahead", "number", "line"]
theorem scFault : FnScope nFault ["thing"] (defScope sFault) := ⟨rfl, rfl, rfl, by decide +kernel, rfl, by decide +kernel, by decide +kernel⟩
/-- things that stand in a tuple, and what lines they are -/
inductive IL (H : Hp) (n : Nat) : List V → List (Option (Nat × Nat)) → Prop
  | nil : IL H n [] []
  | line {a p xs os} : PAt H a p → p.1 < p.2 → p.2 < n → IL H n xs os → IL H n (.ref a :: xs) (some p :: os)
  | flat {x T xs os} : TV H x T → isTup T = false → IL H n xs os → IL H n (x :: xs) (none :: os)
  | tup {a ys xs os} : H a = some (.tup ys) → (∀ y ∈ ys, ∃ T, TV H y T) → lineB ys n = false → IL H n xs os → IL H n (.ref a :: xs) (none :: os)
theorem IL.len {H : Hp} {n : Nat} {xs : List V} {os : List (Option (Nat × Nat))} (h : IL H n xs os) : xs.length = os.length := by
  induction h with
  | nil => rfl
  | line _ _ _ _ ih => simp [ih]
  | flat _ _ _ ih => simp [ih]
  | tup _ _ _ _ ih => simp [ih]
theorem IL.pairs {H : Hp} {n : Nat} : ∀ {ps : List (Nat × Nat)} {xs : List V}, IL H n xs (ps.map some) → ∃ as, xs = refs as ∧ PL H as ps ∧ ∀ p ∈ ps, p.1 < p.2 ∧ p.2 < n
  | [], _, .nil => ⟨[], rfl, .nil, fun p h => absurd h (by simp)⟩
  | p :: r, _, .line h1 h2 h3 t => by
    obtain ⟨as, e, h4, h5⟩ := IL.pairs t
    exact ⟨_ :: as, by rw [e]; rfl, .cons h1 h4, fun q hq => (List.mem_cons.mp hq).elim (fun e => e ▸ ⟨h2, h3⟩) (h5 q)⟩
theorem TV.mono {H H' : Hp} {v : V} {T : String} (h : TV H v T) (k : Same H H') : TV H' v T := by
  cases h with
  | non => exact .non
  | bl b => exact .bl b
  | int i => exact .int i
  | str x => exact .str x
  | tup e => exact .tup (k _ _ e)
  | lst e => exact .lst (k _ _ e)
  | dct e => exact .dct (k _ _ e)
theorem IL.mono {H H' : Hp} {n : Nat} {xs : List V} {os : List (Option (Nat × Nat))} (h : IL H n xs os) (k : Same H H') : IL H' n xs os := by
  induction h with
  | nil => exact .nil
  | line h1 h2 h3 _ ih => exact .line (k _ _ h1) h2 h3 ih
  | flat h1 h2 _ ih => exact .flat (h1.mono k) h2 ih
  | tup h1 h2 h3 _ ih => exact .tup (k _ _ h1) (fun y m => let ⟨T, t⟩ := h2 y m; ⟨T, t.mono k⟩) h3 ih
theorem IL.split {H : Hp} {n : Nat} {xs : List V} {os : List (Option (Nat × Nat))} (h : IL H n xs os) : ∀ {i : Nat} {x : V}, xs[i]? = some x → ∃ o, os[i]? = some o ∧ IL H n [x] [o] := by
  induction h with
  | nil => intro i x e; simp at e
  | line h1 h2 h3 _ ih =>
    intro i x e
    cases i with
    | zero =>
      have e := Option.some.inj e
      subst e
      exact ⟨_, rfl, .line h1 h2 h3 .nil⟩
    | succ i => exact ih (i := i) (by simpa using e)
  | flat h1 h2 _ ih =>
    intro i x e
    cases i with
    | zero =>
      have e := Option.some.inj e
      subst e
      exact ⟨_, rfl, .flat h1 h2 .nil⟩
    | succ i => exact ih (i := i) (by simpa using e)
  | tup h1 h2 h3 _ ih =>
    intro i x e
    cases i with
    | zero =>
      have e := Option.some.inj e
      subst e
      exact ⟨_, rfl, .tup h1 h2 h3 .nil⟩
    | succ i => exact ih (i := i) (by simpa using e)
/-- the line that stood ahead -/
def AheadAt (H : Hp) (a : Addr) : Option (Nat × Nat) → Prop
  | none => H a = some (.tup [])
  | some q => PAt H a q
theorem le_none (p : Nat × Nat) : Ob.lexAt (fun j => decide (([(p.1 : Int), (p.2 : Int)] : List Int).getD j 0 = ([] : List Int).getD j 0)) (fun j => decide (([(p.1 : Int), (p.2 : Int)] : List Int).getD j 0 ≤ ([] : List Int).getD j 0)) (decide (([(p.1 : Int), (p.2 : Int)] : List Int).length ≤ ([] : List Int).length)) 0 (min ([(p.1 : Int), (p.2 : Int)] : List Int).length ([] : List Int).length) = false := rfl
theorem le_some (p q : Nat × Nat) : Ob.lexAt (fun j => decide (([(p.1 : Int), (p.2 : Int)] : List Int).getD j 0 = ([(q.1 : Int), (q.2 : Int)] : List Int).getD j 0)) (fun j => decide (([(p.1 : Int), (p.2 : Int)] : List Int).getD j 0 ≤ ([(q.1 : Int), (q.2 : Int)] : List Int).getD j 0)) (decide (([(p.1 : Int), (p.2 : Int)] : List Int).length ≤ ([(q.1 : Int), (q.2 : Int)] : List Int).length)) 0 (min ([(p.1 : Int), (p.2 : Int)] : List Int).length ([(q.1 : Int), (q.2 : Int)] : List Int).length) = leB p q := by
  show (if decide ((p.1 : Int) = (q.1 : Int)) = true then (if decide ((p.2 : Int) = (q.2 : Int)) = true then true else decide ((p.2 : Int) ≤ (q.2 : Int))) else decide ((p.1 : Int) ≤ (q.1 : Int))) = leB p q
  unfold leB
  rw [Bool.eq_iff_iff]
  simp only [decide_eq_true_eq, Bool.or_eq_true, Bool.and_eq_true]
  constructor
  · intro h
    split at h
    · split at h
      · omega
      · simp only [decide_eq_true_eq] at h
        omega
    · simp only [decide_eq_true_eq] at h
      omega
  · intro h
    split
    · split
      · rfl
      · simp only [decide_eq_true_eq]
        omega
    · simp only [decide_eq_true_eq]
      omega
def spFault : Sp := fun vs H Q _ => ∃ v : V, vs = [v] ∧
  (((∃ T, TV H v T ∧ isTup T = false) ∨ ∃ (t : Addr) (xs : List V), v = .ref t ∧ H t = some (.tup xs) ∧ canBe (xs.length : Nat) = false) ∧ (∀ (H' : Hp) (p : Addr), Same H H' → H' p = some (.tup []) → Q (.ref p) H') ∨
  ∃ (t : Addr) (xs : List V) (os : List (Option (Nat × Nat))), v = .ref t ∧ H t = some (.tup xs) ∧ canBe (xs.length : Nat) = true ∧ IL H (2 * xs.length) xs os ∧
    (∀ k, goF 0 [] none os = some k → ∀ (H' : Hp) (p : Addr), Same H H' → H' p = some (.tup [.int (k : Nat)]) → Q (.ref p) H') ∧
    (goF 0 [] none os = none → ∀ ps, os = ps.map some → (Whole (xs.length / 2) ps → ∀ H', Same H H' → Q .non H') ∧ (¬ Whole (xs.length / 2) ps → ∀ (H' : Hp) (p : Addr), Same H H' → H' p = some (.tup [.int (xs.length : Nat)]) → Q (.ref p) H')))
section
variable {P : Program} {w : World} {K : PySem.W.Frag} {mg : Str → Option Value} {base : Heap}
theorem ok_fault {f fB fL fW : Addr} {fd fdB fdL fdW : FuncData} (F : Fun K "yard_fault" "yard_fault" sFault f fd) (T : TB mg) (B : Cal K mg "can_be_many_lines" fB fdB ["many"]) (GB : FnOk P w K mg base CX0 1 fB fdB ["many"] spCanBe)
    (L : Cal K mg "is_line" fL fdL ["thing", "many_ends"]) (GL : FnOk P w K mg base CX0 3 fL fdL ["thing", "many_ends"] spIsLine) (W : Cal K mg "is_whole" fW fdW ["lines"]) (GW : FnOk P w K mg base CX0 2 fW fdW ["lines"] spIsWhole) :
    FnOk P w K mg base CX0 4 f fd ["thing"] spFault := by
  refine F.ok scFault (fun vs H Q E h => ?_) (fun cdv A outer s H vs Q E hr h => ?_)
  · obtain ⟨v, rfl, _⟩ := h
    rfl
  · obtain ⟨v, rfl, h⟩ := h
    have nd := scFault.nd
    have hu := hu_of hr
    have hu0 : (A.deeper (envOfC "yard_fault" (defScope sFault) s.heap.objs.size f cdv)).units < cLine := Nat.lt_of_succ_lt hu
    have hr1 : Room 1 _ := hr.mono (by decide)
    have hrW : Room 2 _ := hr.mono (by decide)
    refine ⟨_, pss_cons (ps_if (pt_mid (PW.pt (pw_or (pt_not (pt_val (pe_callB call_isi (by rfl) T.isinstance boot_isinstance (pa_cons (pv 0) (pa_cons (pe_bltn (v := .ty "tuple") (by rfl) T.tuple boot_tuple rfl) pa_nil)))))
        (pw_or1 (pt_not (pt_val (pe_call GB hr1 rfl B.g B.kp B.b .nil pass0 (pa_cons (pe_callB call_len_seq (by rfl) T.len PySem.boot_len (pa_cons (pv 0) pa_nil)) pa_nil)))))))) (pss_one (ps_ret (pe_tup pa_nil))) pss_nil)
      (pss_cons (ps_set (i := 1) nd rfl (Or.inl rfl) (pe_op op_mul pe_int (pe_callB call_len_seq (by rfl) T.len PySem.boot_len (pa_cons (pv 0) pa_nil))))
      (pss_cons (ps_set (i := 2) nd rfl (Or.inl rfl) (pe_op op_rep (pe_lst (pa_cons pe_bl pa_nil)) (pv 1)))
      (pss_cons (ps_set (i := 3) nd rfl (Or.inl rfl) (pe_tup pa_nil))
      (pss_cons (ps_for PassesOwn.never rfl (pi_enumT (by rfl) T.enumerate (pa_cons (pv 0) pa_nil)) (pg_tup rfl (pgs_cons (pg_name (i := 4) nd rfl (Or.inl rfl)) (pgs_cons (pg_name (i := 5) nd rfl (Or.inl rfl)) pgs_nil)))
        (pss_cons (ps_if (pt_mid (PW.pt (pw_or (pt_not (pt_val (pe_call GL hr rfl L.g L.kp L.b .nil pass0 (pa_cons (pv 5) (pa_cons (pv 1) pa_nil)))))
            (pw_or (pt_cmpR (op_leT hu0) (pv 5) (pv 3) (nomark _)) (pw_or (pt_val (pe_ix ix_list (pv 2) (pe_ix ix_tup (pv 5) pe_int (fun _ _ => rfl)) (fun _ _ => rfl))) (pw_or1 (pt_val (pe_ix ix_list (pv 2) (pe_ix ix_tup (pv 5) pe_int (fun _ _ => rfl)) (fun _ _ => rfl)))))))))
            (pss_one (ps_ret (pe_tup (pa_cons (pv 4) pa_nil)))) pss_nil)
        (pss_cons (ps_asg2 pe_bl (pg_sub (pv 2) (pe_ix ix_tup (pv 5) pe_int (fun _ _ => rfl)) set_list) (pg_sub (pv 2) (pe_ix ix_tup (pv 5) pe_int (fun _ _ => rfl)) set_list))
        (pss_one (ps_set (i := 3) nd rfl (Or.inl rfl) (pv 5))))))
      (pss_one (ps_ret (pe_ifExp (pt_val (pe_call GW hrW rfl W.g W.kp W.b .nil pass0 (pa_cons (pv 0) pa_nil))) pe_non (pe_tup (pa_cons (pe_callB call_len_seq (by rfl) T.len PySem.boot_len (pa_cons (pv 0) pa_nil)) pa_nil))))))))), ?_⟩
    rcases h with ⟨h, k⟩ | ⟨t, xs, os, rfl, ht, hc, hI, k1, k2⟩
    · refine ⟨fun b H' => b = true ∧ Same H H', ?_, ?_⟩
      · rcases h with ⟨ty, hv, hT⟩ | ⟨t, xs, rfl, ht, hc⟩
        · refine ⟨_, rfl, v, _, _, _, _, rfl, .ty _, hv.tyx, hv.kTup, _, rfl, ?_⟩
          rw [hT]
          exact iteT ⟨rfl, Same.refl H⟩
        · refine ⟨_, rfl, _, _, _, _, _, rfl, .ty _, (TV.tup ht).tyx, (TV.tup ht).kTup, _, rfl, ?_⟩
          refine iteF ⟨_, rfl, t, _, rfl, .inr (SqT.of ht), _, rfl, fun H' s' => ⟨_, rfl, ?_⟩⟩
          rw [hc]
          exact ⟨rfl, s'⟩
      · rintro b H' ⟨rfl, s'⟩
        exact iteT ⟨Nat.zero_le _, fun p hp => k _ p (s'.trans (Same.new hp)) upd_same⟩
    · have hcb : 2 ≤ xs.length ∧ xs.length ≤ 80 ∧ xs.length % 2 = 0 := by
        unfold canBe at hc
        simp only [Bool.and_eq_true, decide_eq_true_eq] at hc
        omega
      refine ⟨fun b H' => b = false ∧ Same H H', ?_, ?_⟩
      · refine ⟨_, rfl, _, _, _, _, _, rfl, .ty _, (TV.tup ht).tyx, (TV.tup ht).kTup, _, rfl, ?_⟩
        refine iteF ⟨_, rfl, t, _, rfl, .inr (SqT.of ht), _, rfl, fun H' s' => ⟨_, rfl, ?_⟩⟩
        rw [hc]
        exact ⟨rfl, s'⟩
      · rintro b H1 ⟨rfl, s1⟩
        have ht1 := s1 _ _ ht
        have e2 : (2 : Int) * (xs.length : Nat) = ((2 * xs.length : Nat) : Int) := by omega
        refine iteF ⟨_, rfl, t, _, rfl, .inr (SqT.of ht1), _, _, rfl, rfl, .inl ⟨by decide, by decide⟩, ?_⟩
        refine ⟨by show 1 ≤ sizeLine; decide, fun l1 hl1 => ⟨_, rfl, l1, ((2 * xs.length : Nat) : Int), _, rfl, (by show V.int ((2 : Int) * (xs.length : Nat)) = _; rw [e2]), upd_same, by omega, by omega, (by show 1 * _ ≤ _; exact Nat.le_of_lt (small1000 (by omega))), fun tk htk => ?_⟩⟩
        have eR : (List.replicate ((2 * xs.length : Nat) : Int).toNat [V.bl false]).flatten = (List.replicate (2 * xs.length) false).map V.bl := by
          rw [show ((2 * xs.length : Nat) : Int).toNat = 2 * xs.length by omega, List.map_replicate]
          exact flat_rep _ _
        have s2 := Same.new (o := .lst [V.bl false]) hl1
        have s3 := Same.new (o := .lst (List.replicate ((2 * xs.length : Nat) : Int).toNat [V.bl false]).flatten) htk
        refine ⟨Nat.zero_le _, fun a0 ha0 => ?_⟩
        have s4 := Same.new (o := .tup []) ha0
        have sA := s1.trans (s2.trans (s3.trans s4))
        have htk0 : H tk = none := (s1.trans s2).free htk
        have ntk : ∀ b o, H b = some o → b ≠ tk := fun b o e => ne_of_none e htk0
        refine ⟨_, rfl, t, _, rfl, SqT.of (sA _ _ ht), for_it (walk_enumT (K := K) (a := t) (xs := xs)) (fun i σ H2 => ∃ (ah : Addr) (bs : List Bool) (met : List Nat) (o : Option (Nat × Nat)) (v4 v5 : Option V),
            σ = [some (.ref t), some (.int ((2 : Int) * (xs.length : Nat))), some (.ref tk), some (.ref ah), v4, v5] ∧ Same H H2 ∧ H2 tk = some (.lst (bs.map V.bl)) ∧ bs.length = 2 * xs.length ∧ (∀ e, e < 2 * xs.length → bs[e]? = some (met.contains e)) ∧ AheadAt H2 ah o ∧ goF i met o (os.drop i) = goF 0 [] none os)
          ⟨a0, List.replicate (2 * xs.length) false, [], none, none, none, rfl, sA, ?_, List.length_replicate, fun e he => by rw [List.getElem?_replicate, if_pos he]; rfl, upd_same, rfl⟩ (fun i σ H2 _ ⟨_, _, _, _, _, _, _, s', _⟩ => SqT.of (s' _ _ ht)) ?_ ?_⟩
        · rw [← eR]
          exact s4 _ _ upd_same
        · rintro i x σ H2 H3 hi ⟨ah, bs, met, o, v4, v5, rfl, s5, htk2, hbl, hbs, hah, hgo⟩ ⟨T, x', y', rfl, hT, rfl, ex, ey⟩
          cases ex
          have s6 := Same.new (o := .tup [V.int (i : Nat), y']) hT
          obtain ⟨oi, hoi, hI1⟩ := hI.split ey
          have hdrop : os.drop i = oi :: os.drop (i + 1) := by
            obtain ⟨hlt, e⟩ := List.getElem?_eq_some_iff.mp hoi
            rw [List.drop_eq_getElem_cons hlt, e]
          rw [hdrop] at hgo
          refine ⟨T, _, rfl, SqT.of upd_same, rfl, _, _, rfl, _, _, rfl, rfl, ?_⟩
          have htk3 := s6 _ _ htk2
          have nn : ((2 : Int) * (xs.length : Nat)) = ((2 * xs.length : Nat) : Int) := e2
          have bad : goF i met o (oi :: os.drop (i + 1)) = some i → ∀ (H4 : Hp), Same H H4 → tRet (tTup (tCons (tVar 4) tNil)) { nx := fun _ H' => Q .non H', rt := Q } [some (.ref t), some (.int ((2 : Int) * (xs.length : Nat))), some (.ref tk), some (.ref ah), some (.int (i : Nat)), some y'] H4 := by
            intro hb H4 s7
            refine ⟨_, rfl, by show 1 ≤ sizeLine; decide, fun p hp => ?_⟩
            exact k1 i (hgo.symm.trans hb) _ p (s7.trans (Same.new hp)) upd_same
          have hI3 := (hI1.mono s5).mono s6
          cases oi with
          | none =>
            refine ⟨fun b H4 => b = true ∧ Same (upd H2 T (.tup [V.int (i : Nat), y'])) H4, ?_, ?_⟩
            · have key : ∀ Q' : Bool → Hp → Prop, Q' false (upd H2 T (.tup [V.int (i : Nat), y'])) → spIsLine [y', .int ((2 : Int) * (xs.length : Nat))] (upd H2 T (.tup [V.int (i : Nat), y'])) (fun v H' => ∃ c, v = .bl c ∧ Q' c H') E0 := by
                intro Q' q
                cases hI3 with
                | flat h1 h2 _ => exact ⟨_, _, rfl, .inl ⟨_, h1, h2, false, rfl, q⟩⟩
                | tup h1 h2 h3 _ =>
                  refine ⟨_, _, rfl, .inr ⟨_, _, rfl, h1, h2, false, ?_, q⟩⟩
                  rw [nn, h3]
              refine ⟨_, rfl, _, rfl, ?_⟩
              exact key _ (iteT ⟨rfl, Same.refl _⟩)
            · rintro b H4 ⟨rfl, s7⟩
              exact iteT (bad rfl H4 (s5.trans (s6.trans s7)))
          | some p =>
            cases hI3 with
            | @line a _ _ _ pa hlt hn _ =>
              have q1 : p.1 < 2 * xs.length := by omega
              have g1 := hbs p.1 q1
              have g2 := hbs p.2 hn
              have at1 : atI (bs.map V.bl) ((p.1 : Nat) : Int) = some (V.bl (met.contains p.1)) := at_of (j := p.1) rfl (by rw [List.getElem?_map, g1]; rfl)
              have at2 : atI (bs.map V.bl) ((p.2 : Nat) : Int) = some (V.bl (met.contains p.2)) := at_of (j := p.2) rfl (by rw [List.getElem?_map, g2]; rfl)
              refine ⟨fun b H4 => b = (notUp p o || met.contains p.1 || met.contains p.2) ∧ H4 = upd H2 T (.tup [V.int (i : Nat), V.ref a]), ?_, ?_⟩
              · have hline : lineB [V.int (p.1 : Nat), V.int (p.2 : Nat)] ((2 : Int) * (xs.length : Nat)) = true := by
                  show (decide (0 ≤ ((p.1 : Nat) : Int)) && decide (((p.1 : Nat) : Int) < (2 : Int) * (xs.length : Nat)) && (decide (0 ≤ ((p.2 : Nat) : Int)) && decide (((p.2 : Nat) : Int) < (2 : Int) * (xs.length : Nat))) && decide (((p.1 : Nat) : Int) < ((p.2 : Nat) : Int))) = true
                  simp only [Bool.and_eq_true, decide_eq_true_eq]
                  omega
                refine ⟨_, rfl, _, rfl, _, _, rfl, .inr ⟨a, _, rfl, pa, fun y hy => ?_, _, rfl, ?_⟩⟩
                · simp only [List.mem_cons, List.not_mem_nil, or_false] at hy
                  rcases hy with rfl | rfl <;> exact ⟨_, .int _⟩
                rw [hline]
                refine iteF ⟨_, rfl, _, rfl, a, ah, [(p.1 : Int), (p.2 : Int)], (match o with | none => [] | some q => [(q.1 : Int), (q.2 : Int)]), rfl, rfl, SqT.of pa, ?_, _, rfl, ?_⟩
                · cases o with
                  | none => exact SqT.of (s6 _ _ hah)
                  | some q => exact SqT.of (s6 _ _ hah)
                have ele : ∀ (R : Bool → Prop), R (notUp p o) → R (Ob.lexAt (fun j => decide (([(p.1 : Int), (p.2 : Int)] : List Int).getD j 0 = ((match o with | none => [] | some q => [(q.1 : Int), (q.2 : Int)]) : List Int).getD j 0)) (fun j => decide (([(p.1 : Int), (p.2 : Int)] : List Int).getD j 0 ≤ ((match o with | none => [] | some q => [(q.1 : Int), (q.2 : Int)]) : List Int).getD j 0)) (decide (([(p.1 : Int), (p.2 : Int)] : List Int).length ≤ ((match o with | none => [] | some q => [(q.1 : Int), (q.2 : Int)]) : List Int).length)) 0 (min ([(p.1 : Int), (p.2 : Int)] : List Int).length ((match o with | none => [] | some q => [(q.1 : Int), (q.2 : Int)]) : List Int).length)) := by
                  intro R r
                  cases o with
                  | none => exact r
                  | some q =>
                    have := le_some p q
                    rw [this]
                    exact r
                refine ele (fun c => if c = true then _ else _) ?_
                refine ite2 (fun hu => ?_) (fun hu => ?_)
                · exact ⟨by rw [hu]; rfl, rfl⟩
                · have hu := Bool.eq_false_iff.mpr hu
                  refine ⟨_, rfl, _, rfl, a, _, _, _, rfl, rfl, SqT.of pa, rfl, tk, _, _, _, rfl, rfl, SqL.of htk3, at1, _, rfl, ?_⟩
                  refine ite2 (fun h1 => ?_) (fun h1 => ?_)
                  · exact ⟨by rw [hu, h1]; rfl, rfl⟩
                  · have h1 := Bool.eq_false_iff.mpr h1
                    refine ⟨_, rfl, _, rfl, a, _, _, _, rfl, rfl, SqT.of pa, rfl, tk, _, _, _, rfl, rfl, SqL.of htk3, at2, _, rfl, ?_, rfl⟩
                    rw [hu, h1]
                    rfl
              · rintro b H4 ⟨rfl, rfl⟩
                refine ite2 (fun hb => ?_) (fun hb => ?_)
                · refine bad ?_ _ (s5.trans s6)
                  show (if (notUp p o || met.contains p.1 || met.contains p.2) = true then some i else _) = some i
                  rw [if_pos hb]
                · have hgo2 : goF (i + 1) (met ++ [p.1, p.2]) (some p) (os.drop (i + 1)) = goF 0 [] none os := by
                    rw [← hgo]
                    show _ = (if (notUp p o || met.contains p.1 || met.contains p.2) = true then some i else _)
                    rw [if_neg hb]
                  have setB : ∀ (r : List Bool) (j : Nat), (r.map V.bl).set j (V.bl true) = (r.set j true).map V.bl := fun r j => (List.map_set).symm
                  have ntt : tk ≠ T := ne_of_none htk2 hT
                  refine ⟨_, rfl, _, rfl, a, _, _, _, rfl, rfl, SqT.of pa, rfl, tk, _, _, p.1, rfl, rfl, htk3, ix_nat (by rw [List.length_map, hbl]; exact q1), ?_⟩
                  rw [setB]
                  have w1 : ∀ b u, H b = some u → (upd (upd H2 T (.tup [V.int (i : Nat), V.ref a])) tk (.lst ((bs.set p.1 true).map V.bl))) b = some u := fun b u e => (upd_ne (ntk _ _ e)).trans (s6 _ _ (s5 _ _ e))
                  have kt : ∀ b zs, (upd H2 T (.tup [V.int (i : Nat), V.ref a])) b = some (.tup zs) → b ≠ tk := fun b zs e => ne_of e htk3 (by intro z; cases z)
                  have pa4 : PAt (upd (upd H2 T (.tup [V.int (i : Nat), V.ref a])) tk (.lst ((bs.set p.1 true).map V.bl))) a p := (upd_ne (kt _ _ pa)).trans pa
                  refine ⟨_, rfl, _, rfl, a, _, _, _, rfl, rfl, SqT.of pa4, rfl, tk, _, _, p.2, rfl, rfl, upd_same, ix_nat (by rw [List.length_map, List.length_set, hbl]; exact hn), ?_⟩
                  rw [setB]
                  refine ⟨_, rfl, a, (bs.set p.1 true).set p.2 true, met ++ [p.1, p.2], some p, _, _, rfl, fun b u e => (upd_ne (ntk _ _ e)).trans (w1 b u e), upd_same, by rw [List.length_set, List.length_set]; exact hbl, fun e he => ?_, (upd_ne (kt _ _ pa)).trans pa4, hgo2⟩
                  have cm : (met ++ [p.1, p.2]).contains e = (met.contains e || decide (e = p.1) || decide (e = p.2)) := by
                    rw [Bool.eq_iff_iff]
                    simp [or_assoc]
                  rw [cm]
                  by_cases e2' : p.2 = e
                  · subst e2'
                    rw [List.getElem?_set_self (by rw [List.length_set, hbl]; exact he)]
                    simp
                  · rw [List.getElem?_set_ne e2']
                    by_cases e1' : p.1 = e
                    · subst e1'
                      rw [List.getElem?_set_self (by rw [hbl]; exact he)]
                      simp
                    · rw [List.getElem?_set_ne e1', hbs e he, decide_eq_false (fun z => e1' z.symm), decide_eq_false (fun z => e2' z.symm), Bool.or_false, Bool.or_false]
        · rintro σ H2 ⟨ah, bs, met, o, v4, v5, rfl, s5, htk2, hbl, hbs, hah, hgo⟩
          rw [hI.len, List.drop_length] at hgo
          have hno : goF 0 [] none os = none := hgo.symm
          have hos := goF_pairs os 0 [] none hno
          generalize os.filterMap id = ps at hos
          subst hos
          obtain ⟨k3, k4⟩ := k2 hno ps rfl
          obtain ⟨as, rfl, hP, hlt⟩ := hI.pairs
          have hla : as.length = ps.length := hP.len
          have nl : (refs as).length = as.length := List.length_map _
          refine ⟨_, rfl, t, (refs as).length / 2, as, ps, rfl, s5 _ _ ht, hP.mono (sameT s5), ⟨by omega, by omega, fun p hp => ?_⟩, by omega, fun H4 b s6 hb => ⟨b, rfl, ?_⟩⟩
          · have := hlt p hp
            omega
          cases b with
          | true => exact iteT (k3 (hb.mp rfl) _ (s5.trans s6))
          | false =>
            have ht4 := s6 _ _ (s5 _ _ ht)
            refine iteF ⟨_, rfl, t, _, rfl, .inr (SqT.of ht4), by show 1 ≤ sizeLine; decide, fun p hp => ?_⟩
            exact k4 (fun hw => by cases hb.mpr hw) _ p (s5.trans (s6.trans (Same.new hp))) upd_same
end
end One
end P_E6

section P_M5
set_option linter.all false
/-! Far ends; sewing the newest crossing out again. -/
namespace One
/-- strictly sorted lists with the same items are the same -/
theorem sorted_ext {α : Type} {lt : α → α → Prop} (irr : ∀ a, ¬ lt a a) (tr : ∀ a b c, lt a b → lt b c → lt a c) : ∀ {L M : List α}, L.Pairwise lt → M.Pairwise lt → (∀ x, x ∈ L ↔ x ∈ M) → L = M
  | [], [], _, _, _ => rfl
  | [], b :: M, _, _, h => absurd ((h b).mpr (List.mem_cons_self ..)) (by simp)
  | a :: L, [], _, _, h => absurd ((h a).mp (List.mem_cons_self ..)) (by simp)
  | a :: L, b :: M, hL, hM, h => by
    obtain ⟨h1, h2⟩ := List.pairwise_cons.mp hL
    obtain ⟨h3, h4⟩ := List.pairwise_cons.mp hM
    have e : a = b := by
      rcases List.mem_cons.mp ((h a).mp (List.mem_cons_self ..)) with e | m
      · exact e
      · rcases List.mem_cons.mp ((h b).mpr (List.mem_cons_self ..)) with e | m'
        · exact e.symm
        · exact absurd (tr _ _ _ (h1 b m') (h3 a m)) (irr a)
    subst e
    refine congrArg (a :: ·) (sorted_ext irr tr h2 h4 fun x => ⟨fun m => ?_, fun m => ?_⟩)
    · rcases List.mem_cons.mp ((h x).mp (List.mem_cons_of_mem _ m)) with e | m'
      · subst e
        exact absurd (h1 x m) (irr x)
      · exact m'
    · rcases List.mem_cons.mp ((h x).mpr (List.mem_cons_of_mem _ m)) with e | m'
      · subst e
        exact absurd (h3 x m) (irr x)
      · exact m'
theorem ltP_irr (a : Nat × Nat) : ¬ ltP a a := fun h => by
  unfold ltP at h
  omega
theorem ltP_tr (a b c : Nat × Nat) (h : ltP a b) (k : ltP b c) : ltP a c := by
  unfold ltP at *
  omega
theorem Yard.eq {n m : Nat} {L M : List (Nat × Nat)} (y : Yard n L) (z : Yard m M) (h : ∀ x, x ∈ L ↔ x ∈ M) : L = M := sorted_ext ltP_irr ltP_tr y.up z.up h
/-- the far end -/
def far : List (Nat × Nat) → Nat → Nat
  | [], _ => 0
  | p :: r, e => if e = p.1 then p.2 else if e = p.2 then p.1 else far r e
theorem far_out : ∀ {ps : List (Nat × Nat)} {e : Nat}, e ∉ ends ps → far ps e = 0
  | [], _, _ => rfl
  | p :: r, e, h => by
    have h : e ∉ p.1 :: p.2 :: ends r := h
    simp only [List.mem_cons, not_or] at h
    unfold far
    rw [if_neg h.1, if_neg h.2.1, far_out h.2.2]
theorem far_of : ∀ {ps : List (Nat × Nat)}, (ends ps).Nodup → ∀ {p : Nat × Nat}, p ∈ ps → far ps p.1 = p.2 ∧ far ps p.2 = p.1
  | q :: r, h, p, m => by
    have h : (q.1 :: q.2 :: ends r).Nodup := h
    obtain ⟨h1, h2⟩ := List.nodup_cons.mp h
    obtain ⟨h3, h4⟩ := List.nodup_cons.mp h2
    unfold far
    rcases List.mem_cons.mp m with e | m
    · subst e
      refine ⟨if_pos rfl, ?_⟩
      rw [if_neg (fun e => h1 (List.mem_cons.mpr (.inl e.symm))), if_pos rfl]
    · have m1 : p.1 ∈ ends r := mem_ends.mpr ⟨p, m, .inl rfl⟩
      have m2 : p.2 ∈ ends r := mem_ends.mpr ⟨p, m, .inr rfl⟩
      obtain ⟨i1, i2⟩ := far_of h4 m
      have n1 : p.1 ≠ q.1 := fun e => h1 (List.mem_cons.mpr (.inr (e ▸ m1)))
      have n2 : p.1 ≠ q.2 := fun e => h3 (e ▸ m1)
      have n3 : p.2 ≠ q.1 := fun e => h1 (List.mem_cons.mpr (.inr (e ▸ m2)))
      have n4 : p.2 ≠ q.2 := fun e => h3 (e ▸ m2)
      rw [if_neg n1, if_neg n2, if_neg n3, if_neg n4]
      exact ⟨i1, i2⟩
theorem far_line {ps : List (Nat × Nat)} (h : (ends ps).Nodup) {e : Nat} (m : e ∈ ends ps) : ((e, far ps e) ∈ ps ∨ (far ps e, e) ∈ ps) ∧ far ps (far ps e) = e := by
  obtain ⟨p, hp, z | z⟩ := mem_ends.mp m
  · obtain ⟨i1, i2⟩ := far_of h hp
    rw [z, i1, i2]
    exact ⟨.inl hp, rfl⟩
  · obtain ⟨i1, i2⟩ := far_of h hp
    rw [z, i2, i1]
    exact ⟨.inr hp, rfl⟩
theorem far_snoc {p : Nat × Nat} : ∀ {ps : List (Nat × Nat)}, (ends (ps ++ [p])).Nodup → ∀ e, far (ps ++ [p]) e = if e = p.1 then p.2 else if e = p.2 then p.1 else far ps e
  | ps, h, e => by
    have hp : p ∈ ps ++ [p] := List.mem_append_right _ (List.mem_cons_self ..)
    obtain ⟨i1, i2⟩ := far_of h hp
    by_cases e1 : e = p.1
    · rw [if_pos e1, e1, i1]
    · rw [if_neg e1]
      by_cases e2 : e = p.2
      · rw [if_pos e2, e2, i2]
      · rw [if_neg e2]
        have go : ∀ (l : List (Nat × Nat)), far (l ++ [p]) e = far l e := by
          intro l
          induction l with
          | nil =>
            show (if e = p.1 then p.2 else if e = p.2 then p.1 else far [] e) = far [] e
            rw [if_neg e1, if_neg e2]
          | cons q r ih =>
            show (if e = q.1 then q.2 else if e = q.2 then q.1 else far (r ++ [p]) e) = (if e = q.1 then q.2 else if e = q.2 then q.1 else far r e)
            rw [ih]
        exact go ps
theorem pigeon : ∀ (m : Nat) (l : List Nat), l.Nodup → (∀ x ∈ l, x < m) → l.length ≤ m
  | 0, [], _, _ => Nat.le_refl _
  | 0, a :: l, _, h => absurd (h a (List.mem_cons_self ..)) (by omega)
  | m + 1, l, nd, h => by
    by_cases hm : m ∈ l
    · have e := List.length_erase_of_mem hm
      have ih := pigeon m (l.erase m) (nd.erase m) fun x hx => by
        have q := (nd.mem_erase_iff).mp hx
        have := h x q.2
        have := q.1
        omega
      omega
    · have ih := pigeon m l nd fun x hx => by
        have := h x hx
        have : x ≠ m := fun e => hm (e ▸ hx)
        omega
      omega
/-- every end below 4n stands in lines of n crossings -/
theorem ends_full {n : Nat} {ps : List (Nat × Nat)} (L : Lines n ps) {e : Nat} (h : e < 4 * n) : e ∈ ends ps := by
  by_cases m : e ∈ ends ps
  · exact m
  · exfalso
    have hl : (ends ps).length = 4 * n := by rw [ends_length, L.len]; omega
    have nd : (e :: ends ps).Nodup := List.nodup_cons.mpr ⟨m, L.nd⟩
    have := pigeon (4 * n) (e :: ends ps) nd fun x hx => by
      rcases List.mem_cons.mp hx with z | z
      · rw [z]; exact h
      · exact L.lt x z
    rw [List.length_cons, hl] at this
    omega
theorem far_lt {n : Nat} {ps : List (Nat × Nat)} (L : Lines n ps) {e : Nat} (h : e < 4 * n) : far ps e < 4 * n := by
  obtain ⟨z | z, _⟩ := far_line L.nd (ends_full L h)
  · exact L.lt _ (mem_ends.mpr ⟨_, z, .inr rfl⟩)
  · exact L.lt _ (mem_ends.mpr ⟨_, z, .inl rfl⟩)
/-- the lines told from the far ends -/
def linesOf (F : Nat → Nat) (m : Nat) : List (Nat × Nat) := (List.range m).filterMap fun e => if e < F e then some (e, F e) else none
theorem linesOf_snoc (F : Nat → Nat) (m : Nat) : linesOf F (m + 1) = linesOf F m ++ (if m < F m then [(m, F m)] else []) := by
  unfold linesOf
  rw [List.range_succ, List.filterMap_append]
  by_cases h : m < F m
  · simp [h]
  · simp [h]
theorem linesOf_mem {F : Nat → Nat} {m : Nat} {p : Nat × Nat} : p ∈ linesOf F m ↔ p.1 < m ∧ F p.1 = p.2 ∧ p.1 < p.2 := by
  unfold linesOf
  rw [List.mem_filterMap]
  constructor
  · rintro ⟨e, he, h⟩
    split at h
    · cases h
      exact ⟨List.mem_range.mp he, rfl, by assumption⟩
    · cases h
  · rintro ⟨h1, h2, h3⟩
    refine ⟨p.1, List.mem_range.mpr h1, ?_⟩
    rw [h2, if_pos h3]
theorem linesOf_up (F : Nat → Nat) : ∀ m, (linesOf F m).Pairwise ltP
  | 0 => .nil
  | m + 1 => by
    rw [linesOf_snoc]
    refine List.pairwise_append.mpr ⟨linesOf_up F m, ?_, fun a ha b hb => ?_⟩
    · split
      · exact List.pairwise_singleton _ _
      · exact .nil
    · split at hb
      · rw [List.mem_singleton.mp hb]
        exact .inl (linesOf_mem.mp ha).1
      · cases hb
theorem yard_linesOf {n : Nat} {ps : List (Nat × Nat)} (y : Yard n ps) : linesOf (far ps) (4 * n) = ps := by
  refine sorted_ext ltP_irr ltP_tr (linesOf_up _ _) y.up fun p => ⟨fun h => ?_, fun h => ?_⟩
  · obtain ⟨h1, h2, h3⟩ := linesOf_mem.mp h
    obtain ⟨z | z, _⟩ := far_line y.lines.nd (ends_full y.lines h1)
    · rw [h2] at z
      exact z
    · rw [h2] at z
      have := y.low _ z
      simp only at this
      omega
  · have h1 := y.lines.lt _ (mem_ends.mpr ⟨p, h, .inl rfl⟩)
    exact linesOf_mem.mpr ⟨h1, (far_of y.lines.nd h).1, y.low p h⟩
end One
end P_M5

section P_M6
set_option linter.all false
namespace One
/-- what lies behind b, seen through crossing c sewn out at way w; k turns at most -/
def backK (F : Nat → Nat) (c w : Nat) : Nat → Nat → Option Nat
  | 0, b => if b / 4 = c then none else some b
  | k + 1, b => if b / 4 = c then backK F c w k (F (b ^^^ (w + 1))) else some b
theorem xor_two : ∀ n, n < 64 → (4 * n) ^^^ 2 = 4 * n + 2 ∧ (4 * n + 1) ^^^ 2 = 4 * n + 3 ∧ (4 * n + 2) ^^^ 2 = 4 * n ∧ (4 * n + 3) ^^^ 2 = 4 * n + 1 := by
  have h : ∀ n : Fin 64, (4 * (n : Nat)) ^^^ 2 = 4 * (n : Nat) + 2 ∧ (4 * (n : Nat) + 1) ^^^ 2 = 4 * (n : Nat) + 3 ∧ (4 * (n : Nat) + 2) ^^^ 2 = 4 * (n : Nat) ∧ (4 * (n : Nat) + 3) ^^^ 2 = 4 * (n : Nat) + 1 := by decide +kernel
  exact fun n hn => h ⟨n, hn⟩
theorem backK_out {F : Nat → Nat} {c w k b : Nat} (h : b / 4 ≠ c) : backK F c w k b = some b := by
  cases k <;> exact if_neg h
theorem backK_in {F : Nat → Nat} {c w k b : Nat} (h : b / 4 = c) : backK F c w (k + 1) b = backK F c w k (F (b ^^^ (w + 1))) := if_pos h
theorem put_yard {n : Nat} {ps T : List (Nat × Nat)} {i j : Nat} {a b : Nat × Nat} (y : Yard n ps) (ha : ps[i]? = some a) (hb : ps[j]? = some b) (hp : T.Perm (putOn n ps i j a b)) (hs : T.Pairwise leP) : Yard (n + 1) T := by
  refine yard_of_sorted (Nat.succ_pos _) (put_lines y.lines ha hb) (put_whole y.pos y.lines y.whole ha hb) (fun p m => ?_) hp hs
  have lt : ∀ q ∈ ps, q.1 < 4 * n ∧ q.2 < 4 * n := fun q hq => ⟨y.lines.lt _ (mem_ends.mpr ⟨q, hq, .inl rfl⟩), y.lines.lt _ (mem_ends.mpr ⟨q, hq, .inr rfl⟩)⟩
  obtain ⟨a1, a2⟩ := lt a (List.mem_of_getElem? ha)
  obtain ⟨b1, b2⟩ := lt b (List.mem_of_getElem? hb)
  rcases List.mem_append.mp m with m | m
  · exact Nat.le_of_lt (y.low p (mem_keep _ _ _ _ m))
  · unfold fresh at m
    split at m
    · simp only [List.mem_cons, List.not_mem_nil, or_false] at m
      rcases m with rfl | rfl | rfl <;> simp only <;> omega
    · simp only [List.mem_cons, List.not_mem_nil, or_false] at m
      rcases m with rfl | rfl | rfl | rfl <;> simp only <;> omega
theorem sew_back {n : Nat} {ps T : List (Nat × Nat)} {i j : Nat} {a b : Nat × Nat} (L : Lines n ps) (ha : ps[i]? = some a) (hb : ps[j]? = some b) (hp : T.Perm (putOn n ps i j a b)) (hn : n < 64) :
    (∀ e, e < 4 * n → backK (far T) n 1 2 (far T e) = some (far ps e)) ∧ (far T (4 * n) ≠ (4 * n) ^^^ 2 ∧ far T (4 * n + 1) ≠ (4 * n + 1) ^^^ 2 ∧ far T (4 * n + 2) ≠ (4 * n + 2) ^^^ 2 ∧ far T (4 * n + 3) ≠ (4 * n + 3) ^^^ 2) := by
  have LT : Lines (n + 1) T := (put_lines L ha hb).perm hp.symm
  obtain ⟨x0, x1, x2, x3⟩ := xor_two n hn
  have lt : ∀ q ∈ ps, q.1 < 4 * n ∧ q.2 < 4 * n := fun q hq => ⟨L.lt _ (mem_ends.mpr ⟨q, hq, .inl rfl⟩), L.lt _ (mem_ends.mpr ⟨q, hq, .inr rfl⟩)⟩
  have ma := List.mem_of_getElem? ha
  have mb := List.mem_of_getElem? hb
  obtain ⟨a1, a2⟩ := lt a ma
  obtain ⟨b1, b2⟩ := lt b mb
  have d0 : (4 * n) / 4 = n := by omega
  have d1 : (4 * n + 1) / 4 = n := by omega
  have d2 : (4 * n + 2) / 4 = n := by omega
  have d3 : (4 * n + 3) / 4 = n := by omega
  have out : ∀ {b k}, b < 4 * n → backK (far T) n 1 k b = some b := fun h => backK_out (by omega)
  have isT : ∀ {p}, p ∈ putOn n ps i j a b → far T p.1 = p.2 ∧ far T p.2 = p.1 := fun m => far_of LT.nd (hp.mem_iff.mpr m)
  have kept : ∀ p ∈ keepIx (notIJ i j) 0 ps, ∀ e, e = p.1 ∨ e = p.2 → backK (far T) n 1 2 (far T e) = some (far ps e) := fun p m e he => by
    have mp := mem_keep _ _ _ _ m
    obtain ⟨t1, t2⟩ := isT (p := p) (List.mem_append_left _ m)
    obtain ⟨o1, o2⟩ := far_of L.nd mp
    obtain ⟨l1, l2⟩ := lt p mp
    rcases he with rfl | rfl
    · rw [t1, o1]; exact out l2
    · rw [t2, o2]; exact out l1
  by_cases hij : i = j
  · subst hij
    have eab : b = a := Option.some.inj (hb.symm.trans ha)
    subst eab
    have fr : fresh n i i b b = [(b.1, 4 * n), (4 * n + 1, 4 * n + 2), (b.2, 4 * n + 3)] := if_pos rfl
    have mem : ∀ q ∈ fresh n i i b b, far T q.1 = q.2 ∧ far T q.2 = q.1 := fun q m => isT (List.mem_append_right _ m)
    rw [fr] at mem
    obtain ⟨p1, p2⟩ := mem (b.1, 4 * n) (by simp)
    obtain ⟨p3, p4⟩ := mem (4 * n + 1, 4 * n + 2) (by simp)
    obtain ⟨p5, p6⟩ := mem (b.2, 4 * n + 3) (by simp)
    simp only at p1 p2 p3 p4 p5 p6
    obtain ⟨g1, g2⟩ := far_of L.nd mb
    refine ⟨fun e he => ?_, ?_, ?_, ?_, ?_⟩
    · obtain ⟨p, m, z⟩ := mem_ends.mp (ends_full L he)
      rcases List.mem_cons.mp ((keep_one ha).mem_iff.mp m) with e1 | m
      · subst e1
        rcases z with rfl | rfl
        · rw [p1, g1, backK_in d0, x0, p4, backK_in d1, x1, p6]
          exact out b2
        · rw [p5, g2, backK_in d3, x3, p3, backK_in d2, x2, p2]
          exact out b1
      · exact kept p m e z
    · rw [p2, x0]; omega
    · rw [p3, x1]; omega
    · rw [p4, x2]; omega
    · rw [p6, x3]; omega
  · have fr : fresh n i j a b = [(a.1, 4 * n), (a.2, 4 * n + 2), (b.1, 4 * n + 1), (b.2, 4 * n + 3)] := if_neg hij
    have mem : ∀ q ∈ fresh n i j a b, far T q.1 = q.2 ∧ far T q.2 = q.1 := fun q m => isT (List.mem_append_right _ m)
    rw [fr] at mem
    obtain ⟨p1, p2⟩ := mem (a.1, 4 * n) (by simp)
    obtain ⟨p3, p4⟩ := mem (a.2, 4 * n + 2) (by simp)
    obtain ⟨p5, p6⟩ := mem (b.1, 4 * n + 1) (by simp)
    obtain ⟨p7, p8⟩ := mem (b.2, 4 * n + 3) (by simp)
    simp only at p1 p2 p3 p4 p5 p6 p7 p8
    obtain ⟨g1, g2⟩ := far_of L.nd ma
    obtain ⟨g3, g4⟩ := far_of L.nd mb
    refine ⟨fun e he => ?_, ?_, ?_, ?_, ?_⟩
    · obtain ⟨p, m, z⟩ := mem_ends.mp (ends_full L he)
      rcases List.mem_cons.mp ((keep_two hij ha hb).mem_iff.mp m) with e1 | m
      · subst e1
        rcases z with rfl | rfl
        · rw [p1, g1, backK_in d0, x0, p4]
          exact out a2
        · rw [p3, g2, backK_in d2, x2, p2]
          exact out a1
      · rcases List.mem_cons.mp m with e1 | m
        · subst e1
          rcases z with rfl | rfl
          · rw [p5, g3, backK_in d1, x1, p8]
            exact out b2
          · rw [p7, g4, backK_in d3, x3, p6]
            exact out b1
        · exact kept p m e z
    · rw [p2, x0]; omega
    · rw [p6, x1]; omega
    · rw [p4, x2]; omega
    · rw [p8, x3]; omega
end One
end P_M6

section P_F1
set_option linter.all false
set_option maxRecDepth 100000
set_option maxHeartbeats 8000000
namespace One
open PySem PySem.Spec PyProof.Rows L2
abbrev sFars : Stmt := top 23
abbrev sMate : Stmt := top 24
abbrev sCloses : Stmt := top 27
abbrev sLeft : Stmt := top 28
abbrev sBehind : Stmt := top 29
abbrev sUp : Stmt := top 30
abbrev nFars : List Str := ["lines", "fars", "low", "high"]
abbrev nCloses : List Str := ["fars", "crossing", "way", "first", "end"]
abbrev nLeft : List Str := ["fars", "crossing", "way", "lines", "end", "behind"]
abbrev nBehind : List Str := ["fars", "end", "crossing", "way", "behind"]
theorem scFars : FnScope nFars ["lines"] (defScope sFars) := ⟨rfl, rfl, rfl, by decide +kernel, rfl, by decide +kernel, by decide +kernel⟩
theorem scMate : FnScope ["end", "way"] ["end", "way"] (defScope sMate) := ⟨rfl, rfl, rfl, by decide +kernel, rfl, by decide +kernel, by decide +kernel⟩
theorem scCloses : FnScope nCloses ["fars", "crossing", "way"] (defScope sCloses) := ⟨rfl, rfl, rfl, by decide +kernel, rfl, by decide +kernel, by decide +kernel⟩
theorem scLeft : FnScope nLeft ["fars", "crossing", "way"] (defScope sLeft) := ⟨rfl, rfl, rfl, by decide +kernel, rfl, by decide +kernel, by decide +kernel⟩
theorem scBehind : FnScope nBehind ["fars", "end", "crossing", "way"] (defScope sBehind) := ⟨rfl, rfl, rfl, by decide +kernel, rfl, by decide +kernel, by decide +kernel⟩
theorem scUp : FnScope ["end", "crossing"] ["end", "crossing"] (defScope sUp) := ⟨rfl, rfl, rfl, by decide +kernel, rfl, by decide +kernel, by decide +kernel⟩
/-- the far ends of m crossings, as a list -/
def farL (F : Nat → Nat) (m : Nat) : List V := nats ((List.range (4 * m)).map F)
theorem farL_at {F : Nat → Nat} {m e : Nat} (h : e < 4 * m) : (farL F m)[e]? = some (V.int (F e : Nat)) := by
  unfold farL nats
  rw [List.getElem?_map, List.getElem?_map, List.getElem?_range h]
  rfl
theorem farL_len (F : Nat → Nat) (m : Nat) : (farL F m).length = 4 * m := by
  unfold farL nats
  rw [List.length_map, List.length_map, List.length_range]
def upOf (c e : Nat) : Nat := if c < e / 4 then e - 4 else e
def spFars : Sp := fun vs H Q _ => ∃ (t : Addr) (n : Nat) (as : List Addr) (ps : List (Nat × Nat)), vs = [.ref t] ∧ H t = some (.tup (refs as)) ∧ PL H as ps ∧ Lines n ps ∧ n ≤ 100 ∧ ∀ (H' : Hp) (L : Addr), Same H H' → H L = none → H' L = some (.lst (farL (far ps) n)) → Q (.ref L) H'
def spMate : Sp := fun vs H Q _ => ∃ e w : Nat, vs = [.int (e : Nat), .int (w : Nat)] ∧ Q (.int ((e ^^^ (w + 1) : Nat))) H
def spUp : Sp := fun vs H Q _ => ∃ e c : Nat, vs = [.int (e : Nat), .int (c : Nat)] ∧ Q (.int (upOf c e : Nat)) H
section
variable {P : Program} {w : World} {K : PySem.W.Frag} {mg : Str → Option Value} {base : Heap}
theorem ok_mate {f : Addr} {fd : FuncData} (F : Fun K "mate" "mate" sMate f fd) : FnOk P w K mg base CX0 1 f fd ["end", "way"] spMate := by
  refine F.ok scMate (fun vs H Q E h => ?_) (fun cdv A outer s H vs Q E hr h => ?_)
  · obtain ⟨e, w, rfl, _⟩ := h
    rfl
  · obtain ⟨e, w, rfl, k⟩ := h
    refine ⟨_, pss_one (ps_ret (pe_op op_xor (pv 0) (pe_op op_add (pv 1) pe_int))), ?_⟩
    refine ⟨_, rfl, _, rfl, _, _, rfl, rfl, _, _, rfl, rfl, ?_⟩
    show Q (.int (Builtin.bitXor ((e : Nat) : Int) (((w : Nat) : Int) + 1))) H
    have : Builtin.bitXor ((e : Nat) : Int) (((w : Nat) : Int) + 1) = ((e ^^^ (w + 1) : Nat) : Int) := by
      rw [Bits.bitXor_pp (by omega) (by omega)]
      have : (((w : Nat) : Int) + 1).toNat = w + 1 := by omega
      rw [this]
      rfl
    rw [this]
    exact k
theorem ok_up {f : Addr} {fd : FuncData} (F : Fun K "closed_up" "closed_up" sUp f fd) (C : TC mg) : FnOk P w K mg base CX0 1 f fd ["end", "crossing"] spUp := by
  refine F.ok scUp (fun vs H Q E h => ?_) (fun cdv A outer s H vs Q E hr h => ?_)
  · obtain ⟨e, c, rfl, _⟩ := h
    rfl
  · obtain ⟨e, c, rfl, k⟩ := h
    obtain ⟨t4, ht4⟩ := C.places
    refine ⟨_, pss_one (ps_ret (pe_ifExp (pt_cmpR op_gt (pe_op op_fdiv (pv 0) (pe_glob (v := .int 4) rfl ht4 ⟨_, rfl⟩)) (pv 1) (nomark _)) (pe_op op_sub (pv 0) (pe_glob (v := .int 4) rfl ht4 ⟨_, rfl⟩)) (pv 0))), ?_⟩
    refine ⟨_, rfl, _, _, rfl, rfl, ⟨by decide, by decide⟩, _, rfl, _, _, rfl, rfl, _, rfl, ?_⟩
    by_cases h : c < e / 4
    · refine (ite2 (fun _ => ?_) (fun z => absurd (decide_eq_true (show ((c : Nat) : Int) < ((e : Nat) : Int) / 4 by omega)) z))
      refine ⟨_, rfl, _, _, rfl, rfl, ?_⟩
      have e1 : ((e : Nat) : Int) - 4 = ((upOf c e : Nat) : Int) := by
        unfold upOf
        rw [if_pos h]
        omega
      show Q (.int (((e : Nat) : Int) - 4)) H
      rw [e1]
      exact k
    · refine (ite2 (fun z => absurd (of_decide_eq_true z) (show ¬ ((c : Nat) : Int) < ((e : Nat) : Int) / 4 by omega)) (fun _ => ?_))
      refine ⟨_, rfl, ?_⟩
      have e1 : upOf c e = e := if_neg h
      rw [e1] at k
      exact k
end
end One
end P_F1

section P_F2
set_option linter.all false
set_option maxRecDepth 100000
set_option maxHeartbeats 8000000
namespace One
open PySem PySem.Spec PyProof.Rows L2
section
variable {P : Program} {w : World} {K : PySem.W.Frag} {mg : Str → Option Value} {base : Heap}
theorem nats_set (r : List Nat) (j x : Nat) : (nats r).set j (V.int (x : Nat)) = nats (r.set j x) := (List.map_set).symm
theorem ok_fars {f : Addr} {fd : FuncData} (F : Fun K "fars_of_lines" "fars_of_lines" sFars f fd) (T : TB mg) : FnOk P w K mg base CX0 1 f fd ["lines"] spFars := by
  refine F.ok scFars (fun vs H Q E h => ?_) (fun cdv A outer s H vs Q E hr h => ?_)
  · obtain ⟨t, n, as, ps, rfl, _⟩ := h
    rfl
  · obtain ⟨t, n, as, ps, rfl, ht, hP, L, hn, k⟩ := h
    have nd := scFars.nd
    have hal : as.length = 2 * n := by rw [hP.len, L.len]
    have nl : (refs as).length = as.length := List.length_map _
    refine ⟨_, pss_cons (ps_set (i := 1) nd rfl (Or.inl rfl) (pe_op op_rep (pe_lst (pa_cons pe_int pa_nil)) (pe_op op_mul pe_int (pe_callB call_len_seq (by rfl) T.len PySem.boot_len (pa_cons (pv 0) pa_nil)))))
      (pss_cons (ps_for PassesOwn.never rfl (pi_tup (pv 0)) (pg_tup rfl (pgs_cons (pg_name (i := 2) nd rfl (Or.inl rfl)) (pgs_cons (pg_name (i := 3) nd rfl (Or.inl rfl)) pgs_nil)))
        (pss_cons (ps_asg (pv 3) (pg_sub (pv 1) (pv 2) set_list)) (pss_one (ps_asg (pv 2) (pg_sub (pv 1) (pv 3) set_list)))))
      (pss_one (ps_ret (pv 1)))), ?_⟩
    have e4 : (2 : Int) * (((refs as).length : Nat) : Int) = ((4 * n : Nat) : Int) := by rw [nl, hal]; omega
    refine ⟨by show 1 ≤ sizeLine; decide, fun l1 hl1 => ?_⟩
    have s1 := Same.new (o := .lst [V.int 0]) hl1
    refine ⟨_, rfl, t, _, rfl, .inr (SqT.of (s1 _ _ ht)), _, _, rfl, rfl, .inl ⟨by decide, by decide⟩, l1, ((4 * n : Nat) : Int), _, rfl, (by show V.int ((2 : Int) * (((refs as).length : Nat) : Int)) = _; rw [e4]), upd_same, by omega, by omega, (by show 1 * _ ≤ _; exact Nat.le_of_lt (small1000 (by omega))), fun R hR => ?_⟩
    have eR : (List.replicate ((4 * n : Nat) : Int).toNat [V.int 0]).flatten = nats (List.replicate (4 * n) 0) := by
      rw [show ((4 * n : Nat) : Int).toNat = 4 * n by omega]
      show _ = (List.replicate (4 * n) 0).map _
      rw [List.map_replicate]
      exact flat_rep _ _
    have hR0 : H R = none := s1.free hR
    have s2 := Same.new (o := .lst (List.replicate ((4 * n : Nat) : Int).toNat [V.int 0]).flatten) hR
    have nR : ∀ b o, H b = some o → b ≠ R := fun b o e => ne_of_none e hR0
    refine ⟨_, rfl, t, rfl, ⟨_, SqT.of ((s1.trans s2) _ _ ht)⟩, for_tup (K := K) (a := t) (xs := refs as) (fun i σ H7 => ∃ (r : List Nat) (v2 v3 : Option V), σ = [some (.ref t), some (.ref R), v2, v3] ∧ Same H H7 ∧ H7 R = some (.lst (nats r)) ∧ r.length = 4 * n ∧ ∀ e, e < 4 * n → r[e]? = some (far (ps.take i) e))
      ⟨List.replicate (4 * n) 0, none, none, rfl, s1.trans s2, by rw [upd_same, eR], List.length_replicate, fun e he => by rw [List.getElem?_replicate, if_pos he]; rfl⟩ (fun i σ H7 _ ⟨_, _, _, _, h, _⟩ => SqT.of (h _ _ ht)) ?_ ?_⟩
    · rintro i x σ H7 hx ⟨r, v2, v3, rfl, s7, hR7, hrl, hr7⟩
      obtain ⟨a, ha⟩ : ∃ a, as[i]? = some a := by
        rw [List.getElem?_map] at hx
        cases e : as[i]? with
        | none =>
          rw [e] at hx
          cases hx
        | some a => exact ⟨a, rfl⟩
      rw [List.getElem?_map, ha] at hx
      cases hx
      obtain ⟨p, hp, pa⟩ := hP.got ha
      have mp := List.mem_of_getElem? hp
      have q1 := L.lt _ (mem_ends.mpr ⟨p, mp, .inl rfl⟩)
      have q2 := L.lt _ (mem_ends.mpr ⟨p, mp, .inr rfl⟩)
      have pa7 := s7 _ _ pa
      have etk := take_ends (H := H) hp
      have ndt : (ends (ps.take i ++ [p])).Nodup := by
        rw [← etk]
        have := L.nd
        rw [← List.take_append_drop (i + 1) ps, ends_append] at this
        exact (List.nodup_append.mp this).1
      refine ⟨a, _, rfl, SqT.of pa7, rfl, _, _, rfl, _, _, rfl, rfl, ?_⟩
      refine ⟨_, rfl, _, rfl, _, rfl, R, _, _, p.1, rfl, rfl, hR7, ix_nat (by rw [List.length_map, hrl]; exact q1), ?_⟩
      rw [nats_set]
      refine ⟨_, rfl, _, rfl, _, rfl, R, _, _, p.2, rfl, rfl, upd_same, ix_nat (by rw [List.length_map, List.length_set, hrl]; exact q2), ?_⟩
      rw [nats_set]
      refine ⟨(r.set p.1 p.2).set p.2 p.1, _, _, rfl, fun b o e => ?_, upd_same, by rw [List.length_set, List.length_set, hrl], fun e he => ?_⟩
      · rw [upd_ne (nR _ _ e), upd_ne (nR _ _ e)]
        exact s7 _ _ e
      · rw [etk, far_snoc ndt]
        have hne := nodup_pair L.nd p mp
        by_cases e2 : p.2 = e
        · subst e2
          rw [List.getElem?_set_self (by rw [List.length_set, hrl]; exact q2), if_neg (Ne.symm hne), if_pos rfl]
        · rw [List.getElem?_set_ne e2]
          by_cases e1 : p.1 = e
          · subst e1
            rw [List.getElem?_set_self (by rw [hrl]; exact q1), if_pos rfl]
          · rw [List.getElem?_set_ne e1, if_neg (Ne.symm e1), if_neg (Ne.symm e2)]
            exact hr7 e he
    · rintro σ H7 ⟨r, v2, v3, rfl, s7, hR7, hrl, hr7⟩
      refine ⟨_, rfl, k _ R s7 hR0 ?_⟩
      rw [nl, hP.len, List.take_length] at hr7
      rw [hR7]
      congr 2
      show nats r = nats _
      congr 1
      refine List.ext_getElem? fun e => ?_
      by_cases he : e < 4 * n
      · rw [hr7 e he, List.getElem?_map, List.getElem?_range he]
        rfl
      · rw [List.getElem?_eq_none (by omega), List.getElem?_eq_none (by rw [List.length_map, List.length_range]; omega)]
theorem xor_block {b x c : Nat} (hb : b / 4 = c) (hx : x < 4) : (b ^^^ x) / 4 = c := by
  have := Nat.xor_div_two_pow (a := b) (b := x) (n := 2)
  rw [show (2 : Nat) ^ 2 = 4 from rfl] at this
  rw [this, hb, show x / 4 = 0 by omega, Nat.xor_zero]
def spBehind : Sp := fun vs H Q _ => ∃ (L : Addr) (m : Nat) (F : Nat → Nat) (e c w k g : Nat), vs = [.ref L, .int (e : Nat), .int (c : Nat), .int (w : Nat)] ∧ H L = some (.lst (farL F m)) ∧ e < 4 * m ∧ c < m ∧ w < 3 ∧ backK F c w k (F e) = some g ∧ Q (.int (g : Nat)) H
theorem ok_behind {f fM : Addr} {fd fdM : FuncData} (F : Fun K "end_behind" "end_behind" sBehind f fd) (C : TC mg) (M : Cal K mg "mate" fM fdM ["end", "way"]) (GM : FnOk P w K mg base CX0 1 fM fdM ["end", "way"] spMate) :
    FnOk P w K mg base CX0 2 f fd ["fars", "end", "crossing", "way"] spBehind := by
  refine F.ok scBehind (fun vs H Q E h => ?_) (fun cdv A outer s H vs Q E hr h => ?_)
  · obtain ⟨L, m, F, e, c, w, k, g, rfl, _⟩ := h
    rfl
  · obtain ⟨L, m, F, e, c, w', k, g, rfl, hL, he, hc, hw, hg, q⟩ := h
    have nd := scBehind.nd
    obtain ⟨t4, ht4⟩ := C.places
    refine ⟨_, C8.pss_cut (ps_set (i := 4) nd rfl (Or.inl rfl) (pe_ix ix_list (pv 0) (pv 1) (fun _ _ => rfl)))
      (pss_cons (ps_while PassesOwn.never (pt_cmpR op_eq (pe_op op_fdiv (pv 4) (pe_glob (v := .int 4) rfl ht4 ⟨_, rfl⟩)) (pv 2) (nomark _))
        (pss_one (ps_set (i := 4) nd rfl (Or.inl rfl) (pe_ix ix_list (pv 0) (pe_call GM hr rfl M.g M.kp M.b .nil pass0 (pa_cons (pv 4) (pa_cons (pv 3) pa_nil))) (fun _ _ => rfl)))))
      (pss_one (ps_ret (pv 4)))), ?_⟩
    refine ⟨fun σ H' => σ = [some (.ref L), some (.int (e : Nat)), some (.int (c : Nat)), some (.int (w' : Nat)), some (.int (F e : Nat))] ∧ H' = H, ⟨_, rfl, _, rfl, L, _, _, _, rfl, rfl, SqL.of hL, at_of (j := e) rfl (farL_at he), rfl, rfl⟩, ?_⟩
    rintro σ0 H0 ⟨rfl, rfl⟩
    unfold tSeq
    refine ⟨fun k σ H' => ∃ b : Nat, σ = [some (.ref L), some (.int (e : Nat)), some (.int (c : Nat)), some (.int (w' : Nat)), some (.int (b : Nat))] ∧ H' = H0 ∧ backK F c w' k b = some g, ⟨k, F e, rfl, rfl, hg⟩, ?_⟩
    rintro k σ H1 ⟨b, rfl, rfl, hb⟩
    refine ⟨_, rfl, _, _, rfl, rfl, ⟨by decide, by decide⟩, _, rfl, rfl, _, rfl, ?_⟩
    by_cases hbc : b / 4 = c
    · have e1 : decide (V.int (((b : Nat) : Int) / 4) = V.int (c : Nat)) = true := decide_eq_true (by rw [show ((b : Nat) : Int) / 4 = ((b / 4 : Nat) : Int) by omega, hbc])
      show if decide (V.int (((b : Nat) : Int) / 4) = V.int (c : Nat)) = true then _ else _
      rw [e1]
      refine iteT ?_
      cases k with
      | zero =>
        have z : (none : Option Nat) = some g := (if_pos hbc).symm.trans hb
        cases z
      | succ k =>
        rw [backK_in hbc] at hb
        have hx := xor_block (x := w' + 1) hbc (by omega)
        refine ⟨fun σ' H' => ∃ b : Nat, σ' = [some (.ref L), some (.int (e : Nat)), some (.int (c : Nat)), some (.int (w' : Nat)), some (.int (b : Nat))] ∧ H' = H1 ∧ backK F c w' k b = some g, fun σ' H' h => ⟨k, Nat.lt_succ_self _, h⟩, ?_⟩
        exact ⟨_, rfl, _, rfl, _, rfl, b, w', rfl, L, _, _, _, rfl, rfl, SqL.of hL, at_of (j := b ^^^ (w' + 1)) rfl (farL_at (by omega)), _, rfl, rfl, hb⟩
    · have e1 : decide (V.int (((b : Nat) : Int) / 4) = V.int (c : Nat)) = false := decide_eq_false (fun z => hbc (by
        have z := V.int.inj z
        omega))
      show if decide (V.int (((b : Nat) : Int) / 4) = V.int (c : Nat)) = true then _ else _
      rw [e1]
      refine iteF ?_
      rw [backK_out hbc] at hb
      cases hb
      exact ⟨_, rfl, q⟩
end
end One
end P_F2

section P_F3
set_option linter.all false
set_option maxRecDepth 100000
set_option maxHeartbeats 8000000
namespace One
open PySem PySem.Spec PyProof.Rows L2
/-- does some end of crossing c lead straight to its own mate? -/
def closesB (F : Nat → Nat) (c w : Nat) : Bool := (List.range 4).any fun r => decide (F (4 * c + r) = (4 * c + r) ^^^ (w + 1))
theorem closesB_not {F : Nat → Nat} {c w : Nat} (h : ∀ r, r < 4 → F (4 * c + r) ≠ (4 * c + r) ^^^ (w + 1)) : closesB F c w = false := by
  unfold closesB
  refine List.any_eq_false.mpr fun r hr => ?_
  rw [decide_eq_false (h r (List.mem_range.mp hr))]
  decide
theorem closesB_yes {F : Nat → Nat} {c w r : Nat} (hr : r < 4) (h : F (4 * c + r) = (4 * c + r) ^^^ (w + 1)) : closesB F c w = true :=
  List.any_eq_true.mpr ⟨r, List.mem_range.mpr hr, decide_eq_true h⟩
def spCloses : Sp := fun vs H Q _ => ∃ (L : Addr) (m : Nat) (F : Nat → Nat) (c w : Nat), vs = [.ref L, .int (c : Nat), .int (w : Nat)] ∧ H L = some (.lst (farL F m)) ∧ c < m ∧ m ≤ 100 ∧ Q (.bl (closesB F c w)) H
/-- the lines that are left when crossing c goes: B tells what lies behind an end -/
def leftOf (B : Nat → Nat) (c m : Nat) : List (Nat × Nat) := (List.range m).filterMap fun e => if e / 4 ≠ c ∧ e < B e then some (upOf c e, upOf c (B e)) else none
theorem leftOf_snoc (B : Nat → Nat) (c m : Nat) : leftOf B c (m + 1) = leftOf B c m ++ (if m / 4 ≠ c ∧ m < B m then [(upOf c m, upOf c (B m))] else []) := by
  unfold leftOf
  rw [List.range_succ, List.filterMap_append]
  by_cases h : m / 4 ≠ c ∧ m < B m
  · simp [h]
  · simp [h]
def spLeft : Sp := fun vs H Q _ => ∃ (L : Addr) (m : Nat) (F B : Nat → Nat) (c w : Nat), vs = [.ref L, .int (c : Nat), .int (w : Nat)] ∧ H L = some (.lst (farL F m)) ∧ c < m ∧ m ≤ 100 ∧ w < 3 ∧ (∀ e, e < 4 * m → e / 4 ≠ c → ∃ k, backK F c w k (F e) = some (B e)) ∧
  ∀ (H' : Hp) (t : Addr) (as : List Addr), Same H H' → H' t = some (.tup (refs as)) → PL H' as (leftOf B c (4 * m)) → Q (.ref t) H'
section
variable {P : Program} {w : World} {K : PySem.W.Frag} {mg : Str → Option Value} {base : Heap}
theorem ok_closes {f fM : Addr} {fd fdM : FuncData} (F : Fun K "closes" "closes" sCloses f fd) (T : TB mg) (C : TC mg) (M : Cal K mg "mate" fM fdM ["end", "way"]) (GM : FnOk P w K mg base CX0 1 fM fdM ["end", "way"] spMate) :
    FnOk P w K mg base CX0 2 f fd ["fars", "crossing", "way"] spCloses := by
  refine F.ok scCloses (fun vs H Q E h => ?_) (fun cdv A outer s H vs Q E hr h => ?_)
  · obtain ⟨L, m, F, c, w, rfl, _⟩ := h
    rfl
  · obtain ⟨L, m, F, c, w', rfl, hL, hc, hm, q⟩ := h
    have nd := scCloses.nd
    obtain ⟨t4, ht4⟩ := C.places
    refine ⟨_, pss_cons (ps_set (i := 3) nd rfl (Or.inl rfl) (pe_op op_mul (pe_glob (v := .int 4) rfl ht4 ⟨_, rfl⟩) (pv 1)))
      (pss_cons (ps_for PassesOwn.never rfl (pi_range2 (by rfl) T.range (pa_cons (pv 3) (pa_cons (pe_op op_add (pv 3) (pe_glob (v := .int 4) rfl ht4 ⟨_, rfl⟩)) pa_nil))) (pg_name (i := 4) nd rfl (Or.inl rfl))
        (pss_one (ps_if (pt_cmpR op_eq (pe_ix ix_list (pv 0) (pv 4) (fun _ _ => rfl)) (pe_call GM hr rfl M.g M.kp M.b .nil pass0 (pa_cons (pv 4) (pa_cons (pv 2) pa_nil))) (nomark _)) (pss_one (ps_ret pe_bl)) pss_nil)))
      (pss_one (ps_ret pe_bl))), ?_⟩
    have e4 : ((4 : Int) * (c : Nat)) = ((4 * c : Nat) : Int) := by omega
    refine ⟨_, rfl, _, _, rfl, rfl, .inl ⟨by decide, by decide⟩, ?_⟩
    refine ⟨_, rfl, _, rfl, _, _, rfl, rfl, (4 : Int) * (c : Nat), (4 : Int) * (c : Nat) + 4, rfl, ⟨by omega, by omega, by omega, by omega⟩, ?_⟩
    refine for_range (lo := (4 : Int) * (c : Nat)) (n := ((4 : Int) * (c : Nat) + 4 - (4 : Int) * (c : Nat)).toNat) (fun i σ H' => ∃ v4, σ = [some (.ref L), some (.int (c : Nat)), some (.int (w' : Nat)), some (.int ((4 : Int) * (c : Nat))), v4] ∧ H' = H ∧ ∀ r, r < i → F (4 * c + r) ≠ (4 * c + r) ^^^ (w' + 1))
      ⟨none, rfl, rfl, fun r hr => absurd hr (by omega)⟩ ?_ ?_
    · rintro i σ H' hi ⟨v4, rfl, rfl, hno⟩
      have ei : ((4 : Int) * (c : Nat) + (i : Nat)) = ((4 * c + i : Nat) : Int) := by omega
      have hlt : 4 * c + i < 4 * m := by omega
      refine ⟨_, rfl, _, rfl, L, _, _, _, rfl, rfl, SqL.of hL, at_of (j := 4 * c + i) ei (farL_at hlt), _, rfl, _, rfl, 4 * c + i, w', (by rw [← ei]; rfl), rfl, _, rfl, ?_⟩
      by_cases he : F (4 * c + i) = (4 * c + i) ^^^ (w' + 1)
      · have e1 : decide (V.int (F (4 * c + i) : Nat) = V.int (((4 * c + i) ^^^ (w' + 1) : Nat) : Int)) = true := decide_eq_true (by rw [he])
        show if decide (V.int (F (4 * c + i) : Nat) = V.int (((4 * c + i) ^^^ (w' + 1) : Nat) : Int)) = true then _ else _
        rw [e1]
        refine iteT ?_
        rw [closesB_yes (r := i) (by omega) he] at q
        exact q
      · have e1 : decide (V.int (F (4 * c + i) : Nat) = V.int (((4 * c + i) ^^^ (w' + 1) : Nat) : Int)) = false := decide_eq_false (fun z => he (by
          have z := V.int.inj z
          omega))
        show if decide (V.int (F (4 * c + i) : Nat) = V.int (((4 * c + i) ^^^ (w' + 1) : Nat) : Int)) = true then _ else _
        rw [e1]
        refine iteF ⟨_, rfl, rfl, fun r hr => ?_⟩
        by_cases e : r = i
        · rw [e]; exact he
        · exact hno r (by omega)
    · rintro σ H' ⟨v4, rfl, rfl, hno⟩
      rw [closesB_not (fun r hr => hno r (by omega))] at q
      exact q
theorem ok_left {f fB fU : Addr} {fd fdB fdU : FuncData} (F : Fun K "lines_left" "lines_left" sLeft f fd) (T : TB mg) (C : TC mg) (B : Cal K mg "end_behind" fB fdB ["fars", "end", "crossing", "way"]) (GB : FnOk P w K mg base CX0 2 fB fdB ["fars", "end", "crossing", "way"] spBehind)
    (U : Cal K mg "closed_up" fU fdU ["end", "crossing"]) (GU : FnOk P w K mg base CX0 1 fU fdU ["end", "crossing"] spUp) : FnOk P w K mg base CX0 3 f fd ["fars", "crossing", "way"] spLeft := by
  refine F.ok scLeft (fun vs H Q E h => ?_) (fun cdv A outer s H vs Q E hr h => ?_)
  · obtain ⟨L, m, F, B, c, w, rfl, _⟩ := h
    rfl
  · obtain ⟨L, m, F, B', c, w', rfl, hL, hc, hm, hw, hB, q⟩ := h
    have nd := scLeft.nd
    obtain ⟨t4, ht4⟩ := C.places
    have hr1 : Room 1 _ := hr.mono (by decide)
    refine ⟨_, pss_cons (ps_set (i := 3) nd rfl (Or.inl rfl) (pe_lst pa_nil))
      (pss_cons (ps_for PassesOwn.never rfl (pi_range1 (by rfl) T.range (pa_cons (pe_callB call_len_seq (by rfl) T.len PySem.boot_len (pa_cons (pv 0) pa_nil)) pa_nil)) (pg_name (i := 4) nd rfl (Or.inl rfl))
        (pss_one (ps_if (pt_cmpR op_ne (pe_op op_fdiv (pv 4) (pe_glob (v := .int 4) rfl ht4 ⟨_, rfl⟩)) (pv 1) (nomark _))
          (pss_cons (ps_set (i := 5) nd rfl (Or.inl rfl) (pe_call GB hr rfl B.g B.kp B.b .nil pass0 (pa_cons (pv 0) (pa_cons (pv 4) (pa_cons (pv 1) (pa_cons (pv 2) pa_nil))))))
            (pss_one (ps_if (pt_cmpR op_lt (pv 4) (pv 5) (nomark _))
              (pss_one (ps_expr (pe_bm PySem.F.plainAttrs_list PySem.F.slot_list_append PySem.F.type_list_append mt_append (pv 3) (pa_cons (pe_tup (pa_cons (pe_call GU hr1 rfl U.g U.kp U.b .nil pass0 (pa_cons (pv 4) (pa_cons (pv 1) pa_nil)))
                (pa_cons (pe_call GU hr1 rfl U.g U.kp U.b .nil pass0 (pa_cons (pv 5) (pa_cons (pv 1) pa_nil))) pa_nil))) pa_nil)))) pss_nil))) pss_nil)))
      (pss_one (ps_ret (pe_tupleOf (by rfl) T.tuple (pv 3))))), ?_⟩
    refine ⟨Nat.zero_le _, fun D hD => ?_⟩
    have sD := Same.new (o := .lst []) hD
    have hLn : L ≠ D := ne_of_none hL hD
    have lenF : (farL F m).length = 4 * m := farL_len F m
    refine ⟨_, rfl, L, _, rfl, .inl (SqL.of (sD _ _ hL)), 4 * m, (by rw [lenF]; rfl), by omega, by omega, ?_⟩
    refine for_range (lo := 0) (n := (((4 * m : Nat) : Int)).toNat) (fun i σ H' => ∃ (as : List Addr) (v4 v5 : Option V), σ = [some (.ref L), some (.int (c : Nat)), some (.int (w' : Nat)), some (.ref D), v4, v5] ∧ Same H H' ∧ H' D = some (.lst (refs as)) ∧ PL H' as (leftOf B' c i) ∧ as.length ≤ i)
      ⟨[], none, none, rfl, sD, upd_same, .nil, Nat.le_refl _⟩ ?_ ?_
    · rintro i σ H' hi ⟨as, v4, v5, rfl, s', hD', hP', hl'⟩
      have hi : i < 4 * m := by omega
      have ei : ((0 : Int) + (i : Nat)) = ((i : Nat) : Int) := by omega
      refine ⟨_, rfl, _, _, rfl, rfl, ⟨by decide, by decide⟩, _, rfl, rfl, _, rfl, ?_⟩
      by_cases hic : i / 4 = c
      · have e1 : (!decide (V.int (((0 : Int) + (i : Nat)) / 4) = V.int (c : Nat))) = false := by
          rw [decide_eq_true (show V.int (((0 : Int) + (i : Nat)) / 4) = V.int (c : Nat) by rw [show ((0 : Int) + (i : Nat)) / 4 = ((i / 4 : Nat) : Int) by omega, hic])]
          rfl
        show if (!decide (V.int (((0 : Int) + (i : Nat)) / 4) = V.int (c : Nat))) = true then _ else _
        rw [e1]
        refine iteF ⟨as, _, _, rfl, s', hD', ?_, by omega⟩
        rw [leftOf_snoc, if_neg (fun z => z.1 hic), List.append_nil]
        exact hP'
      · have e1 : (!decide (V.int (((0 : Int) + (i : Nat)) / 4) = V.int (c : Nat))) = true := by
          rw [decide_eq_false (fun z => hic (by
            have z := V.int.inj z
            omega))]
          rfl
        show if (!decide (V.int (((0 : Int) + (i : Nat)) / 4) = V.int (c : Nat))) = true then _ else _
        rw [e1]
        obtain ⟨k, hk⟩ := hB i hi hic
        refine iteT ⟨_, rfl, _, rfl, _, rfl, _, rfl, L, m, F, i, c, w', k, B' i, (by rw [ei]; rfl), s' _ _ hL, hi, hc, hw, hk, ?_⟩
        refine ⟨_, rfl, _, rfl, _, _, rfl, rfl, _, rfl, ?_⟩
        by_cases hlt : i < B' i
        · have e2 : decide ((0 : Int) + (i : Nat) < ((B' i : Nat) : Int)) = true := decide_eq_true (by omega)
          show if decide ((0 : Int) + (i : Nat) < ((B' i : Nat) : Int)) = true then _ else _
          rw [e2]
          refine iteT ⟨_, rfl, .inl ⟨rfl, _, SqL.of hD'⟩, _, rfl, _, rfl, i, c, (by rw [ei]; rfl), ?_⟩
          refine ⟨_, rfl, _, rfl, B' i, c, rfl, two_le, fun u hu => ?_⟩
          have su := Same.new (o := .tup [V.int (upOf c i : Nat), V.int (upOf c (B' i) : Nat)]) hu
          have nDu : D ≠ u := ne_of_none hD' hu
          refine ⟨D, _, _, rfl, rfl, su _ _ hD', small1000 (by rw [List.length_map]; omega), as ++ [u], _, _, rfl, fun b o e => ?_, by rw [upd_same, refs_app]; rfl, ?_, by rw [List.length_append, List.length_singleton]; omega⟩
          · rw [upd_ne (ne_of_none e hD)]
            exact su _ _ (s' _ _ e)
          · rw [leftOf_snoc, if_pos ⟨hic, hlt⟩]
            have tk : ∀ b xs, H' b = some (.tup xs) → (upd (upd H' u (.tup [V.int (upOf c i : Nat), V.int (upOf c (B' i) : Nat)])) D (.lst (refs as ++ [V.ref u]))) b = some (.tup xs) := fun b xs e => by
              rw [upd_ne (ne_of e hD' (by intro z; cases z))]
              exact su _ _ e
            refine (hP'.mono tk).app (.cons ?_ .nil)
            show (upd (upd H' u _) D _) u = _
            rw [upd_ne (Ne.symm nDu), upd_same]
        · have e2 : decide ((0 : Int) + (i : Nat) < ((B' i : Nat) : Int)) = false := decide_eq_false (by omega)
          show if decide ((0 : Int) + (i : Nat) < ((B' i : Nat) : Int)) = true then _ else _
          rw [e2]
          refine iteF ⟨as, _, _, rfl, s', hD', ?_, by omega⟩
          rw [leftOf_snoc, if_neg (fun z => hlt z.2), List.append_nil]
          exact hP'
    · rintro σ H' ⟨as, v4, v5, rfl, s', hD', hP', hl'⟩
      refine ⟨_, rfl, .inl ⟨D, _, rfl, SqL.of hD', fun u hu => ?_⟩⟩
      have su := Same.new (o := .tup (refs as)) hu
      exact q _ u as (s'.trans su) upd_same (hP'.mono (sameT su))
end
end One
end P_F3

section P_M8
set_option linter.all false
/-! Sewing out any crossing, at any way, where nothing closes: what lies behind an end. -/
namespace One
theorem mate_block {e w : Nat} (hw : w < 3) : (e ^^^ (w + 1)) / 4 = e / 4 := by
  have h := Nat.xor_div_two_pow (a := e) (b := w + 1) (n := 2)
  rw [show (2 : Nat) ^ 2 = 4 from rfl] at h
  rw [h, show (w + 1) / 4 = 0 by omega, Nat.xor_zero]
theorem mate_mate (e w : Nat) : (e ^^^ (w + 1)) ^^^ (w + 1) = e := by rw [Nat.xor_assoc, Nat.xor_self, Nat.xor_zero]
theorem mate_ne (e w : Nat) : e ^^^ (w + 1) ≠ e := fun h => by
  have h2 : e ^^^ (e ^^^ (w + 1)) = e ^^^ e := by rw [h]
  rw [← Nat.xor_assoc, Nat.xor_self, Nat.zero_xor] at h2
  omega
/-- far ends of lines: no end is its own far end, far of far is the end -/
structure Inv2 (F : Nat → Nat) (m : Nat) : Prop where
  lt : ∀ e, e < 4 * m → F e < 4 * m
  inv : ∀ e, e < 4 * m → F (F e) = e
  ne : ∀ e, e < 4 * m → F e ≠ e
theorem far_inv {n : Nat} {ps : List (Nat × Nat)} (L : Lines n ps) : Inv2 (far ps) n := by
  refine ⟨fun e he => far_lt L he, fun e he => (far_line L.nd (ends_full L he)).2, fun e he h => ?_⟩
  obtain ⟨z | z, _⟩ := far_line L.nd (ends_full L he)
  · rw [h] at z
    exact nodup_pair L.nd _ z rfl
  · rw [h] at z
    exact nodup_pair L.nd _ z rfl
/-- nothing closes at crossing c, way w -/
def Open (F : Nat → Nat) (c w : Nat) : Prop := ∀ e, e / 4 = c → F e ≠ e ^^^ (w + 1)
section
variable {F : Nat → Nat} {m c w : Nat}
/-- the walk behind an end ends within two turns -/
theorem back_some (I : Inv2 F m) (hc : c < m) (hw : w < 3) (O : Open F c w) {e : Nat} (he : e < 4 * m) (ho : e / 4 ≠ c) : ∃ g, backK F c w 2 (F e) = some g ∧ g < 4 * m ∧ g / 4 ≠ c := by
  by_cases h0 : F e / 4 = c
  · rw [backK_in h0]
    have m0 : (F e ^^^ (w + 1)) / 4 = c := (mate_block hw).trans h0
    have l0 : F e ^^^ (w + 1) < 4 * m := by omega
    by_cases h1 : F (F e ^^^ (w + 1)) / 4 = c
    · rw [backK_in h1]
      have m1 : (F (F e ^^^ (w + 1)) ^^^ (w + 1)) / 4 = c := (mate_block hw).trans h1
      have l1 : F (F e ^^^ (w + 1)) ^^^ (w + 1) < 4 * m := by omega
      have h2 : F (F (F e ^^^ (w + 1)) ^^^ (w + 1)) / 4 ≠ c := by
        intro h2
        -- four ends of c: x, its mate, y, its mate, and where the last leads
        generalize hx : F e = x at *
        generalize hx' : x ^^^ (w + 1) = x' at *
        generalize hy : F x' = y at *
        generalize hy' : y ^^^ (w + 1) = y' at *
        generalize hz : F y' = z at *
        have fx : F x = e := by rw [← hx]; exact I.inv e he
        have fy : F y = x' := by rw [← hy]; exact I.inv x' l0
        have fz : F z = y' := by rw [← hz]; exact I.inv y' l1
        have mx : x' ^^^ (w + 1) = x := by rw [← hx']; exact mate_mate x w
        have my : y' ^^^ (w + 1) = y := by rw [← hy']; exact mate_mate y w
        have a1 : y ≠ x := fun q => O x' m0 (by rw [hy, mx]; exact q)
        have a2 : y ≠ x' := fun q => I.ne x' l0 (hy.trans q)
        have b1 : z ≠ y := fun q => O y' m1 (by rw [hz, my]; exact q)
        have b2 : z ≠ y' := fun q => I.ne y' l1 (hz.trans q)
        have b3 : z ≠ x := fun q => by
          rw [q, fx] at fz
          rw [fz] at ho
          exact ho m1
        have b4 : z ≠ x' := fun q => by
          rw [q, hy] at fz
          exact mate_ne y w (hy'.trans fz.symm)
        have d1 : x' ≠ x := fun q => mate_ne x w (hx'.trans q)
        have d2 : y' ≠ y := fun q => mate_ne y w (hy'.trans q)
        have d3 : y' ≠ x := fun q => by
          rw [q] at my
          exact a2 (my.symm.trans hx')
        have d4 : y' ≠ x' := fun q => by
          rw [q] at my
          exact a1 (my.symm.trans mx)
        omega
      rw [show backK F c w 0 (F (F (F e ^^^ (w + 1)) ^^^ (w + 1))) = some (F (F (F e ^^^ (w + 1)) ^^^ (w + 1))) from backK_out h2]
      exact ⟨_, rfl, I.lt _ l1, h2⟩
    · rw [backK_out h1]
      exact ⟨_, rfl, I.lt _ l0, h1⟩
  · rw [backK_out h0]
    exact ⟨_, rfl, I.lt _ he, h0⟩
end
end One
end P_M8

section P_M9
set_option linter.all false
namespace One
/-- walking from an end through crossing c to g -/
inductive Through (F : Nat → Nat) (c w : Nat) : Nat → Nat → Prop
  | out {e : Nat} : F e / 4 ≠ c → Through F c w e (F e)
  | step {e g : Nat} : F e / 4 = c → Through F c w (F e ^^^ (w + 1)) g → Through F c w e g
section
variable {F : Nat → Nat} {m c w : Nat}
theorem through_of : ∀ (k e g : Nat), backK F c w k (F e) = some g → Through F c w e g
  | 0, e, g, h => by
    by_cases h0 : F e / 4 = c
    · have z : (none : Option Nat) = some g := (if_pos h0).symm.trans h
      cases z
    · rw [backK_out h0] at h
      cases h
      exact .out h0
  | k + 1, e, g, h => by
    by_cases h0 : F e / 4 = c
    · rw [backK_in h0] at h
      exact .step h0 (through_of k _ _ h)
    · rw [backK_out h0] at h
      cases h
      exact .out h0
theorem Through.one {e g : Nat} (h : Through F c w e g) : ∀ {g' : Nat}, Through F c w e g' → g = g' := by
  induction h with
  | out h0 =>
    intro g' k
    cases k with
    | out _ => rfl
    | step h1 _ => exact absurd h1 h0
  | step h0 _ ih =>
    intro g' k
    cases k with
    | out h1 => exact absurd h0 h1
    | step _ k => exact ih k
/-- the walk back -/
theorem Through.back (I : Inv2 F m) (hc : c < m) (hw : w < 3) {e g : Nat} (h : Through F c w e g) : e < 4 * m → ∀ x, ((e / 4 ≠ c ∧ x = e) ∨ (e / 4 = c ∧ Through F c w (e ^^^ (w + 1)) x)) → Through F c w g x := by
  induction h with
  | @out e h0 =>
    intro he x hx
    have fe := I.inv e he
    rcases hx with ⟨h1, rfl⟩ | ⟨h1, h2⟩
    · have := Through.out (F := F) (c := c) (w := w) (e := F x) (by rw [fe]; exact h1)
      rw [fe] at this
      exact this
    · exact .step (by rw [fe]; exact h1) (by rw [fe]; exact h2)
  | @step e g h0 _ ih =>
    intro he x hx
    have fe := I.inv e he
    have mb : (F e ^^^ (w + 1)) / 4 = c := (mate_block hw).trans h0
    refine ih (by omega) x (.inr ⟨mb, ?_⟩)
    rw [mate_mate]
    rcases hx with ⟨h1, rfl⟩ | ⟨h1, h2⟩
    · have := Through.out (F := F) (c := c) (w := w) (e := F x) (by rw [fe]; exact h1)
      rw [fe] at this
      exact this
    · exact .step (by rw [fe]; exact h1) (by rw [fe]; exact h2)
/-- what lies behind an end, once crossing c is sewn out at way w -/
def behindF (F : Nat → Nat) (c w e : Nat) : Nat := (backK F c w 2 (F e)).getD 0
theorem behind_is (I : Inv2 F m) (hc : c < m) (hw : w < 3) (O : Open F c w) {e : Nat} (he : e < 4 * m) (ho : e / 4 ≠ c) :
    backK F c w 2 (F e) = some (behindF F c w e) ∧ behindF F c w e < 4 * m ∧ behindF F c w e / 4 ≠ c := by
  obtain ⟨g, h1, h2, h3⟩ := back_some I hc hw O he ho
  have e1 : behindF F c w e = g := by
    unfold behindF
    rw [h1]
    rfl
  rw [e1]
  exact ⟨h1, h2, h3⟩
theorem behind_inv (I : Inv2 F m) (hc : c < m) (hw : w < 3) (O : Open F c w) {e : Nat} (he : e < 4 * m) (ho : e / 4 ≠ c) : behindF F c w (behindF F c w e) = e := by
  obtain ⟨h1, h2, h3⟩ := behind_is I hc hw O he ho
  obtain ⟨k1, _, _⟩ := behind_is I hc hw O h2 h3
  have t1 := through_of _ _ _ h1
  have t2 := through_of _ _ _ k1
  exact t2.one (t1.back I hc hw he e (.inl ⟨ho, rfl⟩))
theorem behind_ne (I : Inv2 F m) (hc : c < m) (hw : w < 3) (O : Open F c w) {e : Nat} (he : e < 4 * m) (ho : e / 4 ≠ c) : behindF F c w e ≠ e := by
  intro h
  obtain ⟨h1, _, _⟩ := behind_is I hc hw O he ho
  rw [h] at h1
  by_cases h0 : F e / 4 = c
  · rw [backK_in h0] at h1
    have m0 : (F e ^^^ (w + 1)) / 4 = c := (mate_block hw).trans h0
    have l0 : F e ^^^ (w + 1) < 4 * m := by omega
    by_cases h2 : F (F e ^^^ (w + 1)) / 4 = c
    · rw [backK_in h2] at h1
      have m1 : (F (F e ^^^ (w + 1)) ^^^ (w + 1)) / 4 = c := (mate_block hw).trans h2
      have l1 : F (F e ^^^ (w + 1)) ^^^ (w + 1) < 4 * m := by omega
      by_cases h4 : F (F (F e ^^^ (w + 1)) ^^^ (w + 1)) / 4 = c
      · have z : (none : Option Nat) = some e := (if_pos h4).symm.trans h1
        cases z
      · rw [backK_out h4] at h1
        have z := Option.some.inj h1
        have z2 := I.inv _ l1
        rw [z] at z2
        have z3 : F (F e ^^^ (w + 1)) = F e ^^^ (w + 1) := ((congrArg (· ^^^ (w + 1)) z2).trans (mate_mate _ w)).symm
        exact I.ne _ l0 z3
    · rw [backK_out h2] at h1
      have z := Option.some.inj h1
      have z2 := I.inv _ l0
      rw [z] at z2
      exact mate_ne (F e) w z2.symm
  · rw [backK_out h0] at h1
    exact I.ne e he (Option.some.inj h1)
end
end One
end P_M9

section P_M10
set_option linter.all false
namespace One
theorem sub_len : ∀ {a b : List Nat}, a.Nodup → (∀ x ∈ a, x ∈ b) → a.length ≤ b.length
  | [], _, _, _ => Nat.zero_le _
  | x :: r, b, nd, h => by
    obtain ⟨h1, h2⟩ := List.nodup_cons.mp nd
    have hx := h x (List.mem_cons_self ..)
    have e := List.length_erase_of_mem hx
    have pos := List.length_pos_of_mem hx
    have ih := sub_len (b := b.erase x) h2 fun y hy => (List.mem_erase_of_ne (fun (q : y = x) => h1 (by rw [← q]; exact hy))).mpr (h y (List.mem_cons_of_mem _ hy))
    rw [List.length_cons]
    omega
theorem up_inj {c e e' : Nat} (h : e / 4 ≠ c) (h' : e' / 4 ≠ c) (q : upOf c e = upOf c e') : e = e' := by
  unfold upOf at q
  split at q <;> split at q <;> omega
theorem up_lt {c e m : Nat} (hc : c < m) (he : e < 4 * m) (h : e / 4 ≠ c) : upOf c e < 4 * (m - 1) := by
  unfold upOf
  split <;> omega
theorem up_onto {c m x : Nat} (hc : c < m) (hx : x < 4 * (m - 1)) : ∃ e, e < 4 * m ∧ e / 4 ≠ c ∧ upOf c e = x := by
  by_cases h : x / 4 < c
  · exact ⟨x, by omega, by omega, if_neg (by omega)⟩
  · refine ⟨x + 4, by omega, by omega, ?_⟩
    unfold upOf
    rw [if_pos (by omega)]
    omega
theorem mem_left {B : Nat → Nat} {c M : Nat} {p : Nat × Nat} : p ∈ leftOf B c M ↔ ∃ e, e < M ∧ e / 4 ≠ c ∧ e < B e ∧ p = (upOf c e, upOf c (B e)) := by
  unfold leftOf
  rw [List.mem_filterMap]
  constructor
  · rintro ⟨e, he, h⟩
    split at h
    · rename_i q
      cases h
      exact ⟨e, List.mem_range.mp he, q.1, q.2, rfl⟩
    · cases h
  · rintro ⟨e, h1, h2, h3, rfl⟩
    exact ⟨e, List.mem_range.mpr h1, if_pos ⟨h2, h3⟩⟩
section
variable {F : Nat → Nat} {m c w : Nat}
theorem left_nodup {B : Nat → Nat} (bo : ∀ e, e < 4 * m → e / 4 ≠ c → B e / 4 ≠ c ∧ B (B e) = e) : ∀ M, M ≤ 4 * m → (ends (leftOf B c M)).Nodup
  | 0, _ => .nil
  | M + 1, hM => by
    have ih := left_nodup bo M (by omega)
    rw [leftOf_snoc, ends_append]
    by_cases q : M / 4 ≠ c ∧ M < B M
    · rw [if_pos q]
      obtain ⟨bM, bb⟩ := bo M (by omega) q.1
      have nin : ∀ x ∈ ends (leftOf B c M), x ≠ upOf c M ∧ x ≠ upOf c (B M) := fun x hx => by
        obtain ⟨p, hp, hxp⟩ := mem_ends.mp hx
        obtain ⟨e, h1, h2, h3, rfl⟩ := mem_left.mp hp
        obtain ⟨be, bbe⟩ := bo e (by omega) h2
        have q2 := q.2
        rcases hxp with rfl | rfl
        · refine ⟨fun z => ?_, fun z => ?_⟩
          · have := up_inj h2 q.1 z
            omega
          · have := up_inj h2 bM z
            omega
        · refine ⟨fun z => ?_, fun z => ?_⟩
          · have z := up_inj be q.1 z
            rw [z] at bbe
            omega
          · have z := up_inj be bM z
            rw [z, bb] at bbe
            omega
      have ne : upOf c M ≠ upOf c (B M) := fun z => by
        have := up_inj q.1 bM z
        have := q.2
        omega
      refine List.nodup_append.mpr ⟨ih, ?_, fun x hx y hy => ?_⟩
      · show [upOf c M, upOf c (B M)].Nodup
        simp [ne]
      · have hy : y ∈ [upOf c M, upOf c (B M)] := hy
        simp only [List.mem_cons, List.not_mem_nil, or_false] at hy
        rcases hy with rfl | rfl
        · exact (nin x hx).1
        · exact (nin x hx).2
    · rw [if_neg q]
      simpa [ends] using ih
/-- what is left when a crossing is sewn out is lines -/
theorem left_lines (I : Inv2 F m) (hc : c < m) (hw : w < 3) (O : Open F c w) : Lines (m - 1) (leftOf (behindF F c w) c (4 * m)) := by
  have bo : ∀ e, e < 4 * m → e / 4 ≠ c → behindF F c w e / 4 ≠ c ∧ behindF F c w (behindF F c w e) = e := fun e he ho => ⟨(behind_is I hc hw O he ho).2.2, behind_inv I hc hw O he ho⟩
  have nd := left_nodup bo (4 * m) (Nat.le_refl _)
  have lt : ∀ x ∈ ends (leftOf (behindF F c w) c (4 * m)), x < 4 * (m - 1) := fun x hx => by
    obtain ⟨p, hp, hxp⟩ := mem_ends.mp hx
    obtain ⟨e, h1, h2, h3, rfl⟩ := mem_left.mp hp
    obtain ⟨_, b2, b3⟩ := behind_is I hc hw O h1 h2
    rcases hxp with rfl | rfl
    · exact up_lt hc h1 h2
    · exact up_lt hc b2 b3
  have full : ∀ x ∈ List.range (4 * (m - 1)), x ∈ ends (leftOf (behindF F c w) c (4 * m)) := fun x hx => by
    obtain ⟨e, h1, h2, rfl⟩ := up_onto hc (List.mem_range.mp hx)
    obtain ⟨_, b2, b3⟩ := behind_is I hc hw O h1 h2
    have hne := behind_ne I hc hw O h1 h2
    have hinv := behind_inv I hc hw O h1 h2
    by_cases q : e < behindF F c w e
    · exact mem_ends.mpr ⟨_, mem_left.mpr ⟨e, h1, h2, q, rfl⟩, .inl rfl⟩
    · exact mem_ends.mpr ⟨_, mem_left.mpr ⟨behindF F c w e, b2, b3, by rw [hinv]; omega, rfl⟩, .inr (by rw [hinv])⟩
  have l1 := pigeon _ _ nd lt
  have l2 := sub_len List.nodup_range full
  rw [List.length_range] at l2
  rw [ends_length] at l1 l2
  exact ⟨by omega, nd, lt⟩
end
end One
end P_M10

section P_M11
set_option linter.all false
/-! Parity: an involution without a fixed point pairs what it is closed on. -/
namespace One
/-- a list without repeats, closed under an involution that moves each item, has even length -/
theorem even_inv {F : Nat → Nat} : ∀ (n : Nat) (l : List Nat), l.length = n → l.Nodup → (∀ x ∈ l, F x ∈ l ∧ F (F x) = x ∧ F x ≠ x) → l.length % 2 = 0
  | 0, l, h, _, _ => by rw [h]
  | 1, [a], _, _, h => by
    obtain ⟨h1, _, h3⟩ := h a (List.mem_cons_self ..)
    exact absurd (List.mem_singleton.mp h1) h3
  | n + 2, [], h, _, _ => by cases h
  | n + 2, a :: r, h, nd, k => by
    obtain ⟨n1, n2⟩ := List.nodup_cons.mp nd
    obtain ⟨k1, k2, k3⟩ := k a (List.mem_cons_self ..)
    have hr : F a ∈ r := by
      rcases List.mem_cons.mp k1 with e | m
      · exact absurd e k3
      · exact m
    have le := List.length_erase_of_mem hr
    have hl : r.length = n + 1 := by
      rw [List.length_cons] at h
      omega
    have hn : (r.erase (F a)).length = n := by omega
    have ih := even_inv n (r.erase (F a)) hn (n2.erase _) fun x hx => by
      obtain ⟨x1, x2⟩ := n2.mem_erase_iff.mp hx
      obtain ⟨y1, y2, y3⟩ := k x (List.mem_cons_of_mem _ x2)
      refine ⟨n2.mem_erase_iff.mpr ⟨fun e => ?_, ?_⟩, y2, y3⟩
      · have e2 : F (F x) = F (F a) := by rw [e]
        rw [y2, k2] at e2
        exact n1 (e2 ▸ x2)
      · rcases List.mem_cons.mp y1 with e | m
        · rw [e] at y2
          exact absurd y2.symm x1
        · exact m
    rw [List.length_cons]
    omega
/-- the ends of the crossings that a predicate takes -/
def endsOf (P : Nat → Bool) (m : Nat) : List Nat := (List.range (4 * m)).filter fun e => P (e / 4)
theorem endsOf_len (P : Nat → Bool) : ∀ m, (endsOf P m).length % 4 = 0
  | 0 => rfl
  | m + 1 => by
    have ih := endsOf_len P m
    unfold endsOf at *
    rw [show 4 * (m + 1) = 4 * m + 1 + 1 + 1 + 1 by omega, List.range_succ, List.range_succ, List.range_succ, List.range_succ]
    simp only [List.filter_append, List.length_append, List.filter_cons, List.filter_nil]
    rw [show 4 * m / 4 = m by omega, show (4 * m + 1) / 4 = m by omega, show (4 * m + 1 + 1) / 4 = m by omega, show (4 * m + 1 + 1 + 1) / 4 = m by omega]
    cases P m <;> simp <;> omega
end One
end P_M11

section P_M12
set_option linter.all false
/-! At most one way is barred at a crossing. -/
namespace One
/-- a parting of the ends that way w at crossing c keeps, and every line, and every other crossing -/
structure Parts (F : Nat → Nat) (m c w : Nat) (P : Nat → Bool) : Prop where
  far : ∀ e, e < 4 * m → P (F e) = P e
  blk : ∀ e e', e < 4 * m → e' < 4 * m → e / 4 = e' / 4 → e / 4 ≠ c → P e = P e'
  mate : ∀ e, e / 4 = c → P (e ^^^ (w + 1)) = P e
  some_ : ∃ e, e < 4 * m ∧ P e = true
  none_ : ∃ e, e < 4 * m ∧ P e = false
def four (P : Nat → Bool) (c : Nat) : Nat := (if P (4 * c) then 1 else 0) + (if P (4 * c + 1) then 1 else 0) + (if P (4 * c + 2) then 1 else 0) + (if P (4 * c + 3) then 1 else 0)
theorem filter_len (P : Nat → Bool) : ∀ m, ((List.range (4 * m)).filter P).length = ((List.range m).map (four P)).sum
  | 0 => rfl
  | m + 1 => by
    rw [show 4 * (m + 1) = 4 * m + 1 + 1 + 1 + 1 by omega, List.range_succ, List.range_succ, List.range_succ, List.range_succ, List.range_succ]
    simp only [List.filter_append, List.length_append, List.map_append, List.sum_append, filter_len P m, List.filter_cons, List.filter_nil, List.map_cons, List.map_nil, List.sum_cons, List.sum_nil, four]
    rw [show 4 * m + 1 + 1 = 4 * m + 2 by omega, show 4 * m + 2 + 1 = 4 * m + 3 by omega]
    cases P (4 * m) <;> cases P (4 * m + 1) <;> cases P (4 * m + 2) <;> cases P (4 * m + 3) <;> simp
theorem sum_mod {g : Nat → Nat} {c : Nat} : ∀ n, c < n → (∀ i, i < n → i ≠ c → g i % 4 = 0) → (((List.range n).map g).sum) % 4 = g c % 4
  | 0, h, _ => absurd h (by omega)
  | n + 1, h, k => by
    rw [List.range_succ, List.map_append, List.sum_append]
    simp only [List.map_cons, List.map_nil, List.sum_cons, List.sum_nil]
    by_cases e : c = n
    · subst e
      have z : ∀ j, j ≤ c → (((List.range j).map g).sum) % 4 = 0 := fun j => by
        induction j with
        | zero => exact fun _ => rfl
        | succ j ih =>
          intro hj
          rw [List.range_succ, List.map_append, List.sum_append]
          simp only [List.map_cons, List.map_nil, List.sum_cons, List.sum_nil]
          have := ih (by omega)
          have := k j (by omega) (by omega)
          omega
      have := z c (Nat.le_refl _)
      omega
    · have := sum_mod n (by omega) fun i hi => k i (by omega)
      have := k n (by omega) (fun z => e z.symm)
      omega
section
variable {F : Nat → Nat} {m c : Nat}
/-- crossing c has an even number of ends in a set that keeps lines and the other crossings -/
theorem four_even (I : Inv2 F m) (hc : c < m) {P : Nat → Bool} (hf : ∀ e, e < 4 * m → P (F e) = P e) (hb : ∀ e e', e < 4 * m → e' < 4 * m → e / 4 = e' / 4 → e / 4 ≠ c → P e = P e') : four P c % 2 = 0 := by
  have h1 := even_inv (F := F) _ ((List.range (4 * m)).filter P) rfl (List.nodup_range.filter _) fun x hx => by
    obtain ⟨hx1, hx2⟩ := List.mem_filter.mp hx
    have hx1 := List.mem_range.mp hx1
    exact ⟨List.mem_filter.mpr ⟨List.mem_range.mpr (I.lt x hx1), (hf x hx1).trans hx2⟩, I.inv x hx1, I.ne x hx1⟩
  have h2 := sum_mod (g := four P) m hc fun i hi hne => by
    have e1 := hb (4 * i) (4 * i + 1) (by omega) (by omega) (by omega) (by omega)
    have e2 := hb (4 * i) (4 * i + 2) (by omega) (by omega) (by omega) (by omega)
    have e3 := hb (4 * i) (4 * i + 3) (by omega) (by omega) (by omega) (by omega)
    unfold four
    rw [← e1, ← e2, ← e3]
    cases P (4 * i) <;> simp
  rw [← filter_len] at h2
  omega
theorem mates (c : Nat) : (4 * c) ^^^ 1 = 4 * c + 1 ∧ (4 * c) ^^^ 2 = 4 * c + 2 ∧ (4 * c) ^^^ 3 = 4 * c + 3 ∧ (4 * c + 1) ^^^ 2 = 4 * c + 3 ∧ (4 * c + 2) ^^^ 1 = 4 * c + 3 ∧ (4 * c + 1) ^^^ 3 = 4 * c + 2 := by
  have key : ∀ a b, a < 4 → b < 4 → (4 * c + a) ^^^ b = 4 * c + (a ^^^ b) := fun a b ha hb => by
    have h1 := Nat.xor_div_two_pow (a := 4 * c + a) (b := b) (n := 2)
    have h2 := Nat.xor_mod_two_pow (a := 4 * c + a) (b := b) (n := 2)
    rw [show (2 : Nat) ^ 2 = 4 from rfl] at h1 h2
    rw [show (4 * c + a) / 4 = c by omega, show b / 4 = 0 by omega, Nat.xor_zero] at h1
    rw [show (4 * c + a) % 4 = a by omega, show b % 4 = b by omega] at h2
    omega
  have a0 : 4 * c = 4 * c + 0 := rfl
  exact ⟨key 0 1 (by decide) (by decide), key 0 2 (by decide) (by decide), key 0 3 (by decide) (by decide), key 1 2 (by decide) (by decide), key 2 1 (by decide) (by decide), key 1 3 (by decide) (by decide)⟩
/-- a parting, such that it has just two of the four ends: the first one and its mate -/
theorem parts_pair {ps : List (Nat × Nat)} {w : Nat} (L : Lines m ps) (W : Whole m ps) (hc : c < m) (hw : w < 3) {P : Nat → Bool} (S : Parts (One.far ps) m c w P) :
    ∃ R : Nat → Bool, Parts (One.far ps) m c w R ∧ R (4 * c) = true ∧ ∀ k, k < 3 → R (4 * c + k + 1) = decide (k = w) := by
  have I := far_inv L
  -- where all four are alike, all is one crossing by crossing
  have alike : ∀ Q : Nat → Bool, Parts (One.far ps) m c w Q → Q (4 * c) = true → (∀ k, k < 4 → Q (4 * c + k) = true) → False := fun Q T h0 h4 => by
    have hblk : ∀ e e', e < 4 * m → e' < 4 * m → e / 4 = e' / 4 → Q e = Q e' := fun e e' he he' q => by
      by_cases h : e / 4 = c
      · have a := h4 (e % 4) (by omega)
        have b := h4 (e' % 4) (by omega)
        rw [show 4 * c + e % 4 = e by omega] at a
        rw [show 4 * c + e' % 4 = e' by omega] at b
        rw [a, b]
      · exact T.blk e e' he he' q h
    have all : ∀ d, d < m → Q (4 * d) = true := fun d hd => W.from (P := fun d => Q (4 * d) = true) (fun p hp => by
      have hlt := fun e (he : e ∈ ends ps) => L.lt e he
      have l1 := hlt p.1 (mem_ends.mpr ⟨p, hp, .inl rfl⟩)
      have l2 := hlt p.2 (mem_ends.mpr ⟨p, hp, .inr rfl⟩)
      have f := (far_of L.nd hp).1
      have q := T.far p.1 l1
      rw [f] at q
      have a := hblk p.1 (4 * (p.1 / 4)) l1 (by omega) (by omega)
      have b := hblk p.2 (4 * (p.2 / 4)) l2 (by omega) (by omega)
      show Q (4 * (p.1 / 4)) = true ↔ Q (4 * (p.2 / 4)) = true
      rw [← a, ← b, q]) hc h0 hd
    obtain ⟨e, he, hn⟩ := T.none_
    have := all (e / 4) (by omega)
    have a := hblk e (4 * (e / 4)) he (by omega) (by omega)
    rw [a] at hn
    rw [hn] at this
    cases this
  have flip : ∀ Q : Nat → Bool, Parts (One.far ps) m c w Q → Parts (One.far ps) m c w fun e => !Q e := fun Q T =>
    ⟨fun e he => by rw [T.far e he], fun e e' a b d f => by rw [T.blk e e' a b d f], fun e he => by rw [T.mate e he], let ⟨e, h, q⟩ := T.none_; ⟨e, h, by rw [q]; rfl⟩, let ⟨e, h, q⟩ := T.some_; ⟨e, h, by rw [q]; rfl⟩⟩
  obtain ⟨m1, m2, m3, m4, m5, m6⟩ := mates c
  have two : ∀ Q : Nat → Bool, Parts (One.far ps) m c w Q → Q (4 * c) = true → ∀ k, k < 3 → Q (4 * c + k + 1) = decide (k = w) := fun Q T h0 => by
    have hw' : w = 0 ∨ w = 1 ∨ w = 2 := by omega
    have no := alike Q T h0
    rcases hw' with rfl | rfl | rfl
    · have a := T.mate (4 * c) (by omega)
      have b := T.mate (4 * c + 2) (by omega)
      rw [m1] at a
      rw [m5] at b
      have h2 : Q (4 * c + 2) = false := by
        cases h : Q (4 * c + 2) with
        | false => rfl
        | true =>
          refine (no fun k hk => ?_).elim
          have : k = 0 ∨ k = 1 ∨ k = 2 ∨ k = 3 := by omega
          rcases this with rfl | rfl | rfl | rfl
          · exact h0
          · exact a.trans h0
          · exact h
          · exact b.trans h
      intro k hk
      have : k = 0 ∨ k = 1 ∨ k = 2 := by omega
      rcases this with rfl | rfl | rfl
      · exact a.trans h0
      · exact h2
      · exact b.trans h2
    · have a := T.mate (4 * c) (by omega)
      have b := T.mate (4 * c + 1) (by omega)
      rw [m2] at a
      rw [m4] at b
      have h2 : Q (4 * c + 1) = false := by
        cases h : Q (4 * c + 1) with
        | false => rfl
        | true =>
          refine (no fun k hk => ?_).elim
          have : k = 0 ∨ k = 1 ∨ k = 2 ∨ k = 3 := by omega
          rcases this with rfl | rfl | rfl | rfl
          · exact h0
          · exact h
          · exact a.trans h0
          · exact b.trans h
      intro k hk
      have : k = 0 ∨ k = 1 ∨ k = 2 := by omega
      rcases this with rfl | rfl | rfl
      · exact h2
      · exact a.trans h0
      · exact b.trans h2
    · have a := T.mate (4 * c) (by omega)
      have b := T.mate (4 * c + 1) (by omega)
      rw [m3] at a
      rw [m6] at b
      have h2 : Q (4 * c + 1) = false := by
        cases h : Q (4 * c + 1) with
        | false => rfl
        | true =>
          refine (no fun k hk => ?_).elim
          have : k = 0 ∨ k = 1 ∨ k = 2 ∨ k = 3 := by omega
          rcases this with rfl | rfl | rfl | rfl
          · exact h0
          · exact h
          · exact b.trans h
          · exact a.trans h0
      intro k hk
      have : k = 0 ∨ k = 1 ∨ k = 2 := by omega
      rcases this with rfl | rfl | rfl
      · exact h2
      · exact b.trans h2
      · exact a.trans h0
  cases h : P (4 * c) with
  | true => exact ⟨P, S, h, two P S h⟩
  | false =>
    have h' : (!P (4 * c)) = true := by rw [h]; rfl
    exact ⟨_, flip P S, h', two _ (flip P S) h'⟩
/-- two ways that part are one -/
theorem parts_one {ps : List (Nat × Nat)} {w w' : Nat} (L : Lines m ps) (W : Whole m ps) (hc : c < m) (hw : w < 3) (hw' : w' < 3) {P P' : Nat → Bool} (S : Parts (One.far ps) m c w P) (S' : Parts (One.far ps) m c w' P') : w = w' := by
  obtain ⟨R, T, r0, r1⟩ := parts_pair L W hc hw S
  obtain ⟨R', T', r0', r1'⟩ := parts_pair L W hc hw' S'
  have ev := four_even (far_inv L) hc (P := fun e => R e && R' e) (fun e he => by rw [T.far e he, T'.far e he]) (fun e e' a b d f => by rw [T.blk e e' a b d f, T'.blk e e' a b d f])
  have q1 : R (4 * c + 1) = _ := r1 0 (by decide)
  have q2 : R (4 * c + 2) = _ := r1 1 (by decide)
  have q3 : R (4 * c + 3) = _ := r1 2 (by decide)
  have q1' : R' (4 * c + 1) = _ := r1' 0 (by decide)
  have q2' : R' (4 * c + 2) = _ := r1' 1 (by decide)
  have q3' : R' (4 * c + 3) = _ := r1' 2 (by decide)
  unfold four at ev
  simp only [r0, r0', q1, q2, q3, q1', q2', q3'] at ev
  have a : w = 0 ∨ w = 1 ∨ w = 2 := by omega
  have b : w' = 0 ∨ w' = 1 ∨ w' = 2 := by omega
  rcases a with rfl | rfl | rfl <;> rcases b with rfl | rfl | rfl <;> first | rfl | (exfalso; revert ev; decide)
end
end One
end P_M12

section P_M14
set_option linter.all false
/-! Labels run together line by line. -/
namespace One
structure Runs (n : Nat) (ps : List (Nat × Nat)) (t : List Nat) : Prop where
  len : t.length = n
  done : ∀ p ∈ ps, t.getD (p.1 / 4) 0 = t.getD (p.2 / 4) 0
  sound : ∀ P : Nat → Prop, (∀ p ∈ ps, P (p.1 / 4) ↔ P (p.2 / 4)) → ∀ i j, i < n → j < n → t.getD i 0 = t.getD j 0 → (P i ↔ P j)
theorem getD_range {n i : Nat} (h : i < n) : (List.range n).getD i 0 = i := by
  rw [List.getD_eq_getElem?_getD, List.getElem?_range h]
  rfl
theorem runs_start (n : Nat) : Runs n [] (List.range n) :=
  ⟨List.length_range, fun p h => absurd h (by simp), fun P _ i j hi hj e => by
    rw [getD_range hi, getD_range hj] at e
    rw [e]⟩
def run1 (t : List Nat) (p : Nat × Nat) : List Nat := t.map fun k => if k = t.getD (p.1 / 4) 0 then t.getD (p.2 / 4) 0 else k
theorem run1_get {t : List Nat} {p : Nat × Nat} {i : Nat} (h : i < t.length) : (run1 t p).getD i 0 = if t.getD i 0 = t.getD (p.1 / 4) 0 then t.getD (p.2 / 4) 0 else t.getD i 0 := by
  unfold run1
  rw [List.getD_eq_getElem?_getD, List.getElem?_map, List.getElem?_eq_getElem h]
  show (if t[i] = _ then _ else t[i]) = _
  have e : t.getD i 0 = t[i] := by
    rw [List.getD_eq_getElem?_getD, List.getElem?_eq_getElem h]
    rfl
  rw [e]
theorem runs_step {n : Nat} {ps : List (Nat × Nat)} {t : List Nat} {p : Nat × Nat} (r : Runs n ps t) (hlt : ∀ q ∈ ps ++ [p], q.1 < 4 * n ∧ q.2 < 4 * n) : Runs n (ps ++ [p]) (run1 t p) := by
  have hl : (run1 t p).length = n := by
    unfold run1
    rw [List.length_map]
    exact r.len
  have hp := hlt p (List.mem_append.mpr (.inr (List.mem_singleton.mpr rfl)))
  have a1 : p.1 / 4 < t.length := by rw [r.len]; omega
  have a2 : p.2 / 4 < t.length := by rw [r.len]; omega
  refine ⟨hl, fun q hq => ?_, fun P hP i j hi hj e => ?_⟩
  · rcases List.mem_append.mp hq with hq | hq
    · have b := hlt q (List.mem_append.mpr (.inl hq))
      rw [run1_get (by rw [r.len]; omega), run1_get (by rw [r.len]; omega), r.done q hq]
    · rw [List.mem_singleton.mp hq, run1_get a1, run1_get a2, if_pos rfl]
      split <;> rfl
  · have hP0 : ∀ q ∈ ps, P (q.1 / 4) ↔ P (q.2 / 4) := fun q hq => hP q (List.mem_append.mpr (.inl hq))
    have hPp := hP p (List.mem_append.mpr (.inr (List.mem_singleton.mpr rfl)))
    have s := r.sound P hP0
    rw [run1_get (by rw [r.len]; exact hi), run1_get (by rw [r.len]; exact hj)] at e
    by_cases h1 : t.getD i 0 = t.getD (p.1 / 4) 0
    · by_cases h2 : t.getD j 0 = t.getD (p.1 / 4) 0
      · exact s i j hi hj (h1.trans h2.symm)
      · rw [if_pos h1, if_neg h2] at e
        exact (s i _ hi (by omega) h1).trans (hPp.trans (s _ j (by omega) hj e))
    · by_cases h2 : t.getD j 0 = t.getD (p.1 / 4) 0
      · rw [if_neg h1, if_pos h2] at e
        exact (s i _ hi (by omega) e).trans (hPp.symm.trans (s j _ hj (by omega) h2).symm)
      · rw [if_neg h1, if_neg h2] at e
        exact s i j hi hj e
theorem runs_whole {n : Nat} {ps : List (Nat × Nat)} {t : List Nat} (hn : 0 < n) (r : Runs n ps t) : (∀ i, i < n → t.getD i 0 = t.getD 0 0) ↔ Whole n ps := by
  constructor
  · intro h P hP h0 c hc
    exact (r.sound P hP 0 c hn hc (h c hc).symm).mp h0
  · intro w i hi
    exact w (fun c => t.getD c 0 = t.getD 0 0) (fun p hp => by rw [r.done p hp]) rfl i hi
theorem count_all {t : List Nat} (x : Nat) : t.length = t.count x ↔ ∀ i, i < t.length → t.getD i 0 = x := by
  rw [eq_comm, List.count_eq_length]
  constructor
  · intro h i hi
    rw [List.getD_eq_getElem?_getD, List.getElem?_eq_getElem hi]
    exact (h _ (List.getElem_mem hi)).symm
  · intro h y hy
    obtain ⟨i, hi, e⟩ := List.mem_iff_getElem.mp hy
    have := h i hi
    rw [List.getD_eq_getElem?_getD, List.getElem?_eq_getElem hi] at this
    exact (this.symm.trans e)
end One
end P_M14

section P_M13
set_option linter.all false
/-! A law's own sewing out: two joinings of lines. -/
namespace One
def hasE (a : Nat) (p : Nat × Nat) : Bool := decide (p.1 = a) || decide (p.2 = a)
theorem hasE_iff {a : Nat} {p : Nat × Nat} : hasE a p = true ↔ a = p.1 ∨ a = p.2 := by
  unfold hasE
  simp only [Bool.or_eq_true, decide_eq_true_eq]
  exact ⟨fun h => h.imp Eq.symm Eq.symm, fun h => h.imp Eq.symm Eq.symm⟩
theorem line_one : ∀ {L : List (Nat × Nat)}, (ends L).Nodup → ∀ {p q : Nat × Nat} {e : Nat}, p ∈ L → q ∈ L → hasE e p = true → hasE e q = true → p = q
  | [], _, p, q, e, hp, _, _, _ => absurd hp (by simp)
  | r :: L, h, p, q, e, hp, hq, hep, heq => by
    have h : (r.1 :: r.2 :: ends L).Nodup := h
    obtain ⟨h1, h2⟩ := List.nodup_cons.mp h
    obtain ⟨h3, h4⟩ := List.nodup_cons.mp h2
    have out : ∀ z ∈ L, hasE e z = true → hasE e r = true → False := fun z hz a b => by
      have hm : e ∈ ends L := mem_ends.mpr ⟨z, hz, hasE_iff.mp a⟩
      rcases hasE_iff.mp b with b | b
      · exact h1 (b ▸ List.mem_cons_of_mem _ hm)
      · exact h3 (b ▸ hm)
    rcases List.mem_cons.mp hp with e1 | hp1 <;> rcases List.mem_cons.mp hq with e2 | hq1
    · rw [e1, e2]
    · exact (out _ hq1 heq (e1 ▸ hep)).elim
    · exact (out _ hp1 hep (e2 ▸ heq)).elim
    · exact line_one h4 hp1 hq1 hep heq
theorem nodup_lines : ∀ {L : List (Nat × Nat)}, (ends L).Nodup → L.Nodup
  | [], _ => .nil
  | r :: L, h => by
    have h' : (r.1 :: r.2 :: ends L).Nodup := h
    obtain ⟨h1, h2⟩ := List.nodup_cons.mp h'
    obtain ⟨h3, h4⟩ := List.nodup_cons.mp h2
    exact List.nodup_cons.mpr ⟨fun m => h1 (List.mem_cons_of_mem _ (mem_ends.mpr ⟨r, m, .inl rfl⟩)), nodup_lines h4⟩
/-- the line that has an end, as it stands -/
def lineAt (L : List (Nat × Nat)) (a : Nat) : Nat × Nat := (L.filter (hasE a)).headD (0, 0)
theorem lineAt_of {L : List (Nat × Nat)} (h : (ends L).Nodup) {a : Nat} (ha : a ∈ ends L) : L.filter (hasE a) = [lineAt L a] ∧ lineAt L a ∈ L ∧ hasE a (lineAt L a) = true := by
  obtain ⟨p, hp, hpa⟩ := mem_ends.mp ha
  have hpa := hasE_iff.mpr hpa
  have nd := (nodup_lines h).filter (hasE a)
  have one : ∀ q ∈ L.filter (hasE a), q = p := fun q hq => by
    obtain ⟨q1, q2⟩ := List.mem_filter.mp hq
    exact line_one h q1 hp q2 hpa
  have hm : p ∈ L.filter (hasE a) := List.mem_filter.mpr ⟨hp, hpa⟩
  have e : L.filter (hasE a) = [p] := by
    revert nd one hm
    generalize L.filter (hasE a) = M
    intro nd one hm
    match M, nd, one, hm with
    | [], _, _, hm => cases hm
    | [x], _, one, _ => rw [one x (by simp)]
    | x :: y :: r, nd, one, _ =>
      have a := one x (by simp)
      have b := one y (by simp)
      rw [a, b] at nd
      simp at nd
  have e2 : lineAt L a = p := by
    unfold lineAt
    rw [e]
    rfl
  rw [e2]
  exact ⟨e, hp, hpa⟩
/-- the other end of a line -/
def otherE (p : Nat × Nat) (a : Nat) : Nat := if p.1 = a then p.2 else p.1
theorem other_far {L : List (Nat × Nat)} (h : (ends L).Nodup) {p : Nat × Nat} (hp : p ∈ L) {a : Nat} (ha : hasE a p = true) : otherE p a = far L a := by
  obtain ⟨f1, f2⟩ := far_of h hp
  unfold otherE
  rcases hasE_iff.mp ha with rfl | rfl
  · rw [if_pos rfl, f1]
  · have ne : p.1 ≠ p.2 := nodup_pair h p hp
    rw [if_neg ne, f2]
def restOf (L : List (Nat × Nat)) (a b : Nat) : List (Nat × Nat) := L.filter fun p => !decide (p = lineAt L a) && !decide (p = lineAt L b)
/-- two lines put together at their ends a and b -/
def without (L : List (Nat × Nat)) (a b : Nat) : List (Nat × Nat) := restOf L a b ++ [(far L a, far L b)]
section
variable {L : List (Nat × Nat)} {a b : Nat}
theorem same_line (h : (ends L).Nodup) (ha : a ∈ ends L) (hb : b ∈ ends L) (hab : a ≠ b) : lineAt L a = lineAt L b ↔ far L a = b := by
  obtain ⟨_, a2, a3⟩ := lineAt_of h ha
  obtain ⟨_, b2, b3⟩ := lineAt_of h hb
  constructor
  · intro e
    rw [← e] at b3
    rw [← other_far h a2 a3]
    unfold otherE
    rcases hasE_iff.mp a3 with q | q
    · rw [if_pos q.symm]
      rcases hasE_iff.mp b3 with z | z
      · exact absurd (q.trans z.symm) hab
      · exact z.symm
    · have ne := nodup_pair h _ a2
      rw [if_neg (fun z => ne (z.trans q))]
      rcases hasE_iff.mp b3 with z | z
      · exact z.symm
      · exact absurd (q.trans z.symm) hab
  · intro e
    refine line_one h a2 b2 ?_ b3
    rw [← e, ← other_far h a2 a3]
    unfold otherE
    split
    · exact hasE_iff.mpr (.inr rfl)
    · exact hasE_iff.mpr (.inl rfl)
theorem without_perm (h : (ends L).Nodup) (ha : a ∈ ends L) (hb : b ∈ ends L) (hab : a ≠ b) (hf : far L a ≠ b) : (ends L).Perm (a :: b :: ends (without L a b)) := by
  obtain ⟨_, a2, a3⟩ := lineAt_of h ha
  obtain ⟨_, b2, b3⟩ := lineAt_of h hb
  have ne : lineAt L a ≠ lineAt L b := fun e => hf ((same_line h ha hb hab).mp e)
  have p1 : L.Perm (lineAt L a :: lineAt L b :: restOf L a b) := by
    refine (List.perm_ext_iff_of_nodup (nodup_lines h) ?_).mpr fun p => ?_
    · refine List.nodup_cons.mpr ⟨fun m => ?_, List.nodup_cons.mpr ⟨fun m => ?_, (nodup_lines h).filter _⟩⟩
      · rcases List.mem_cons.mp m with e | m
        · exact ne e
        · have := (List.mem_filter.mp m).2
          simp at this
      · have := (List.mem_filter.mp m).2
        simp at this
    · constructor
      · intro hp
        by_cases e1 : p = lineAt L a
        · exact e1 ▸ List.mem_cons_self ..
        · by_cases e2 : p = lineAt L b
          · exact List.mem_cons_of_mem _ (e2 ▸ List.mem_cons_self ..)
          · exact List.mem_cons_of_mem _ (List.mem_cons_of_mem _ (List.mem_filter.mpr ⟨hp, by simp [e1, e2]⟩))
      · intro hp
        rcases List.mem_cons.mp hp with rfl | hp
        · exact a2
        · rcases List.mem_cons.mp hp with rfl | hp
          · exact b2
          · exact (List.mem_filter.mp hp).1
  have pa : ∀ {x : Nat} {p : Nat × Nat}, p ∈ L → hasE x p = true → [p.1, p.2].Perm [x, far L x] := fun {x p} hp hx => by
    rw [← other_far h hp hx]
    unfold otherE
    rcases hasE_iff.mp hx with q | q
    · rw [if_pos q.symm, q]
    · have nn := nodup_pair h _ hp
      rw [if_neg (fun z => nn (z.trans q)), q]
      exact .swap ..
  have p2 := ends_perm p1
  have p3 : (ends (lineAt L a :: lineAt L b :: restOf L a b)).Perm ([a, far L a] ++ ([b, far L b] ++ ends (restOf L a b))) := (pa a2 a3).append ((pa b2 b3).append_right _)
  refine (p2.trans p3).trans ?_
  unfold without
  rw [ends_append]
  show (a :: far L a :: b :: far L b :: ends (restOf L a b)).Perm (a :: b :: (ends (restOf L a b) ++ [far L a, far L b]))
  refine .cons _ ?_
  refine (List.Perm.swap b (far L a) _).trans (.cons _ ?_)
  exact (List.perm_append_comm (l₁ := [far L a, far L b]) (l₂ := ends (restOf L a b)))
theorem without_nodup (h : (ends L).Nodup) (ha : a ∈ ends L) (hb : b ∈ ends L) (hab : a ≠ b) (hf : far L a ≠ b) : (ends (without L a b)).Nodup ∧ ∀ e, e ∈ ends (without L a b) ↔ e ∈ ends L ∧ e ≠ a ∧ e ≠ b := by
  have p := without_perm h ha hb hab hf
  have nd := p.nodup_iff.mp h
  obtain ⟨n1, n2⟩ := List.nodup_cons.mp nd
  obtain ⟨n3, n4⟩ := List.nodup_cons.mp n2
  refine ⟨n4, fun e => ⟨fun m => ⟨p.mem_iff.mpr (List.mem_cons_of_mem _ (List.mem_cons_of_mem _ m)), fun z => by subst z; exact n1 (List.mem_cons_of_mem _ m), fun z => by subst z; exact n3 m⟩, fun ⟨m, e1, e2⟩ => ?_⟩⟩
  rcases List.mem_cons.mp (p.mem_iff.mp m) with z | m
  · exact absurd z e1
  · rcases List.mem_cons.mp m with z | m
    · exact absurd z e2
    · exact m
def jn (F : Nat → Nat) (a b e : Nat) : Nat := if e = F a then F b else if e = F b then F a else F e
theorem without_far (h : (ends L).Nodup) (ha : a ∈ ends L) (hb : b ∈ ends L) (hab : a ≠ b) (hf : far L a ≠ b) {e : Nat} (he : e ∈ ends (without L a b)) : far (without L a b) e = jn (far L) a b e := by
  obtain ⟨nd, _⟩ := without_nodup h ha hb hab hf
  obtain ⟨q, hq, hqe⟩ := mem_ends.mp he
  unfold jn
  have hnew : (far L a, far L b) ∈ without L a b := List.mem_append.mpr (.inr (List.mem_singleton.mpr rfl))
  obtain ⟨g1, g2⟩ := far_of nd hnew
  by_cases e1 : e = far L a
  · rw [if_pos e1, e1]
    exact g1
  · rw [if_neg e1]
    by_cases e2 : e = far L b
    · rw [if_pos e2, e2]
      exact g2
    · rw [if_neg e2]
      rcases List.mem_append.mp hq with m | m
      · have hm := (List.mem_filter.mp m).1
        obtain ⟨f1, f2⟩ := far_of h hm
        obtain ⟨k1, k2⟩ := far_of nd hq
        rcases hqe with rfl | rfl
        · rw [f1, k1]
        · rw [f2, k2]
      · rw [List.mem_singleton.mp m] at hqe
        exact absurd hqe (by simp [e1, e2])
end
/-- the four ends of a crossing, mates by two and two -/
structure FourE (c w a b a' b' : Nat) : Prop where
  ia : a / 4 = c
  ib : b / 4 = c
  ia' : a' / 4 = c
  ib' : b' / 4 = c
  ma : a ^^^ (w + 1) = b
  mb : b ^^^ (w + 1) = a
  ma' : a' ^^^ (w + 1) = b'
  mb' : b' ^^^ (w + 1) = a'
  ab : a ≠ b
  aa : a ≠ a'
  ab' : a ≠ b'
  ba : b ≠ a'
  bb : b ≠ b'
  ab'' : a' ≠ b'
  all : ∀ e, e / 4 = c → e = a ∨ e = b ∨ e = a' ∨ e = b'
theorem FourE.flip {c w a b a' b' : Nat} (f : FourE c w a b a' b') : FourE c w b a a' b' :=
  ⟨f.ib, f.ia, f.ia', f.ib', f.mb, f.ma, f.ma', f.mb', f.ab.symm, f.ba, f.bb, f.aa, f.ab', f.ab'', fun e he => by rcases f.all e he with h | h | h | h <;> simp [h]⟩
theorem FourE.flop {c w a b a' b' : Nat} (f : FourE c w a b a' b') : FourE c w a b b' a' :=
  ⟨f.ia, f.ib, f.ib', f.ia', f.ma, f.mb, f.mb', f.ma', f.ab, f.ab', f.aa, f.bb, f.ba, f.ab''.symm, fun e he => by rcases f.all e he with h | h | h | h <;> simp [h]⟩
theorem jn_flip {F : Nat → Nat} {a b e : Nat} (h : F a ≠ F b) : jn F b a e = jn F a b e := by
  unfold jn
  by_cases h1 : e = F a
  · rw [if_pos h1, if_neg (fun z => h (h1.symm.trans z)), if_pos h1]
  · rw [if_neg h1, if_neg h1]
section
variable {F : Nat → Nat} {m c w a b a' b' : Nat}
theorem sewn_a (I : Inv2 F m) (hc : c < m) (Q : FourE c w a b a' b') (o1 : F a ≠ b) (o2 : F a' ≠ b') {e : Nat} (he : e < 4 * m) (ho : e / 4 ≠ c) (h : F e = a) : ∃ k, backK F c w k (F e) = some (jn (jn F a b) a' b' e) := by
  have la : a < 4 * m := by have := Q.ia; omega
  have lb : b < 4 * m := by have := Q.ib; omega
  have la' : a' < 4 * m := by have := Q.ia'; omega
  have lb' : b' < 4 * m := by have := Q.ib'; omega
  have fa : F a = e := by rw [← h]; exact I.inv e he
  have out : ∀ x, x / 4 = c → e ≠ x := fun x hx z => ho (z ▸ hx)
  have inj : ∀ {x y}, x < 4 * m → F x = y → F y = x := fun {x y} hx q => by rw [← q]; exact I.inv x hx
  have ne_ab : F a ≠ F b := fun z => Q.ab (by have := inj la z; rw [I.inv b lb] at this; exact this.symm)
  have nb : F b ≠ b := I.ne b lb
  have fb_a : F b ≠ a := fun z => out b Q.ib (fa.symm.trans (inj lb z))
  rw [h]
  by_cases hb : F b / 4 = c
  · have : F b = a' ∨ F b = b' := by
      rcases Q.all _ hb with z | z | z | z
      · exact absurd z fb_a
      · exact absurd z nb
      · exact .inl z
      · exact .inr z
    rcases this with z | z
    · have fa' : F a' = b := inj lb z
      have hx : F b' / 4 ≠ c := fun q => by
        rcases Q.all _ q with y | y | y | y
        · exact out b' Q.ib' (fa.symm.trans (inj lb' y))
        · exact Q.ab'' (z.symm.trans (inj lb' y))
        · exact Q.bb (fa'.symm.trans (inj lb' y))
        · exact I.ne b' lb' y
      refine ⟨2, ?_⟩
      rw [backK_in Q.ia, Q.ma, z, backK_in Q.ia', Q.ma', backK_out hx]
      have e1 : jn F a b a' = e := by
        unfold jn
        rw [if_neg (fun y => out a' Q.ia' (fa.symm.trans y.symm)), if_pos z.symm, fa]
      have e2 : jn F a b b' = F b' := by
        unfold jn
        rw [if_neg (fun y => out b' Q.ib' (fa.symm.trans y.symm)), if_neg (fun y => Q.ab'' (z.symm.trans y.symm))]
      show some (F b') = some (if e = jn F a b a' then jn F a b b' else _)
      rw [e1, if_pos rfl, e2]
    · have fb' : F b' = b := inj lb z
      have hx : F a' / 4 ≠ c := fun q => by
        rcases Q.all _ q with y | y | y | y
        · exact out a' Q.ia' (fa.symm.trans (inj la' y))
        · exact Q.ab'' ((inj la' y).symm.trans z)
        · exact I.ne a' la' y
        · exact Q.ba (fb'.symm.trans (inj la' y))
      refine ⟨2, ?_⟩
      rw [backK_in Q.ia, Q.ma, z, backK_in Q.ib', Q.mb', backK_out hx]
      have e1 : jn F a b b' = e := by
        unfold jn
        rw [if_neg (fun y => out b' Q.ib' (fa.symm.trans y.symm)), if_pos z.symm, fa]
      have e2 : jn F a b a' = F a' := by
        unfold jn
        rw [if_neg (fun y => out a' Q.ia' (fa.symm.trans y.symm)), if_neg (fun y => Q.ab'' (y.trans z))]
      have e3 : e ≠ F a' := fun y => by
        rw [y, I.inv a' la'] at h
        exact Q.aa h.symm
      show some (F a') = some (if e = jn F a b a' then jn F a b b' else if e = jn F a b b' then jn F a b a' else _)
      rw [e2, e1, if_neg e3, if_pos rfl]
  · refine ⟨1, ?_⟩
    rw [backK_in Q.ia, Q.ma, backK_out hb]
    have e1 : jn F a b a' = F a' := by
      unfold jn
      rw [if_neg (fun y => out a' Q.ia' (fa.symm.trans y.symm)), if_neg (fun (y : a' = F b) => hb (y ▸ Q.ia'))]
    have e2 : jn F a b b' = F b' := by
      unfold jn
      rw [if_neg (fun y => out b' Q.ib' (fa.symm.trans y.symm)), if_neg (fun (y : b' = F b) => hb (y ▸ Q.ib'))]
    have e3 : e ≠ F a' := fun y => by
      rw [y, I.inv a' la'] at h
      exact Q.aa h.symm
    have e4 : e ≠ F b' := fun y => by
      rw [y, I.inv b' lb'] at h
      exact Q.ab' h.symm
    have e5 : jn F a b e = F b := by
      unfold jn
      rw [if_pos fa.symm]
    show some (F b) = some (if e = jn F a b a' then jn F a b b' else if e = jn F a b b' then jn F a b a' else jn F a b e)
    rw [e1, e2, if_neg e3, if_neg e4, e5]
theorem sewn_a' (I : Inv2 F m) (hc : c < m) (Q : FourE c w a b a' b') (o1 : F a ≠ b) (o2 : F a' ≠ b') {e : Nat} (he : e < 4 * m) (ho : e / 4 ≠ c) (h : F e = a') : ∃ k, backK F c w k (F e) = some (jn (jn F a b) a' b' e) := by
  have la : a < 4 * m := by have := Q.ia; omega
  have lb : b < 4 * m := by have := Q.ib; omega
  have la' : a' < 4 * m := by have := Q.ia'; omega
  have lb' : b' < 4 * m := by have := Q.ib'; omega
  have inj : ∀ {x y}, x < 4 * m → F x = y → F y = x := fun {x y} hx q => by rw [← q]; exact I.inv x hx
  have fa' : F a' = e := inj he h
  have out : ∀ x, x / 4 = c → e ≠ x := fun x hx z => ho (z ▸ hx)
  have e1 : jn F a b a' = e := by
    unfold jn
    rw [if_neg (fun y => out a Q.ia (fa'.symm.trans (inj la y.symm))), if_neg (fun y => out b Q.ib (fa'.symm.trans (inj lb y.symm))), fa']
  rw [h]
  show ∃ k, backK F c w k a' = some (if e = jn F a b a' then jn F a b b' else _)
  rw [e1, if_pos rfl]
  unfold jn
  by_cases h1 : b' = F a
  · rw [if_pos h1]
    have fb' : F b' = a := inj la h1.symm
    have hx : F b / 4 ≠ c := fun q => by
      rcases Q.all _ q with y | y | y | y
      · exact Q.bb ((inj lb y).symm.trans h1.symm)
      · exact I.ne b lb y
      · exact out b Q.ib (fa'.symm.trans (inj lb y))
      · exact Q.ab (fb'.symm.trans (inj lb y))
    exact ⟨2, by rw [backK_in Q.ia', Q.ma', fb', backK_in Q.ia, Q.ma, backK_out hx]⟩
  · rw [if_neg h1]
    by_cases h2 : b' = F b
    · rw [if_pos h2]
      have fb' : F b' = b := inj lb h2.symm
      have hx : F a / 4 ≠ c := fun q => by
        rcases Q.all _ q with y | y | y | y
        · exact I.ne a la y
        · exact o1 y
        · exact out a Q.ia (fa'.symm.trans (inj la y))
        · exact h1 y.symm
      exact ⟨2, by rw [backK_in Q.ia', Q.ma', fb', backK_in Q.ib, Q.mb, backK_out hx]⟩
    · rw [if_neg h2]
      have hx : F b' / 4 ≠ c := fun q => by
        rcases Q.all _ q with y | y | y | y
        · exact h1 (inj lb' y).symm
        · exact h2 (inj lb' y).symm
        · exact o2 (inj lb' y)
        · exact I.ne b' lb' y
      exact ⟨1, by rw [backK_in Q.ia', Q.ma', backK_out hx]⟩
/-- both joinings tell what lies behind an end -/
theorem sewn_both (I : Inv2 F m) (hc : c < m) (Q : FourE c w a b a' b') (o1 : F a ≠ b) (o2 : F a' ≠ b') (hq : jn F a b a' ≠ b') {e : Nat} (he : e < 4 * m) (ho : e / 4 ≠ c) : ∃ k, backK F c w k (F e) = some (jn (jn F a b) a' b' e) := by
  have la : a < 4 * m := by have := Q.ia; omega
  have lb : b < 4 * m := by have := Q.ib; omega
  have la' : a' < 4 * m := by have := Q.ia'; omega
  have lb' : b' < 4 * m := by have := Q.ib'; omega
  have inj : ∀ {x y}, x < 4 * m → F x = y → F y = x := fun {x y} hx q => by rw [← q]; exact I.inv x hx
  have ne1 : F a ≠ F b := fun z => Q.ab (by have := inj la z; rw [I.inv b lb] at this; exact this.symm)
  have o1' : F b ≠ a := fun z => o1 (inj lb z)
  have o2' : F b' ≠ a' := fun z => o2 (inj lb' z)
  by_cases h : F e / 4 = c
  · rcases Q.all _ h with z | z | z | z
    · exact sewn_a I hc Q o1 o2 he ho z
    · have := sewn_a I hc Q.flip o1' o2 he ho z
      rw [show jn F b a = jn F a b from funext fun x => jn_flip ne1] at this
      exact this
    · exact sewn_a' I hc Q o1 o2 he ho z
    · have := sewn_a' I hc Q.flop o1 o2' he ho z
      have ne2 : jn F a b a' ≠ jn F a b b' := fun q => by
        have inv : ∀ x, x < 4 * m → x ≠ a → x ≠ b → jn F a b (jn F a b x) = x := fun x hx xa xb => by
          unfold jn
          by_cases h1 : x = F a
          · rw [if_pos h1]
            rw [if_neg (fun y => ne1 y.symm), if_pos rfl, h1]
          · rw [if_neg h1]
            by_cases h2 : x = F b
            · rw [if_pos h2, if_pos rfl, h2]
            · rw [if_neg h2, if_neg (fun y => xa (by have := I.inv x hx; rw [y, I.inv a la] at this; exact this.symm)), if_neg (fun y => xb (by have := I.inv x hx; rw [y, I.inv b lb] at this; exact this.symm))]
              exact I.inv x hx
        have r1 := inv a' la' Q.aa.symm Q.ba.symm
        have r2 := inv b' lb' Q.ab'.symm Q.bb.symm
        rw [q, r2] at r1
        exact Q.ab'' r1.symm
      rw [show jn (jn F a b) b' a' e = jn (jn F a b) a' b' e from jn_flip ne2] at this
      exact this
  · refine ⟨0, ?_⟩
    rw [backK_out h]
    have out : ∀ x, x / 4 = c → x < 4 * m → e ≠ F x := fun x hx hl z => h (by rw [z, I.inv x hl]; exact hx)
    have e1 : jn F a b e = F e := by
      unfold jn
      rw [if_neg (out a Q.ia la), if_neg (out b Q.ib lb)]
    have key : ∀ x, x / 4 = c → x < 4 * m → x ≠ a → x ≠ b → e ≠ jn F a b x := fun x hx hl xa xb z => by
      unfold jn at z
      by_cases h1 : x = F a
      · rw [if_pos h1] at z
        exact out b Q.ib lb z
      · rw [if_neg h1] at z
        by_cases h2 : x = F b
        · rw [if_pos h2] at z
          exact out a Q.ia la z
        · rw [if_neg h2] at z
          exact out x hx hl z
    show some (F e) = some (if e = jn F a b a' then _ else if e = jn F a b b' then _ else jn F a b e)
    rw [if_neg (key a' Q.ia' la' Q.aa.symm Q.ba.symm), if_neg (key b' Q.ib' lb' Q.ab'.symm Q.bb.symm), e1]
end
end One
end P_M13

section P_M15
set_option linter.all false
/-! A barred way parts the ends; what a law's own sewing out leaves is what is left. -/
namespace One
section
variable {F : Nat → Nat} {m c w : Nat}
theorem through_rev (I : Inv2 F m) (hc : c < m) (hw : w < 3) {e g x : Nat} (h : Through F c w e g) : e / 4 = c → Through F c w g x → Through F c w (e ^^^ (w + 1)) x := by
  induction h with
  | @out e h0 =>
    intro he k
    have fe := I.inv e (by omega)
    cases k with
    | out q => rw [fe] at q; exact absurd he q
    | step q r =>
      rw [fe] at r
      exact r
  | @step e g h0 _ ih =>
    intro he k
    have fe := I.inv e (by omega)
    have mb : (F e ^^^ (w + 1)) / 4 = c := (mate_block hw).trans h0
    have := ih mb k
    rw [mate_mate] at this
    cases this with
    | out q => rw [fe] at q; exact absurd he q
    | step q r =>
      rw [fe] at r
      exact r
theorem open_of (hc : closesB F c w = false) : Open F c w := fun e he z => by
  have := closesB_yes (F := F) (c := c) (w := w) (r := e % 4) (by omega) (by rw [show 4 * c + e % 4 = e by omega]; exact z)
  rw [hc] at this
  cases this
/-- what closes parts the ends -/
theorem parts_closes (I : Inv2 F m) (hc : c < m) (h2 : 2 ≤ m) (hw : w < 3) (h : closesB F c w = true) : ∃ P, Parts F m c w P := by
  unfold closesB at h
  obtain ⟨r, hr, hx⟩ := List.any_eq_true.mp h
  have hr := List.mem_range.mp hr
  have hx := of_decide_eq_true hx
  generalize hxe : 4 * c + r = x at hx
  have xc : x / 4 = c := by omega
  have xl : x < 4 * m := by omega
  have mc : (x ^^^ (w + 1)) / 4 = c := (mate_block hw).trans xc
  have ml : x ^^^ (w + 1) < 4 * m := by omega
  have fx := I.inv x xl
  rw [hx] at fx
  refine ⟨fun e => decide (e = x) || decide (e = x ^^^ (w + 1)), fun e he => ?_, fun e e' _ _ q hq => ?_, fun e he => ?_, ⟨x, xl, by simp⟩, ?_⟩
  · rw [Bool.eq_iff_iff]
    simp only [Bool.or_eq_true, decide_eq_true_eq]
    constructor
    · rintro (z | z)
      · right
        have := I.inv e he
        rw [z, hx] at this
        exact this.symm
      · left
        have := I.inv e he
        rw [z, fx] at this
        exact this.symm
    · rintro (rfl | rfl)
      · exact .inr hx
      · exact .inl fx
  · have a : ¬ e = x := fun z => hq (by rw [z]; exact xc)
    have b : ¬ e = x ^^^ (w + 1) := fun z => hq (by rw [z]; exact mc)
    have a' : ¬ e' = x := fun z => hq (by rw [q, z]; exact xc)
    have b' : ¬ e' = x ^^^ (w + 1) := fun z => hq (by rw [q, z]; exact mc)
    simp [a, b, a', b']
  · rw [Bool.eq_iff_iff]
    simp only [Bool.or_eq_true, decide_eq_true_eq]
    constructor
    · rintro (z | z)
      · right
        rw [← z, mate_mate]
      · left
        have := congrArg (· ^^^ (w + 1)) z
        simp only [mate_mate] at this
        exact this
    · rintro (rfl | rfl)
      · exact .inr rfl
      · exact .inl (mate_mate _ _)
  · by_cases h0 : c = 0
    · exact ⟨4, by omega, by simp; omega⟩
    · refine ⟨0, by omega, by simp; omega⟩
theorem leftOf_congr {B B' : Nat → Nat} : ∀ M, (∀ e, e < M → e / 4 ≠ c → B e = B' e) → leftOf B c M = leftOf B' c M
  | 0, _ => rfl
  | M + 1, h => by
    rw [leftOf_snoc, leftOf_snoc, leftOf_congr M fun e he ho => h e (by omega) ho]
    by_cases q : M / 4 ≠ c
    · rw [h M (by omega) q]
    · rw [if_neg (fun z => q z.1), if_neg (fun z => q z.1)]
theorem back_behind (I : Inv2 F m) (hc : c < m) (hw : w < 3) (O : Open F c w) {B : Nat → Nat} (hB : ∀ e, e < 4 * m → e / 4 ≠ c → ∃ k, backK F c w k (F e) = some (B e)) {e : Nat} (he : e < 4 * m) (ho : e / 4 ≠ c) : B e = behindF F c w e := by
  obtain ⟨k, hk⟩ := hB e he ho
  exact (through_of _ _ _ hk).one (through_of _ _ _ (behind_is I hc hw O he ho).1)
/-- what isn't whole behind it parts the ends -/
theorem parts_left (I : Inv2 F m) (hc : c < m) (h2 : 2 ≤ m) (hw : w < 3) (h : closesB F c w = false) {B : Nat → Nat} (hB : ∀ e, e < 4 * m → e / 4 ≠ c → ∃ k, backK F c w k (F e) = some (B e)) (hn : ¬ Whole (m - 1) (leftOf B c (4 * m))) : ∃ P, Parts F m c w P := by
  have O := open_of h
  have ⟨P', hP, h0, d, hd, hnd⟩ : ∃ P' : Nat → Prop, (∀ p ∈ leftOf B c (4 * m), P' (p.1 / 4) ↔ P' (p.2 / 4)) ∧ P' 0 ∧ ∃ d, d < m - 1 ∧ ¬ P' d := by
    refine Classical.byContradiction fun z => hn fun P' a b c hc => Classical.byContradiction fun y => z ⟨P', a, b, c, hc, y⟩
  have line : ∀ e, e < 4 * m → e / 4 ≠ c → (P' (upOf c e / 4) ↔ P' (upOf c (behindF F c w e) / 4)) := fun e he ho => by
    have bb := back_behind I hc hw O hB he ho
    obtain ⟨_, b2, b3⟩ := behind_is I hc hw O he ho
    have bi := behind_inv I hc hw O he ho
    have bn := behind_ne I hc hw O he ho
    by_cases q : e < behindF F c w e
    · exact hP _ (mem_left.mpr ⟨e, he, ho, by rw [bb]; exact q, by rw [bb]⟩)
    · have bb2 := back_behind I hc hw O hB b2 b3
      rw [bi] at bb2
      exact (hP _ (mem_left.mpr ⟨_, b2, b3, by rw [bb2]; omega, by rw [bb2]⟩)).symm
  let Pr : Nat → Prop := fun e => (e / 4 ≠ c ∧ P' (upOf c e / 4)) ∨ (e / 4 = c ∧ ∃ g, Through F c w e g ∧ P' (upOf c g / 4))
  have gIn : ∀ {e g}, Through F c w e g → e < 4 * m → g < 4 * m ∧ g / 4 ≠ c := fun {e g} t => by
    induction t with
    | @out e q => exact fun he => ⟨I.lt e he, q⟩
    | @step e g q _ ih =>
      intro he
      have := (mate_block (e := F e) hw).trans q
      exact ih (by omega)
  have matePr : ∀ e, e / 4 = c → Pr e → Pr (e ^^^ (w + 1)) := fun e he p => by
    rcases p with ⟨q, _⟩ | ⟨_, g, t, pg⟩
    · exact absurd he q
    · obtain ⟨g1, g2⟩ := gIn t (by omega)
      obtain ⟨b1, _, _⟩ := behind_is I hc hw O g1 g2
      exact .inr ⟨(mate_block hw).trans he, _, through_rev I hc hw t he (through_of _ _ _ b1), (line g g1 g2).mp pg⟩
  have farPr : ∀ e, e < 4 * m → Pr e → Pr (F e) := fun e he p => by
    have fe := I.inv e he
    rcases p with ⟨q, pe⟩ | ⟨q, g, t, pg⟩
    · by_cases h1 : F e / 4 = c
      · have := Through.out (F := F) (c := c) (w := w) (e := F e) (by rw [fe]; exact q)
        rw [fe] at this
        exact .inr ⟨h1, e, this, pe⟩
      · have b : behindF F c w e = F e := by
          have := (behind_is I hc hw O he q).1
          rw [backK_out h1] at this
          exact (Option.some.inj this).symm
        have := (line e he q).mp pe
        rw [b] at this
        exact .inl ⟨h1, this⟩
    · cases t with
      | out h1 => exact .inl ⟨h1, pg⟩
      | step h1 t =>
        have mb : (F e ^^^ (w + 1)) / 4 = c := (mate_block hw).trans h1
        have := matePr _ mb (.inr ⟨mb, g, t, pg⟩)
        rw [mate_mate] at this
        exact this
  refine ⟨fun e => @decide (Pr e) (Classical.propDecidable _), fun e he => ?_, fun e e' _ _ q hq => ?_, fun e he => ?_, ?_, ?_⟩
  · refine decide_eq_decide.mpr ⟨fun p => ?_, farPr e he⟩
    have := farPr _ (I.lt e he) p
    rw [I.inv e he] at this
    exact this
  · refine decide_eq_decide.mpr ?_
    have hq' : e' / 4 ≠ c := by rw [← q]; exact hq
    have up : upOf c e / 4 = upOf c e' / 4 := by
      unfold upOf
      split <;> split <;> omega
    constructor
    · rintro (⟨_, p⟩ | ⟨z, _⟩)
      · exact .inl ⟨hq', up ▸ p⟩
      · exact absurd z hq
    · rintro (⟨_, p⟩ | ⟨z, _⟩)
      · exact .inl ⟨hq, up ▸ p⟩
      · exact absurd z hq'
  · refine decide_eq_decide.mpr ⟨fun p => ?_, matePr e he⟩
    have := matePr _ ((mate_block hw).trans he) p
    rw [mate_mate] at this
    exact this
  · obtain ⟨e, h1, h3, h4⟩ := up_onto (c := c) (m := m) (x := 0) hc (by omega)
    exact ⟨e, h1, @decide_eq_true _ (Classical.propDecidable _) (.inl ⟨h3, by rw [h4]; exact h0⟩)⟩
  · obtain ⟨e, h1, h3, h4⟩ := up_onto (c := c) (m := m) (x := 4 * d) hc (by omega)
    refine ⟨e, h1, @decide_eq_false _ (Classical.propDecidable _) ?_⟩
    rintro (⟨_, p⟩ | ⟨z, _⟩)
    · rw [h4, show 4 * d / 4 = d by omega] at p
      exact hnd p
    · exact h3 z
end
/-! ### the law's own sewing out -/
def upL (c : Nat) (p : Nat × Nat) : Nat × Nat := low (upOf c p.1) (upOf c p.2)
theorem up_lt' {c x y : Nat} (hx : x / 4 ≠ c) (hy : y / 4 ≠ c) (h : x < y) : upOf c x < upOf c y := by
  unfold upOf
  split <;> split <;> omega
theorem perm_left {L : List (Nat × Nat)} {B : Nat → Nat} {c m : Nat} (nd : (ends L).Nodup) (hm : ∀ e, e ∈ ends L ↔ e < 4 * m ∧ e / 4 ≠ c) (hB : ∀ e, e < 4 * m → e / 4 ≠ c → B e = far L e) : (L.map (upL c)).Perm (leftOf B c (4 * m)) := by
  have inL : ∀ {p}, p ∈ L → (p.1 < 4 * m ∧ p.1 / 4 ≠ c) ∧ (p.2 < 4 * m ∧ p.2 / 4 ≠ c) ∧ far L p.1 = p.2 ∧ far L p.2 = p.1 ∧ p.1 ≠ p.2 := fun {p} hp =>
    ⟨(hm _).mp (mem_ends.mpr ⟨p, hp, .inl rfl⟩), (hm _).mp (mem_ends.mpr ⟨p, hp, .inr rfl⟩), (far_of nd hp).1, (far_of nd hp).2, nodup_pair nd p hp⟩
  have bo : ∀ e, e < 4 * m → e / 4 ≠ c → B e / 4 ≠ c ∧ B (B e) = e := fun e he ho => by
    obtain ⟨z, zz⟩ := far_line nd ((hm e).mpr ⟨he, ho⟩)
    have hf : far L e ∈ ends L := by
      rcases z with z | z
      · exact mem_ends.mpr ⟨_, z, .inr rfl⟩
      · exact mem_ends.mpr ⟨_, z, .inl rfl⟩
    obtain ⟨f1, f2⟩ := (hm _).mp hf
    rw [hB e he ho, hB _ f1 f2]
    exact ⟨f2, zz⟩
  refine (List.perm_ext_iff_of_nodup ?_ (nodup_lines (left_nodup bo _ (Nat.le_refl _)))).mpr fun x => ?_
  · refine nodup_map_on (fun p hp q hq e => ?_) (nodup_lines nd)
    obtain ⟨⟨a1, a2⟩, ⟨a3, a4⟩, _, _, a5⟩ := inL hp
    obtain ⟨⟨b1, b2⟩, ⟨b3, b4⟩, _, _, b5⟩ := inL hq
    have key := (low_mem (upOf c q.1) (upOf c q.2) (upOf c p.1)).mp (by
      have : upL c p = upL c q := e
      unfold upL at this
      rw [← this]
      exact (low_mem _ _ _).mpr (.inl rfl))
    refine line_one nd hp hq (e := p.1) (hasE_iff.mpr (.inl rfl)) (hasE_iff.mpr ?_)
    rcases key with k | k
    · exact .inl (up_inj a2 b2 k)
    · exact .inr (up_inj a2 b4 k)
  · rw [mem_left, List.mem_map]
    constructor
    · rintro ⟨p, hp, rfl⟩
      obtain ⟨⟨a1, a2⟩, ⟨a3, a4⟩, f1, f2, a5⟩ := inL hp
      by_cases q : p.1 < p.2
      · refine ⟨p.1, a1, a2, by rw [hB _ a1 a2, f1]; exact q, ?_⟩
        rw [hB _ a1 a2, f1]
        unfold upL low
        rw [if_neg (by have := up_lt' a2 a4 q; omega)]
      · have q : p.2 < p.1 := by omega
        refine ⟨p.2, a3, a4, by rw [hB _ a3 a4, f2]; exact q, ?_⟩
        rw [hB _ a3 a4, f2]
        unfold upL low
        rw [if_pos (up_lt' a4 a2 q)]
    · rintro ⟨e, h1, h2, h3, rfl⟩
      obtain ⟨z, zz⟩ := far_line nd ((hm e).mpr ⟨h1, h2⟩)
      have hb := hB e h1 h2
      obtain ⟨b1, _⟩ := bo e h1 h2
      have u := up_lt' h2 b1 h3
      rw [← hb] at z
      rcases z with z | z
      · refine ⟨_, z, ?_⟩
        unfold upL low
        rw [if_neg (by show ¬ upOf c (B e) < upOf c e; omega)]
      · refine ⟨_, z, ?_⟩
        unfold upL low
        rw [if_pos (show upOf c e < upOf c (B e) from u)]
end One
end P_M15

section P_M16
set_option linter.all false
/-! Ways barred, what is left as a yard, crossings sewn out in either order. -/
namespace One
def BarW (ps : List (Nat × Nat)) (m c w : Nat) : Prop := closesB (far ps) c w = true ∨ ¬ Whole (m - 1) (leftOf (behindF (far ps) c w) c (4 * m))
section
variable {ps : List (Nat × Nat)} {m c w w' : Nat}
theorem bar_parts (L : Lines m ps) (h2 : 2 ≤ m) (hc : c < m) (hw : w < 3) (h : BarW ps m c w) : ∃ P, Parts (far ps) m c w P := by
  have I := far_inv L
  cases q : closesB (far ps) c w with
  | true => exact parts_closes I hc h2 hw q
  | false =>
    rcases h with h | h
    · rw [q] at h
      cases h
    · exact parts_left I hc h2 hw q (fun e he ho => ⟨2, (behind_is I hc hw (open_of q) he ho).1⟩) h
/-- at most one way is barred -/
theorem bar_one (Y : Yard m ps) (h2 : 2 ≤ m) (hc : c < m) (hw : w < 3) (hw' : w' < 3) (h : BarW ps m c w) (h' : BarW ps m c w') : w = w' := by
  obtain ⟨P, S⟩ := bar_parts Y.lines h2 hc hw h
  obtain ⟨P', S'⟩ := bar_parts Y.lines h2 hc hw' h'
  exact parts_one Y.lines Y.whole hc hw hw' S S'
theorem left_up {B : Nat → Nat} (hB : ∀ e, e < 4 * m → e / 4 ≠ c → B e / 4 ≠ c) : ∀ M, M ≤ 4 * m → (leftOf B c M).Pairwise ltP
  | 0, _ => .nil
  | M + 1, h => by
    rw [leftOf_snoc]
    refine List.pairwise_append.mpr ⟨left_up hB M (by omega), ?_, fun x hx y hy => ?_⟩
    · split
      · exact List.pairwise_singleton ..
      · exact .nil
    · obtain ⟨e, h1, h3, h4, rfl⟩ := mem_left.mp hx
      split at hy
      · rename_i q
        rw [List.mem_singleton.mp hy]
        exact .inl (up_lt' h3 q.1 h1)
      · cases hy
/-- what is left, where the way isn't barred, is a yard -/
theorem left_yard (Y : Yard m ps) (h2 : 2 ≤ m) (hc : c < m) (hw : w < 3) (h : ¬ BarW ps m c w) : Yard (m - 1) (leftOf (behindF (far ps) c w) c (4 * m)) := by
  have I := far_inv Y.lines
  have q : closesB (far ps) c w = false := by
    cases z : closesB (far ps) c w with
    | false => rfl
    | true => exact absurd (.inl z) h
  have O := open_of q
  have W : Whole (m - 1) (leftOf (behindF (far ps) c w) c (4 * m)) := Classical.byContradiction fun z => h (.inr z)
  have bo : ∀ e, e < 4 * m → e / 4 ≠ c → behindF (far ps) c w e / 4 ≠ c := fun e he ho => (behind_is I hc hw O he ho).2.2
  refine ⟨by omega, left_lines I hc hw O, W, left_up bo _ (Nat.le_refl _), fun p hp => ?_⟩
  obtain ⟨e, h1, h3, h4, rfl⟩ := mem_left.mp hp
  exact up_lt' h3 (bo e h1 h3) h4
end
/-- the yards of one crossing -/
theorem yard_one {ps : List (Nat × Nat)} (Y : Yard 1 ps) : ps = [(0, 1), (2, 3)] ∨ ps = [(0, 2), (1, 3)] ∨ ps = [(0, 3), (1, 2)] := by
  have hl := Y.lines.len
  match ps, hl, Y with
  | [(a, b), (c, d)], _, Y =>
    have nd := Y.lines.nd
    have l1 := Y.low (a, b) (by simp)
    have l2 := Y.low (c, d) (by simp)
    have up := Y.up
    have b1 := Y.lines.lt b (by simp [ends])
    have b2 := Y.lines.lt d (by simp [ends])
    simp only [ends, List.nodup_cons, List.mem_cons, List.not_mem_nil, or_false, not_or] at nd
    simp only [List.pairwise_cons, List.mem_singleton, forall_eq] at up
    have u := up.1
    unfold ltP at u
    dsimp only at u l1 l2
    simp only [List.cons.injEq, Prod.mk.injEq, and_true]
    omega
/-! ### going straight on through two crossings -/
inductive Thr (F : Nat → Nat) (w : Nat) (S : Nat → Prop) : Nat → Nat → Prop
  | out {e : Nat} : ¬ S (F e / 4) → Thr F w S e (F e)
  | step {e g : Nat} : S (F e / 4) → Thr F w S (F e ^^^ (w + 1)) g → Thr F w S e g
theorem Thr.one {F : Nat → Nat} {w : Nat} {S : Nat → Prop} {e g : Nat} (h : Thr F w S e g) : ∀ {g' : Nat}, Thr F w S e g' → g = g' := by
  induction h with
  | out h0 =>
    intro g' k
    cases k with
    | out _ => rfl
    | step h1 _ => exact absurd h1 h0
  | step h0 _ ih =>
    intro g' k
    cases k with
    | out h1 => exact absurd h0 h1
    | step _ k => exact ih k
section
variable {F : Nat → Nat} {w c d : Nat}
abbrev TwoK (c d : Nat) : Nat → Prop := fun x => x = c ∨ x = d
theorem thr_out {e x : Nat} (h : Through F c w e x) : x / 4 ≠ d → Thr F w (TwoK c d) e x := by
  induction h with
  | out h0 => exact fun h => .out fun z => z.elim h0 h
  | step h0 _ ih => exact fun h => .step (.inl h0) (ih h)
theorem thr_in {e x g : Nat} (h : Through F c w e x) : x / 4 = d → Thr F w (TwoK c d) (x ^^^ (w + 1)) g → Thr F w (TwoK c d) e g := by
  induction h with
  | out h0 => exact fun h k => .step (.inr h) k
  | step h0 _ ih => exact fun h k => .step (.inl h0) (ih h k)
theorem Thr.swap {e g : Nat} (h : Thr F w (TwoK c d) e g) : Thr F w (TwoK d c) e g := by
  induction h with
  | out h0 => exact .out fun z => h0 z.symm
  | step h0 _ ih => exact .step h0.symm ih
end
/-! ### lifting what holds behind a crossing -/
section
variable {F : Nat → Nat} {m c w : Nat}
theorem through_lt (I : Inv2 F m) (hc : c < m) (hw : w < 3) {e g : Nat} (t : Through F c w e g) : e < 4 * m → g < 4 * m ∧ g / 4 ≠ c := by
  induction t with
  | @out e q => exact fun he => ⟨I.lt e he, q⟩
  | @step e g q _ ih =>
    intro he
    have := (mate_block (e := F e) hw).trans q
    exact ih (by omega)
theorem lift_ends (I : Inv2 F m) (hc : c < m) (hw : w < 3) (O : Open F c w) {Q : Nat → Prop} (hQ : ∀ e, e < 4 * m → e / 4 ≠ c → (Q (upOf c e) ↔ Q (upOf c (behindF F c w e)))) :
    ∃ R : Nat → Prop, (∀ e, e < 4 * m → (R (F e) ↔ R e)) ∧ (∀ e, e / 4 = c → (R (e ^^^ (w + 1)) ↔ R e)) ∧ ∀ e, e / 4 ≠ c → (R e ↔ Q (upOf c e)) := by
  let Pr : Nat → Prop := fun e => (e / 4 ≠ c ∧ Q (upOf c e)) ∨ (e / 4 = c ∧ ∃ g, Through F c w e g ∧ Q (upOf c g))
  have matePr : ∀ e, e / 4 = c → Pr e → Pr (e ^^^ (w + 1)) := fun e he p => by
    rcases p with ⟨q, _⟩ | ⟨_, g, t, pg⟩
    · exact absurd he q
    · obtain ⟨g1, g2⟩ := through_lt I hc hw t (by omega)
      obtain ⟨b1, _, _⟩ := behind_is I hc hw O g1 g2
      exact .inr ⟨(mate_block hw).trans he, _, through_rev I hc hw t he (through_of _ _ _ b1), (hQ g g1 g2).mp pg⟩
  have farPr : ∀ e, e < 4 * m → Pr e → Pr (F e) := fun e he p => by
    have fe := I.inv e he
    rcases p with ⟨q, pe⟩ | ⟨q, g, t, pg⟩
    · by_cases h1 : F e / 4 = c
      · have := Through.out (F := F) (c := c) (w := w) (e := F e) (by rw [fe]; exact q)
        rw [fe] at this
        exact .inr ⟨h1, e, this, pe⟩
      · have b : behindF F c w e = F e := by
          have := (behind_is I hc hw O he q).1
          rw [backK_out h1] at this
          exact (Option.some.inj this).symm
        have := (hQ e he q).mp pe
        rw [b] at this
        exact .inl ⟨h1, this⟩
    · cases t with
      | out h1 => exact .inl ⟨h1, pg⟩
      | step h1 t =>
        have mb : (F e ^^^ (w + 1)) / 4 = c := (mate_block hw).trans h1
        have := matePr _ mb (.inr ⟨mb, g, t, pg⟩)
        rw [mate_mate] at this
        exact this
  refine ⟨Pr, fun e he => ⟨fun p => ?_, farPr e he⟩, fun e he => ⟨fun p => ?_, matePr e he⟩, fun e he => ⟨?_, fun q => .inl ⟨he, q⟩⟩⟩
  · have := farPr _ (I.lt e he) p
    rw [I.inv e he] at this
    exact this
  · have := matePr _ ((mate_block hw).trans he) p
    rw [mate_mate] at this
    exact this
  · rintro (⟨_, q⟩ | ⟨z, _⟩)
    · exact q
    · exact absurd z he
theorem far_left {B : Nat → Nat} (bo : ∀ e, e < 4 * m → e / 4 ≠ c → B e < 4 * m ∧ B e / 4 ≠ c ∧ B (B e) = e ∧ B e ≠ e) (nd : (ends (leftOf B c (4 * m))).Nodup) {e : Nat} (he : e < 4 * m) (ho : e / 4 ≠ c) : far (leftOf B c (4 * m)) (upOf c e) = upOf c (B e) := by
  obtain ⟨b0, b1, b2, b3⟩ := bo e he ho
  by_cases q : e < B e
  · exact (far_of nd (mem_left.mpr ⟨e, he, ho, q, rfl⟩)).1
  · have := (far_of nd (mem_left.mpr ⟨B e, b0, b1, by rw [b2]; omega, rfl⟩)).2
    dsimp only at this
    rw [b2] at this
    exact this
end
end One
end P_M16

section P_M17
set_option linter.all false
/-! Of two crossings put across one behind the other the first one goes out first. -/
namespace One
theorem xor2 (n : Nat) : (4 * n) ^^^ 2 = 4 * n + 2 ∧ (4 * n + 1) ^^^ 2 = 4 * n + 3 := ⟨(mates n).2.1, (mates n).2.2.2.1⟩
theorem shift2 {e : Nat} (h : 4 ≤ e) : (e - 4) ^^^ 2 = (e ^^^ 2) - 4 := by
  have m1 := mates (e / 4)
  have m2 := mates (e / 4 - 1)
  obtain ⟨_, a, _, b, _⟩ := m1
  obtain ⟨_, a', _, b', _⟩ := m2
  have k1 : (4 * (e / 4) + 2) ^^^ 2 = 4 * (e / 4) := by rw [← a]; exact mate_mate _ 1
  have k2 : (4 * (e / 4) + 3) ^^^ 2 = 4 * (e / 4) + 1 := by rw [← b]; exact mate_mate _ 1
  have k3 : (4 * (e / 4 - 1) + 2) ^^^ 2 = 4 * (e / 4 - 1) := by rw [← a']; exact mate_mate _ 1
  have k4 : (4 * (e / 4 - 1) + 3) ^^^ 2 = 4 * (e / 4 - 1) + 1 := by rw [← b']; exact mate_mate _ 1
  have : e % 4 = 0 ∨ e % 4 = 1 ∨ e % 4 = 2 ∨ e % 4 = 3 := by omega
  rcases this with h | h | h | h
  · have e1 : e = 4 * (e / 4) := by omega
    have e2 : e - 4 = 4 * (e / 4 - 1) := by omega
    rw [e2, a']
    have : e ^^^ 2 = 4 * (e / 4) + 2 := by
      conv => lhs; rw [e1]
      exact a
    omega
  · have e1 : e = 4 * (e / 4) + 1 := by omega
    have e2 : e - 4 = 4 * (e / 4 - 1) + 1 := by omega
    rw [e2, b']
    have : e ^^^ 2 = 4 * (e / 4) + 3 := by
      conv => lhs; rw [e1]
      exact b
    omega
  · have e1 : e = 4 * (e / 4) + 2 := by omega
    have e2 : e - 4 = 4 * (e / 4 - 1) + 2 := by omega
    rw [e2, k3]
    have : e ^^^ 2 = 4 * (e / 4) := by
      conv => lhs; rw [e1]
      exact k1
    omega
  · have e1 : e = 4 * (e / 4) + 3 := by omega
    have e2 : e - 4 = 4 * (e / 4 - 1) + 3 := by omega
    rw [e2, k4]
    have : e ^^^ 2 = 4 * (e / 4) + 1 := by
      conv => lhs; rw [e1]
      exact k2
    omega
/-- what goes straight on at the last crossing goes along the lines that were there ahead of it -/
theorem straight {n : Nat} {ps T : List (Nat × Nat)} {i j : Nat} {a b : Nat × Nat} (L : Lines n ps) (ha : ps[i]? = some a) (hb : ps[j]? = some b) (hp : T.Perm (putOn n ps i j a b)) {R : Nat → Prop} (hf : ∀ e, e < 4 * (n + 1) → (R (far T e) ↔ R e)) (hm : ∀ e, e / 4 = n → (R (e ^^^ 2) ↔ R e)) :
    (∀ p ∈ ps, R p.1 ↔ R p.2) ∧ ∀ e, e / 4 = n → ∃ x, x < 4 * n ∧ (R e ↔ R x) := by
  have LT : Lines (n + 1) T := (put_lines L ha hb).perm hp.symm
  have line : ∀ q ∈ putOn n ps i j a b, R q.1 ↔ R q.2 := fun q hq => by
    have hq := hp.mem_iff.mpr hq
    have := hf q.1 (LT.lt _ (mem_ends.mpr ⟨q, hq, .inl rfl⟩))
    rw [(far_of LT.nd hq).1] at this
    exact this.symm
  have la : a.1 < 4 * n := L.lt _ (mem_ends.mpr ⟨a, List.mem_of_getElem? ha, .inl rfl⟩)
  have lb : b.1 < 4 * n := L.lt _ (mem_ends.mpr ⟨b, List.mem_of_getElem? hb, .inl rfl⟩)
  obtain ⟨x0, x1⟩ := xor2 n
  have m0 := hm (4 * n) (by omega)
  have m1 := hm (4 * n + 1) (by omega)
  rw [x0] at m0
  rw [x1] at m1
  have kept : ∀ q ∈ keepIx (notIJ i j) 0 ps, R q.1 ↔ R q.2 := fun q hq => line q (List.mem_append.mpr (.inl hq))
  have fr : ∀ q ∈ fresh n i j a b, R q.1 ↔ R q.2 := fun q hq => line q (List.mem_append.mpr (.inr hq))
  have each : ∀ e, e / 4 = n → e = 4 * n ∨ e = 4 * n + 1 ∨ e = 4 * n + 2 ∨ e = 4 * n + 3 := fun e he => by omega
  by_cases hij : i = j
  · subst hij
    cases ha.symm.trans hb
    unfold fresh at fr
    rw [if_pos rfl] at fr
    have f1 := fr (a.1, 4 * n) (by simp)
    have f2 := fr (4 * n + 1, 4 * n + 2) (by simp)
    have f3 := fr (a.2, 4 * n + 3) (by simp)
    dsimp only at f1 f2 f3
    refine ⟨fun p hp' => ?_, fun e he => ⟨a.1, la, ?_⟩⟩
    · rcases List.mem_cons.mp ((keep_one ha).mem_iff.mp hp') with rfl | h
      · exact f1.trans (m0.symm.trans (f2.symm.trans (m1.symm.trans f3.symm)))
      · exact kept p h
    · rcases each e he with rfl | rfl | rfl | rfl
      · exact f1.symm
      · exact f2.trans (m0.trans f1.symm)
      · exact m0.trans f1.symm
      · exact m1.trans (f2.trans (m0.trans f1.symm))
  · unfold fresh at fr
    rw [if_neg hij] at fr
    have f1 := fr (a.1, 4 * n) (by simp)
    have f2 := fr (a.2, 4 * n + 2) (by simp)
    have f3 := fr (b.1, 4 * n + 1) (by simp)
    have f4 := fr (b.2, 4 * n + 3) (by simp)
    dsimp only at f1 f2 f3 f4
    refine ⟨fun p hp' => ?_, fun e he => ?_⟩
    · rcases List.mem_cons.mp ((keep_two hij ha hb).mem_iff.mp hp') with rfl | h
      · exact f1.trans (m0.symm.trans f2.symm)
      · rcases List.mem_cons.mp h with rfl | h
        · exact f3.trans (m1.symm.trans f4.symm)
        · exact kept p h
    · rcases each e he with rfl | rfl | rfl | rfl
      · exact ⟨a.1, la, f1.symm⟩
      · exact ⟨b.1, lb, f3.symm⟩
      · exact ⟨a.1, la, m0.trans f1.symm⟩
      · exact ⟨b.1, lb, m1.trans f3.symm⟩
theorem left_put' {n : Nat} {ps : List (Nat × Nat)} (y : Yard n ps) : leftOf (far ps) n (4 * (n + 1)) = ps := by
  have drop : ∀ r, r < 4 → leftOf (far ps) n (4 * n + r + 1) = leftOf (far ps) n (4 * n + r) := fun r hr => by
    rw [leftOf_snoc, if_neg (fun z => z.1 (by omega)), List.append_nil]
  have e : leftOf (far ps) n (4 * (n + 1)) = leftOf (far ps) n (4 * n) := by
    rw [show 4 * (n + 1) = 4 * n + 3 + 1 by omega, drop 3 (by omega), drop 2 (by omega), drop 1 (by omega)]
    exact drop 0 (by omega)
  rw [e, ← yard_linesOf y]
  have key : ∀ m, m ≤ 4 * n → leftOf (far (linesOf (far ps) (4 * n))) n m = linesOf (far ps) m := by
    rw [yard_linesOf y]
    intro m
    induction m with
    | zero => exact fun _ => rfl
    | succ m ih =>
      intro hm
      rw [leftOf_snoc, linesOf_snoc, ih (by omega)]
      have hf := far_lt y.lines (e := m) (by omega)
      have u1 : upOf n m = m := if_neg (by omega)
      have u2 : upOf n (far ps m) = far ps m := if_neg (by omega)
      have hd : m / 4 ≠ n := by omega
      by_cases h : m < far ps m
      · rw [if_pos ⟨hd, h⟩, if_pos h, u1, u2]
      · rw [if_neg (fun z => h z.2), if_neg h]
  exact key _ (Nat.le_refl _)
section
variable {n : Nat} {ps T1 T2 : List (Nat × Nat)} {i j i' j' : Nat} {a b a' b' : Nat × Nat}
theorem flat2 (Y : Yard n ps) (ha : ps[i]? = some a) (hb : ps[j]? = some b) (hp : T1.Perm (putOn n ps i j a b)) (Y1 : Yard (n + 1) T1) (ha' : T1[i']? = some a') (hb' : T1[j']? = some b') (hp' : T2.Perm (putOn (n + 1) T1 i' j' a' b'))
    {R : Nat → Prop} (hf : ∀ e, e < 4 * (n + 2) → (R (far T2 e) ↔ R e)) (hm : ∀ e, e / 4 = n → (R (e ^^^ 2) ↔ R e)) (hm' : ∀ e, e / 4 = n + 1 → (R (e ^^^ 2) ↔ R e)) (hc : ∀ e e', e < 4 * n → e' < 4 * n → e / 4 = e' / 4 → (R e ↔ R e')) : ∀ e, e < 4 * (n + 2) → (R e ↔ R 0) := by
  obtain ⟨s1, s2⟩ := straight Y1.lines ha' hb' hp' hf hm'
  have hf1 : ∀ e, e < 4 * (n + 1) → (R (far T1 e) ↔ R e) := fun e he => by
    obtain ⟨z | z, _⟩ := far_line Y1.lines.nd (ends_full Y1.lines he)
    · exact (s1 _ z).symm
    · exact s1 _ z
  obtain ⟨t1, t2⟩ := straight Y.lines ha hb hp hf1 hm
  have pos := Y.pos
  have low : ∀ e, e < 4 * n → (R e ↔ R 0) := fun e he => by
    have := Y.whole (fun d => R (4 * d) ↔ R 0) (fun p hp => by
      have l1 := Y.lines.lt p.1 (mem_ends.mpr ⟨p, hp, .inl rfl⟩)
      have l2 := Y.lines.lt p.2 (mem_ends.mpr ⟨p, hp, .inr rfl⟩)
      have c1 := hc p.1 (4 * (p.1 / 4)) l1 (by omega) (by omega)
      have c2 := hc p.2 (4 * (p.2 / 4)) l2 (by omega) (by omega)
      have := t1 p hp
      show (R (4 * (p.1 / 4)) ↔ R 0) ↔ (R (4 * (p.2 / 4)) ↔ R 0)
      rw [← c1, ← c2, this]) Iff.rfl (e / 4) (by omega)
    exact (hc e (4 * (e / 4)) he (by omega) (by omega)).trans this
  have mid : ∀ e, e < 4 * (n + 1) → (R e ↔ R 0) := fun e he => by
    by_cases h : e / 4 = n
    · obtain ⟨x, hx, k⟩ := t2 e h
      exact k.trans (low x hx)
    · exact low e (by omega)
  intro e he
  by_cases h : e / 4 = n + 1
  · obtain ⟨x, hx, k⟩ := s2 e h
    exact k.trans (mid x hx)
  · exact mid e (by omega)
/-- the first one goes out ahead of the second one -/
theorem free_first (Y : Yard n ps) (ha : ps[i]? = some a) (hb : ps[j]? = some b) (hp : T1.Perm (putOn n ps i j a b)) (Y1 : Yard (n + 1) T1) (ha' : T1[i']? = some a') (hb' : T1[j']? = some b') (hp' : T2.Perm (putOn (n + 1) T1 i' j' a' b')) (Y2 : Yard (n + 2) T2) : ¬ BarW T2 (n + 2) n 1 := by
  intro h
  obtain ⟨P, S⟩ := bar_parts Y2.lines (by omega) (by omega) (by decide) h
  have all := flat2 Y ha hb hp Y1 ha' hb' hp' (R := fun e => P e = true) (fun e he => by rw [S.far e he]) (fun e he => by rw [S.mate e he])
    (fun e he => by
      have mb : (e ^^^ 2) / 4 = e / 4 := mate_block (w := 1) (by decide)
      rw [S.blk (e ^^^ 2) e (by omega) (by omega) mb (by omega)])
    (fun e e' he he' q => by rw [S.blk e e' (by omega) (by omega) q (by omega)])
  obtain ⟨x, hx, px⟩ := S.some_
  obtain ⟨y, hy, py⟩ := S.none_
  have := ((all x hx).trans (all y hy).symm).mp px
  rw [py] at this
  cases this
/-- .. and the second one behind it -/
theorem free_second (Y : Yard n ps) (ha : ps[i]? = some a) (hb : ps[j]? = some b) (hp : T1.Perm (putOn n ps i j a b)) (Y1 : Yard (n + 1) T1) (ha' : T1[i']? = some a') (hb' : T1[j']? = some b') (hp' : T2.Perm (putOn (n + 1) T1 i' j' a' b')) (Y2 : Yard (n + 2) T2) :
    ¬ BarW (leftOf (behindF (far T2) n 1) n (4 * (n + 2))) (n + 1) n 1 := by
  have hfree := free_first Y ha hb hp Y1 ha' hb' hp' Y2
  have YL := left_yard Y2 (by omega) (by omega) (by decide) hfree
  have YL : Yard (n + 1) (leftOf (behindF (far T2) n 1) n (4 * (n + 2))) := YL
  have I := far_inv Y2.lines
  have O : Open (far T2) n 1 := open_of (by
    cases z : closesB (far T2) n 1 with
    | false => rfl
    | true => exact absurd (.inl z) hfree)
  have pos := Y.pos
  intro h
  obtain ⟨P, S⟩ := bar_parts YL.lines (by omega) (by omega) (by decide) h
  have fl : ∀ e, e < 4 * (n + 2) → e / 4 ≠ n → far (leftOf (behindF (far T2) n 1) n (4 * (n + 2))) (upOf n e) = upOf n (behindF (far T2) n 1 e) := fun e he ho =>
    far_left (fun e he ho => ⟨(behind_is I (by omega) (by decide) O he ho).2.1, (behind_is I (by omega) (by decide) O he ho).2.2, behind_inv I (by omega) (by decide) O he ho, behind_ne I (by omega) (by decide) O he ho⟩) YL.lines.nd he ho
  obtain ⟨R, r1, r2, r3⟩ := lift_ends I (by omega) (by decide) O (Q := fun x => P x = true) fun e he ho => by
    have l := up_lt (m := n + 2) (by omega) he ho
    have := S.far (upOf n e) l
    rw [fl e he ho] at this
    rw [this]
  have all := flat2 Y ha hb hp Y1 ha' hb' hp' r1 r2 (fun e he => by
      have mb : (e ^^^ 2) / 4 = e / 4 := mate_block (w := 1) (by decide)
      rw [r3 e (by omega), r3 (e ^^^ 2) (by omega)]
      have u1 : upOf n e = e - 4 := if_pos (by omega)
      have u2 : upOf n (e ^^^ 2) = (e ^^^ 2) - 4 := if_pos (by omega)
      rw [u1, u2, ← shift2 (by omega), S.mate (e - 4) (by omega)])
    (fun e e' he he' q => by
      have u1 : upOf n e = e := if_neg (by omega)
      have u2 : upOf n e' = e' := if_neg (by omega)
      rw [r3 e (by omega), r3 e' (by omega), u1, u2, S.blk e e' (by omega) (by omega) q (by omega)])
  have get : ∀ x, x < 4 * (n + 1) → (P x = true ↔ R 0) := fun x hx => by
    obtain ⟨e, h1, h2, h3⟩ := up_onto (c := n) (m := n + 2) (x := x) (by omega) (by omega)
    have := r3 e h2
    rw [h3] at this
    exact this.symm.trans (all e h1)
  obtain ⟨x, hx, px⟩ := S.some_
  obtain ⟨y, hy, py⟩ := S.none_
  have := ((get x hx).trans (get y hy).symm).mp px
  rw [py] at this
  cases this
def downE (n x : Nat) : Nat := if n ≤ x / 4 then x + 4 else x
/-- both out, it is the yard that was -/
theorem both_out (Y : Yard n ps) (hn : n < 40) (ha : ps[i]? = some a) (hb : ps[j]? = some b) (hp : T1.Perm (putOn n ps i j a b)) (Y1 : Yard (n + 1) T1) (ha' : T1[i']? = some a') (hb' : T1[j']? = some b') (hp' : T2.Perm (putOn (n + 1) T1 i' j' a' b')) (Y2 : Yard (n + 2) T2) :
    leftOf (behindF (far (leftOf (behindF (far T2) n 1) n (4 * (n + 2)))) n 1) n (4 * (n + 1)) = ps := by
  have hfree := free_first Y ha hb hp Y1 ha' hb' hp' Y2
  have hsec := free_second Y ha hb hp Y1 ha' hb' hp' Y2
  have YL : Yard (n + 1) (leftOf (behindF (far T2) n 1) n (4 * (n + 2))) := left_yard Y2 (by omega) (by omega) (by decide) hfree
  have I := far_inv Y2.lines
  have IL := far_inv YL.lines
  have opn : ∀ {qs : List (Nat × Nat)} {m : Nat}, ¬ BarW qs m n 1 → Open (far qs) n 1 := fun {qs m} h => open_of (by
    cases z : closesB (far qs) n 1 with
    | false => rfl
    | true => exact absurd (.inl z) h)
  have O := opn hfree
  have OL := opn hsec
  have fl : ∀ e, e < 4 * (n + 2) → e / 4 ≠ n → far (leftOf (behindF (far T2) n 1) n (4 * (n + 2))) (upOf n e) = upOf n (behindF (far T2) n 1 e) := fun e he ho =>
    far_left (fun e he ho => ⟨(behind_is I (by omega) (by decide) O he ho).2.1, (behind_is I (by omega) (by decide) O he ho).2.2, behind_inv I (by omega) (by decide) O he ho, behind_ne I (by omega) (by decide) O he ho⟩) YL.lines.nd he ho
  obtain ⟨sb1, _⟩ := sew_back Y.lines ha hb hp (by omega)
  obtain ⟨sb2, _⟩ := sew_back Y1.lines ha' hb' hp' (by omega)
  have upd : ∀ x, upOf n (downE n x) = x := fun x => by
    unfold downE upOf
    split <;> split <;> omega
  have dn : ∀ x, x / 4 ≠ n → downE n (upOf n x) = x := fun x hx => by
    unfold downE upOf
    split <;> split <;> omega
  have dne : ∀ x, downE n x / 4 ≠ n := fun x => by
    unfold downE
    split <;> omega
  have dlt : ∀ x, x < 4 * (n + 1) → downE n x < 4 * (n + 2) := fun x hx => by
    unfold downE
    split <;> omega
  -- by the yard that was
  have A : ∀ {e g : Nat}, Through (far T1) n 1 e g → e < 4 * (n + 1) → Thr (far T2) 1 (TwoK (n + 1) n) e g := fun {e g} h => by
    induction h with
    | @out e h0 => exact fun he => thr_out (through_of _ _ _ (sb2 e he)) h0
    | @step e g h0 _ ih =>
      intro he
      refine thr_in (through_of _ _ _ (sb2 e he)) h0 (ih ?_)
      have := mate_block (e := far T1 e) (w := 1) (by decide)
      omega
  -- by what is left
  have B : ∀ {e g : Nat}, Through (far (leftOf (behindF (far T2) n 1) n (4 * (n + 2)))) n 1 e g → e < 4 * (n + 1) → Thr (far T2) 1 (TwoK n (n + 1)) (downE n e) (downE n g) := fun {e g} h => by
    induction h with
    | @out e h0 =>
      intro he
      have f := fl _ (dlt e he) (dne e)
      rw [upd] at f
      obtain ⟨b1, b2, b3⟩ := behind_is I (by omega) (by decide) O (dlt e he) (dne e)
      rw [f, dn _ b3]
      refine thr_out (through_of _ _ _ b1) fun z => h0 ?_
      rw [f]
      unfold upOf
      rw [if_pos (by omega)]
      omega
    | @step e g h0 _ ih =>
      intro he
      have f := fl _ (dlt e he) (dne e)
      rw [upd] at f
      obtain ⟨b1, b2, b3⟩ := behind_is I (by omega) (by decide) O (dlt e he) (dne e)
      have hN : behindF (far T2) n 1 (downE n e) / 4 = n + 1 := by
        rw [f] at h0
        unfold upOf at h0
        split at h0 <;> omega
      have u : upOf n (behindF (far T2) n 1 (downE n e)) = behindF (far T2) n 1 (downE n e) - 4 := if_pos (by omega)
      refine thr_in (through_of _ _ _ b1) hN ?_
      have mb := mate_block (e := far (leftOf (behindF (far T2) n 1) n (4 * (n + 2))) e) (w := 1) (by decide)
      have k := ih (by omega)
      rw [f, u] at k mb
      have sh : (behindF (far T2) n 1 (downE n e) - 4) ^^^ (1 + 1) = (behindF (far T2) n 1 (downE n e) ^^^ 2) - 4 := shift2 (by omega)
      rw [sh] at k mb
      have d4 : downE n ((behindF (far T2) n 1 (downE n e) ^^^ 2) - 4) = behindF (far T2) n 1 (downE n e) ^^^ 2 := by
        have mb2 : (behindF (far T2) n 1 (downE n e) ^^^ 2) / 4 = behindF (far T2) n 1 (downE n e) / 4 := mate_block (w := 1) (by decide)
        unfold downE
        rw [if_pos (by show n ≤ ((behindF (far T2) n 1 (downE n e) ^^^ 2) - 4) / 4; omega)]
        show (behindF (far T2) n 1 (downE n e) ^^^ 2) - 4 + 4 = behindF (far T2) n 1 (downE n e) ^^^ 2
        omega
      rw [d4] at k
      exact k
  have same : ∀ e, e < 4 * (n + 1) → e / 4 ≠ n → behindF (far (leftOf (behindF (far T2) n 1) n (4 * (n + 2)))) n 1 e = far ps e := fun e he ho => by
    obtain ⟨b1, b2, b3⟩ := behind_is IL (by omega) (by decide) OL he ho
    have k1 := B (through_of _ _ _ b1) he
    have k2 := (A (through_of _ _ _ (sb1 e (by omega))) he).swap
    have de : downE n e = e := if_neg (by omega)
    rw [de] at k1
    have q := k1.one k2
    have lf := far_lt Y.lines (e := e) (by omega)
    unfold downE at q
    split at q <;> omega
  rw [leftOf_congr _ same]
  exact left_put' Y
end
end One
end P_M17

section P_M19
set_option linter.all false
/-! Rounds: going on from end to end. -/
namespace One
def iter (f : Nat → Nat) : Nat → Nat → Nat
  | 0, s => s
  | k + 1, s => f (iter f k s)
theorem iter_add (f : Nat → Nat) : ∀ i j s, iter f (i + j) s = iter f i (iter f j s)
  | 0, j, s => by rw [Nat.zero_add]; rfl
  | i + 1, j, s => by
    rw [show i + 1 + j = (i + j) + 1 by omega]
    show f (iter f (i + j) s) = f (iter f i (iter f j s))
    rw [iter_add f i j s]
/-- a going on among the numbers below m -/
structure Goes (f : Nat → Nat) (m : Nat) : Prop where
  lt : ∀ e, e < m → f e < m
  inj : ∀ e g, e < m → g < m → f e = f g → e = g
section
variable {f : Nat → Nat} {m : Nat}
theorem Goes.iter_lt (G : Goes f m) {s : Nat} (hs : s < m) : ∀ k, iter f k s < m
  | 0 => hs
  | k + 1 => G.lt _ (G.iter_lt hs k)
theorem Goes.iter_inj (G : Goes f m) {a b : Nat} (ha : a < m) (hb : b < m) : ∀ k, iter f k a = iter f k b → a = b
  | 0, h => h
  | k + 1, h => G.iter_inj ha hb k (G.inj _ _ (G.iter_lt ha k) (G.iter_lt hb k) h)
/-- back at the start behind k steps, and not ahead of that -/
structure Per (f : Nat → Nat) (s k : Nat) : Prop where
  pos : 0 < k
  back : iter f k s = s
  first : ∀ i, 0 < i → i < k → iter f i s ≠ s
def rnd (f : Nat → Nat) (s k : Nat) : List Nat := (List.range k).map fun i => iter f i s
theorem rnd_len (f : Nat → Nat) (s k : Nat) : (rnd f s k).length = k := by
  unfold rnd
  rw [List.length_map, List.length_range]
theorem rnd_snoc (f : Nat → Nat) (s k : Nat) : rnd f s (k + 1) = rnd f s k ++ [iter f k s] := by
  unfold rnd
  rw [List.range_succ, List.map_append]
  rfl
theorem mem_rnd {f : Nat → Nat} {s k x : Nat} : x ∈ rnd f s k ↔ ∃ i, i < k ∧ iter f i s = x := by
  unfold rnd
  rw [List.mem_map]
  exact ⟨fun ⟨i, h, e⟩ => ⟨i, List.mem_range.mp h, e⟩, fun ⟨i, h, e⟩ => ⟨i, List.mem_range.mpr h, e⟩⟩
theorem Goes.apart (G : Goes f m) {s k : Nat} (hs : s < m) (first : ∀ i, 0 < i → i < k → iter f i s ≠ s) {i j : Nat} (hij : i < j) (hj : j < k) : iter f i s ≠ iter f j s := fun h => by
  have e : iter f j s = iter f i (iter f (j - i) s) := by rw [← iter_add, show i + (j - i) = j by omega]
  rw [e] at h
  exact first (j - i) (by omega) (by omega) (G.iter_inj hs (G.iter_lt hs _) i h).symm
theorem Goes.nodup (G : Goes f m) {s : Nat} (hs : s < m) : ∀ k, (∀ i, 0 < i → i < k → iter f i s ≠ s) → (rnd f s k).Nodup
  | 0, _ => List.nodup_nil
  | k + 1, first => by
    rw [rnd_snoc]
    refine List.nodup_append.mpr ⟨G.nodup hs k fun i h0 h1 => first i h0 (by omega), by simp, fun a ha b hb e => ?_⟩
    obtain ⟨i, hi, rfl⟩ := mem_rnd.mp ha
    rw [List.mem_singleton.mp hb] at e
    exact G.apart hs first hi (Nat.lt_succ_self k) e
theorem Goes.per (G : Goes f m) {s : Nat} (hs : s < m) : ∃ k, Per f s k ∧ k ≤ m := by
  have ex : ∃ k, 0 < k ∧ k ≤ m ∧ iter f k s = s := by
    refine Classical.byContradiction fun no => ?_
    have first : ∀ i, 0 < i → i < m + 1 → iter f i s ≠ s := fun i h0 h1 e => no ⟨i, h0, by omega, e⟩
    have nd := G.nodup hs (m + 1) first
    have := pigeon m _ nd fun x hx => by
      obtain ⟨i, _, rfl⟩ := mem_rnd.mp hx
      exact G.iter_lt hs i
    rw [rnd_len] at this
    omega
  have least : ∀ k, (0 < k ∧ k ≤ m ∧ iter f k s = s) → ∃ k, Per f s k ∧ k ≤ m := by
    intro k
    induction k using Nat.strongRecOn with
    | ind k ih =>
      intro ⟨h0, h1, h2⟩
      by_cases h : ∃ i, 0 < i ∧ i < k ∧ iter f i s = s
      · obtain ⟨i, a, b, c⟩ := h
        exact ih i b ⟨a, by omega, c⟩
      · exact ⟨k, ⟨h0, h2, fun i a b c => h ⟨i, a, b, c⟩⟩, h1⟩
  obtain ⟨k, h⟩ := ex
  exact least k h
theorem Per.one {s k j : Nat} (a : Per f s k) (b : Per f s j) : k = j := by
  rcases Nat.lt_trichotomy k j with h | h | h
  · exact absurd a.back (b.first k a.pos h)
  · exact h
  · exact absurd b.back (a.first j b.pos h)
/-- any steps are steps of the round -/
theorem Per.mod {s k : Nat} (a : Per f s k) : ∀ i, iter f i s ∈ rnd f s k := by
  have turn : ∀ q r, iter f (q * k + r) s = iter f r s := by
    intro q r
    induction q with
    | zero => rw [Nat.zero_mul, Nat.zero_add]
    | succ q ih =>
      rw [show (q + 1) * k + r = (q * k + r) + k by rw [Nat.succ_mul]; omega, iter_add, a.back]
      exact ih
  intro i
  refine mem_rnd.mpr ⟨i % k, Nat.mod_lt _ a.pos, ?_⟩
  have := turn (i / k) (i % k)
  rw [← this, Nat.mul_comm, Nat.div_add_mod]
/-- two rounds with one end are of the same ends -/
theorem Per.same (G : Goes f m) {s t k j x : Nat} (hs : s < m) (ht : t < m) (a : Per f s k) (b : Per f t j) (hx : x ∈ rnd f s k) (hy : x ∈ rnd f t j) : ∀ z, z ∈ rnd f s k → z ∈ rnd f t j := by
  obtain ⟨i, hi, e1⟩ := mem_rnd.mp hx
  obtain ⟨l, hl, e2⟩ := mem_rnd.mp hy
  intro z hz
  obtain ⟨p, hp, rfl⟩ := mem_rnd.mp hz
  -- from x go on k - i steps to s, then p more
  have e : iter f p s = iter f (p + (k - i) + l) t := by
    rw [iter_add f (p + (k - i)) l t, e2, ← e1, ← iter_add, show p + (k - i) + i = p + k by omega, iter_add, a.back]
  rw [e]
  exact b.mod _
end
/-! ### by far ends and ways -/
section
variable {F W : Nat → Nat} {n : Nat}
/-- the end from which one goes on next -/
def nextE (F W : Nat → Nat) (e : Nat) : Nat := F e ^^^ (W (F e / 4) + 1)
theorem next_goes (I : Inv2 F n) (hW : ∀ c, c < n → W c < 3) : Goes (nextE F W) (4 * n) := by
  have blk : ∀ e, e < 4 * n → (F e ^^^ (W (F e / 4) + 1)) / 4 = F e / 4 ∧ F e < 4 * n := fun e he => by
    have h := I.lt e he
    exact ⟨mate_block (hW _ (by omega)), h⟩
  refine ⟨fun e he => ?_, fun e g he hg h => ?_⟩
  · obtain ⟨a, b⟩ := blk e he
    unfold nextE
    omega
  · obtain ⟨a, b⟩ := blk e he
    obtain ⟨c, d⟩ := blk g hg
    unfold nextE at h
    have q : F e / 4 = F g / 4 := by rw [← a, ← c, h]
    rw [q] at h
    have h2 : (F e ^^^ (W (F g / 4) + 1)) ^^^ (W (F g / 4) + 1) = (F g ^^^ (W (F g / 4) + 1)) ^^^ (W (F g / 4) + 1) := by rw [h]
    rw [mate_mate, mate_mate] at h2
    rw [← I.inv e he, ← I.inv g hg, h2]
/-- the far of what comes next goes on to the far -/
theorem next_far (I : Inv2 F n) (hW : ∀ c, c < n → W c < 3) {e : Nat} (he : e < 4 * n) : nextE F W (F (nextE F W e)) = F e := by
  have h := I.lt e he
  have blk : (F e ^^^ (W (F e / 4) + 1)) / 4 = F e / 4 := mate_block (hW _ (by omega))
  have l1 : nextE F W e < 4 * n := (next_goes I hW).lt e he
  have : F (F (nextE F W e)) = nextE F W e := I.inv _ l1
  show F (F (nextE F W e)) ^^^ (W (F (F (nextE F W e)) / 4) + 1) = F e
  rw [this]
  show (F e ^^^ (W (F e / 4) + 1)) ^^^ (W ((F e ^^^ (W (F e / 4) + 1)) / 4) + 1) = F e
  rw [blk, mate_mate]
theorem iter_far (I : Inv2 F n) (hW : ∀ c, c < n → W c < 3) {s : Nat} (hs : s < 4 * n) : ∀ i, iter (nextE F W) i (F (iter (nextE F W) i s)) = F s
  | 0 => rfl
  | i + 1 => by
    have G := next_goes I hW
    rw [show i + 1 = i + 1 from rfl, iter_add (nextE F W) i 1]
    show iter (nextE F W) i (nextE F W (F (nextE F W (iter (nextE F W) i s)))) = F s
    rw [next_far I hW (G.iter_lt hs i)]
    exact iter_far I hW hs i
/-- no end of a round has its line gone the other way, too -/
theorem no_far (I : Inv2 F n) (hW : ∀ c, c < n → W c < 3) {s : Nat} (hs : s < 4 * n) (i : Nat) : iter (nextE F W) i s ≠ F s := by
  have G := next_goes I hW
  intro h
  have split : ∃ j, i = 2 * j ∨ i = 2 * j + 1 := ⟨i / 2, by omega⟩
  obtain ⟨j, rfl | rfl⟩ := split
  · -- x, the j-th, is its own far
    have e := iter_far I hW hs j
    have l := G.iter_lt hs j
    rw [show 2 * j = j + j by omega, iter_add] at h
    have : iter (nextE F W) j s = F (iter (nextE F W) j s) := G.iter_inj l (I.lt _ l) j (h.trans e.symm)
    exact I.ne _ l this.symm
  · -- the mate of one is itself
    have e := iter_far I hW hs (j + 1)
    have l := G.iter_lt hs j
    have l1 := G.iter_lt hs (j + 1)
    have h' : iter (nextE F W) (2 * j + 1) s = iter (nextE F W) (j + 1) (F (iter (nextE F W) (j + 1) s)) := h.trans e.symm
    rw [show 2 * j + 1 = (j + 1) + j by omega, iter_add] at h'
    have q : iter (nextE F W) j s = F (iter (nextE F W) (j + 1) s) := G.iter_inj l (I.lt _ l1) (j + 1) h'
    have q2 : F (iter (nextE F W) j s) = iter (nextE F W) (j + 1) s := by rw [q, I.inv _ l1]
    have : nextE F W (iter (nextE F W) j s) = F (iter (nextE F W) j s) := q2.symm
    unfold nextE at this
    exact mate_ne _ _ this
/-- the far ends of a round's ends are the ends of a round -/
theorem far_round (I : Inv2 F n) (hW : ∀ c, c < n → W c < 3) {s k : Nat} (hs : s < 4 * n) (a : Per (nextE F W) s k) : Per (nextE F W) (F s) k ∧ ∀ z, z ∈ rnd (nextE F W) (F s) k ↔ ∃ x ∈ rnd (nextE F W) s k, F x = z := by
  have G := next_goes I hW
  have hF := I.lt s hs
  have key : ∀ i, i ≤ k → iter (nextE F W) i (F s) = F (iter (nextE F W) (k - i) s) := fun i hi => by
    have e := iter_far I hW (G.iter_lt hs (k - i)) i
    rw [← iter_add, show i + (k - i) = k by omega, a.back] at e
    exact e
  have P : Per (nextE F W) (F s) k := by
    refine ⟨a.pos, ?_, fun i h0 h1 e => ?_⟩
    · rw [key k (Nat.le_refl _), Nat.sub_self]
      rfl
    · rw [key i (by omega)] at e
      have : F (F (iter (nextE F W) (k - i) s)) = F (F s) := by rw [e]
      rw [I.inv _ (G.iter_lt hs _), I.inv _ hs] at this
      exact a.first (k - i) (by omega) (by omega) this
  refine ⟨P, fun z => ⟨fun h => ?_, fun ⟨x, hx, e⟩ => ?_⟩⟩
  · obtain ⟨i, hi, rfl⟩ := mem_rnd.mp h
    exact ⟨_, a.mod (k - i), (key i (by omega)).symm⟩
  · obtain ⟨i, hi, rfl⟩ := mem_rnd.mp hx
    subst e
    by_cases h0 : i = 0
    · subst h0
      exact mem_rnd.mpr ⟨0, a.pos, rfl⟩
    · have := key (k - i) (by omega)
      rw [show k - (k - i) = i by omega] at this
      rw [← this]
      exact P.mod _
/-- the rounds: each begun at the least end of its lines, rising, each line in just one -/
structure Rounds (F W : Nat → Nat) (n : Nat) (rs : List (Nat × Nat)) : Prop where
  per : ∀ p ∈ rs, p.1 < 4 * n ∧ Per (nextE F W) p.1 p.2
  least : ∀ p ∈ rs, ∀ x ∈ rnd (nextE F W) p.1 p.2, p.1 ≤ x ∧ p.1 ≤ F x
  up : rs.Pairwise fun p q => p.1 < q.1
  all : ∀ e, e < 4 * n → ∃ p ∈ rs, e ∈ rnd (nextE F W) p.1 p.2 ∨ F e ∈ rnd (nextE F W) p.1 p.2
  one : rs.Pairwise fun p q => ∀ x, x ∈ rnd (nextE F W) p.1 p.2 → x ∉ rnd (nextE F W) q.1 q.2 ∧ F x ∉ rnd (nextE F W) q.1 q.2
end
end One
end P_M19

section P_M20
set_option linter.all false
/-! Rounds, told one behind another. -/
namespace One
section
variable {F W : Nat → Nat} {n : Nat}
def Gone (F W : Nat → Nat) (rs : List (Nat × Nat)) (e : Nat) : Prop := ∃ p ∈ rs, e ∈ rnd (nextE F W) p.1 p.2 ∨ F e ∈ rnd (nextE F W) p.1 p.2
/-- the rounds that have lines of the first i ends -/
structure RTo (F W : Nat → Nat) (n i : Nat) (rs : List (Nat × Nat)) : Prop where
  per : ∀ p ∈ rs, p.1 < 4 * n ∧ Per (nextE F W) p.1 p.2
  low : ∀ p ∈ rs, p.1 < i
  least : ∀ p ∈ rs, ∀ x ∈ rnd (nextE F W) p.1 p.2, p.1 ≤ x ∧ p.1 ≤ F x
  up : rs.Pairwise fun p q => p.1 < q.1
  all : ∀ e, e < i → Gone F W rs e
  one : rs.Pairwise fun p q => ∀ x, x ∈ rnd (nextE F W) p.1 p.2 → x ∉ rnd (nextE F W) q.1 q.2 ∧ F x ∉ rnd (nextE F W) q.1 q.2
theorem rto_nil : RTo F W n 0 [] := ⟨fun p h => absurd h (by simp), fun p h => absurd h (by simp), fun p h => absurd h (by simp), .nil, fun e h => absurd h (by omega), .nil⟩
theorem rnd_lt (I : Inv2 F n) (hW : ∀ c, c < n → W c < 3) {s k x : Nat} (hs : s < 4 * n) (h : x ∈ rnd (nextE F W) s k) : x < 4 * n := by
  obtain ⟨i, _, rfl⟩ := mem_rnd.mp h
  exact (next_goes I hW).iter_lt hs i
theorem self_rnd {f : Nat → Nat} {s k : Nat} (a : Per f s k) : s ∈ rnd f s k := mem_rnd.mpr ⟨0, a.pos, rfl⟩
theorem gone_far (I : Inv2 F n) {rs : List (Nat × Nat)} {e : Nat} (he : e < 4 * n) : Gone F W rs (F e) ↔ Gone F W rs e := by
  have h := I.inv e he
  constructor
  · rintro ⟨p, hp, a | a⟩
    · exact ⟨p, hp, .inr a⟩
    · rw [h] at a
      exact ⟨p, hp, .inl a⟩
  · rintro ⟨p, hp, a | a⟩
    · exact ⟨p, hp, .inr (by rw [h]; exact a)⟩
    · exact ⟨p, hp, .inl a⟩
theorem gone_back (I : Inv2 F n) (hW : ∀ c, c < n → W c < 3) {rs : List (Nat × Nat)} (per : ∀ p ∈ rs, p.1 < 4 * n ∧ Per (nextE F W) p.1 p.2) {s k x : Nat} (hs : s < 4 * n) (a : Per (nextE F W) s k) (hx : x ∈ rnd (nextE F W) s k) (g : Gone F W rs x) : Gone F W rs s := by
  have G := next_goes I hW
  obtain ⟨p, hp, h | h⟩ := g
  · obtain ⟨pl, pp⟩ := per p hp
    exact ⟨p, hp, .inl (Per.same G hs pl a pp hx h s (self_rnd a))⟩
  · obtain ⟨pl, pp⟩ := per p hp
    obtain ⟨b, hb⟩ := far_round I hW hs a
    exact ⟨p, hp, .inr (Per.same G (I.lt s hs) pl b pp ((hb _).mpr ⟨x, hx, rfl⟩) h _ (self_rnd b))⟩
theorem RTo.skip {i : Nat} {rs : List (Nat × Nat)} (R : RTo F W n i rs) (g : Gone F W rs i) : RTo F W n (i + 1) rs :=
  ⟨R.per, fun p h => Nat.lt_succ_of_lt (R.low p h), R.least, R.up, fun e h => by
    by_cases q : e = i
    · rw [q]; exact g
    · exact R.all e (by omega), R.one⟩
theorem RTo.more (I : Inv2 F n) (hW : ∀ c, c < n → W c < 3) {i k : Nat} {rs : List (Nat × Nat)} (R : RTo F W n i rs) (hi : i < 4 * n) (g : ¬ Gone F W rs i) (a : Per (nextE F W) i k) : RTo F W n (i + 1) (rs ++ [(i, k)]) := by
  refine ⟨fun p hp => ?_, fun p hp => ?_, fun p hp x hx => ?_, ?_, fun e he => ?_, ?_⟩
  · rcases List.mem_append.mp hp with h | h
    · exact R.per p h
    · rw [List.mem_singleton.mp h]
      exact ⟨hi, a⟩
  · rcases List.mem_append.mp hp with h | h
    · exact Nat.lt_succ_of_lt (R.low p h)
    · rw [List.mem_singleton.mp h]
      exact Nat.lt_succ_self i
  · rcases List.mem_append.mp hp with h | h
    · exact R.least p h x hx
    · rw [List.mem_singleton.mp h] at hx ⊢
      have xl := rnd_lt I hW hi hx
      refine ⟨Nat.le_of_not_lt fun z => g (gone_back I hW R.per hi a hx (R.all x z)), Nat.le_of_not_lt fun z => g (gone_back I hW R.per hi a hx ((gone_far I xl).mp (R.all (F x) z)))⟩
  · refine List.pairwise_append.mpr ⟨R.up, List.pairwise_singleton _ _, fun p hp q hq => ?_⟩
    rw [List.mem_singleton.mp hq]
    exact R.low p hp
  · by_cases q : e = i
    · rw [q]
      exact ⟨(i, k), List.mem_append_right _ (List.mem_singleton.mpr rfl), .inl (self_rnd a)⟩
    · obtain ⟨p, hp, h⟩ := R.all e (by omega)
      exact ⟨p, List.mem_append_left _ hp, h⟩
  · refine List.pairwise_append.mpr ⟨R.one, List.pairwise_singleton _ _, fun p hp q hq x hx => ?_⟩
    rw [List.mem_singleton.mp hq]
    obtain ⟨pl, pp⟩ := R.per p hp
    have xl := rnd_lt I hW pl hx
    refine ⟨fun h => g (gone_back I hW R.per hi a h ⟨p, hp, .inl hx⟩), fun h => g (gone_back I hW R.per hi a h ⟨p, hp, .inr ?_⟩)⟩
    rw [I.inv x xl]
    exact hx
theorem RTo.done {rs : List (Nat × Nat)} (R : RTo F W n (4 * n) rs) : Rounds F W n rs := ⟨R.per, R.least, R.up, R.all, R.one⟩
theorem Rounds.first (I : Inv2 F n) (hW : ∀ c, c < n → W c < 3) {rs : List (Nat × Nat)} (R : Rounds F W n rs) {s k : Nat} (hs : s < 4 * n) (a : Per (nextE F W) s k) : (s, k) ∈ rs ↔ ∀ x ∈ rnd (nextE F W) s k, s ≤ x ∧ s ≤ F x := by
  have G := next_goes I hW
  refine ⟨fun h => R.least _ h, fun h => ?_⟩
  obtain ⟨p, hp, q | q⟩ := R.all s hs
  all_goals obtain ⟨pl, pp⟩ := R.per p hp
  · have e1 := (R.least p hp s q).1
    have e2 := (h p.1 (Per.same G pl hs pp a q (self_rnd a) _ (self_rnd pp))).1
    obtain ⟨p1, p2⟩ := p
    have : p1 = s := Nat.le_antisymm e1 e2
    subst this
    have : p2 = k := Per.one pp a
    subst this
    exact hp
  · obtain ⟨b, hb⟩ := far_round I hW hs a
    have e1 := (R.least p hp (F s) q).2
    rw [I.inv s hs] at e1
    obtain ⟨x, hx, e⟩ := (hb _).mp (Per.same G pl (I.lt s hs) pp b q (self_rnd b) _ (self_rnd pp))
    have e2 := (h x hx).2
    rw [e] at e2
    obtain ⟨p1, p2⟩ := p
    have : p1 = s := Nat.le_antisymm e1 e2
    subst this
    have : p2 = k := Per.one pp a
    subst this
    exact hp
/-- there is just one telling -/
theorem Rounds.eq (I : Inv2 F n) (hW : ∀ c, c < n → W c < 3) {rs qs : List (Nat × Nat)} (R : Rounds F W n rs) (S : Rounds F W n qs) : rs = qs := by
  refine sorted_ext (lt := fun p q : Nat × Nat => p.1 < q.1) (fun a => Nat.lt_irrefl _) (fun a b c => Nat.lt_trans) R.up S.up fun p => ⟨fun h => ?_, fun h => ?_⟩
  · obtain ⟨pl, pp⟩ := R.per p h
    exact (S.first I hW pl pp).mpr ((R.first I hW pl pp).mp h)
  · obtain ⟨pl, pp⟩ := S.per p h
    exact (R.first I hW pl pp).mpr ((S.first I hW pl pp).mp h)
end
end One
end P_M20

section P_M21
set_option linter.all false
/-! Going on from each end of a crossing, till one comes to the crossing; and the rounds that have its lines. -/
namespace One
theorem xor_blk {c r w : Nat} (hr : r < 4) (hw : w < 4) : (4 * c + r) ^^^ w = 4 * c + (r ^^^ w) := by
  have h1 := Nat.xor_div_two_pow (a := 4 * c + r) (b := w) (n := 2)
  have h2 := Nat.xor_mod_two_pow (a := 4 * c + r) (b := w) (n := 2)
  rw [show (2 : Nat) ^ 2 = 4 from rfl] at h1 h2
  have e1 : (4 * c + r) / 4 = c := by omega
  have e2 : (4 * c + r) % 4 = r := by omega
  have e3 : w / 4 = 0 := by omega
  have e4 : w % 4 = w := by omega
  rw [e1, e3, Nat.xor_zero] at h1
  rw [e2, e4] at h2
  have h3 : (r ^^^ w) % 4 = r ^^^ w := by
    have hc : (r = 0 ∨ r = 1 ∨ r = 2 ∨ r = 3) ∧ (w = 0 ∨ w = 1 ∨ w = 2 ∨ w = 3) := by omega
    obtain ⟨rfl | rfl | rfl | rfl, rfl | rfl | rfl | rfl⟩ := hc <;> decide
  have := Nat.div_add_mod ((4 * c + r) ^^^ w) 4
  rw [h1, h2] at this
  exact this.symm
section
variable {F W : Nat → Nat} {n : Nat}
def goalE (F W : Nat → Nat) (e k : Nat) : Nat := F (iter (nextE F W) k e)
theorem goalE_next (F W : Nat → Nat) (e k : Nat) : goalE F W e (k + 1) = F (goalE F W e k ^^^ (W (goalE F W e k / 4) + 1)) := rfl
/-- the first end of the crossing to which one comes from e -/
structure FirstAt (F W : Nat → Nat) (c e j x : Nat) : Prop where
  is : goalE F W e j = x
  here : x / 4 = c
  first : ∀ i, i < j → goalE F W e i / 4 ≠ c
theorem FirstAt.one {c e j k x y : Nat} (a : FirstAt F W c e j x) (b : FirstAt F W c e k y) : j = k ∧ x = y := by
  have : j = k := by
    rcases Nat.lt_trichotomy j k with h | h | h
    · exact absurd (by rw [a.is]; exact a.here) (b.first j h)
    · exact h
    · exact absurd (by rw [b.is]; exact b.here) (a.first k h)
  subst this
  exact ⟨rfl, a.is.symm.trans b.is⟩
theorem goalE_lt (I : Inv2 F n) (hW : ∀ c, c < n → W c < 3) {e : Nat} (he : e < 4 * n) (k : Nat) : goalE F W e k < 4 * n := I.lt _ ((next_goes I hW).iter_lt he k)
theorem iter_blk (I : Inv2 F n) (hW : ∀ c, c < n → W c < 3) {e : Nat} (he : e < 4 * n) (k : Nat) : iter (nextE F W) (k + 1) e / 4 = goalE F W e k / 4 := by
  have l := goalE_lt I hW he k
  exact mate_block (hW _ (by omega : goalE F W e k / 4 < n))
theorem first_some (I : Inv2 F n) (hW : ∀ c, c < n → W c < 3) {c e : Nat} (he : e < 4 * n) (hc : e / 4 = c) : ∃ j x, FirstAt F W c e j x := by
  have G := next_goes I hW
  obtain ⟨kk, per, _⟩ := G.per he
  have pos := per.pos
  have last : goalE F W e (kk - 1) / 4 = c := by
    have b := iter_blk I hW he (kk - 1)
    rw [show kk - 1 + 1 = kk by omega, per.back] at b
    omega
  have least : ∀ k, goalE F W e k / 4 = c → ∃ j x, FirstAt F W c e j x := by
    intro k
    induction k using Nat.strongRecOn with
    | ind k ih =>
      intro h
      by_cases q : ∃ i, i < k ∧ goalE F W e i / 4 = c
      · obtain ⟨i, hi, e⟩ := q
        exact ih i hi e
      · exact ⟨k, _, rfl, h, fun i hi e => q ⟨i, hi, e⟩⟩
  exact least _ last
theorem FirstAt.rev (I : Inv2 F n) (hW : ∀ c, c < n → W c < 3) {c e j x : Nat} (he : e < 4 * n) (hc : e / 4 = c) (a : FirstAt F W c e j x) : FirstAt F W c x j e := by
  have key : ∀ i, i ≤ j → goalE F W x i = iter (nextE F W) (j - i) e := fun i hi => by
    have h := iter_far I hW ((next_goes I hW).iter_lt he (j - i)) i
    rw [← iter_add, show i + (j - i) = j by omega] at h
    have hx : F (iter (nextE F W) j e) = x := a.is
    rw [hx] at h
    show F (iter (nextE F W) i x) = _
    rw [h, I.inv _ ((next_goes I hW).iter_lt he _)]
  refine ⟨?_, hc, fun i hi => ?_⟩
  · rw [key j (Nat.le_refl _), Nat.sub_self]
    rfl
  · rw [key i (by omega), show j - i = (j - i - 1) + 1 by omega, iter_blk I hW he]
    exact a.first _ (by omega)
theorem FirstAt.ne (I : Inv2 F n) (hW : ∀ c, c < n → W c < 3) {c e j x : Nat} (he : e < 4 * n) (a : FirstAt F W c e j x) : x ≠ e := fun h => by
  subst h
  have l := (next_goes I hW).iter_lt he j
  have : iter (nextE F W) j x = F x := by
    have q := I.inv _ l
    have hx : F (iter (nextE F W) j x) = x := a.is
    rw [hx] at q
    exact q.symm
  exact no_far I hW he j this
/-- each end's first is its mate by the outer way -/
theorem outer_all (I : Inv2 F n) (hW : ∀ c, c < n → W c < 3) {c o j0 : Nat} (hc : c < n) (ho : o < 3) (a : FirstAt F W c (4 * c) j0 (4 * c + o + 1)) {r : Nat} (hr : r < 4) : ∃ j, FirstAt F W c (4 * c + r) j ((4 * c + r) ^^^ (o + 1)) := by
  have hl : ∀ r, r < 4 → 4 * c + r < 4 * n := fun r h => by omega
  have hb : ∀ r, r < 4 → (4 * c + r) / 4 = c := fun r h => by omega
  obtain ⟨j, x, q⟩ := first_some I hW (hl r hr) (hb r hr)
  have xc : ∃ s, s < 4 ∧ x = 4 * c + s := ⟨x - 4 * c, by have := q.here; omega, by have := q.here; omega⟩
  obtain ⟨s, hs, rfl⟩ := xc
  have sr : s ≠ r := fun h => q.ne I hW (hl r hr) (by rw [h])
  have q' := q.rev I hW (hl r hr) (hb r hr)
  have a' := a.rev I hW (by omega) (by omega)
  rw [xor_blk hr (by omega)]
  have z0 : r = 0 → s = o + 1 := fun h => by
    subst h
    have := (q.one a).2
    omega
  have z1 : r = o + 1 → s = 0 := fun h => by
    subst h
    have e : 4 * c + o + 1 = 4 * c + (o + 1) := by omega
    rw [e] at a'
    have := (q.one a').2
    omega
  have z2 : s = 0 → r = o + 1 := fun h => by
    subst h
    have := (q'.one a).2
    omega
  have z3 : s = o + 1 → r = 0 := fun h => by
    subst h
    have e : 4 * c + o + 1 = 4 * c + (o + 1) := by omega
    rw [e] at a'
    have := (q'.one a').2
    omega
  refine ⟨j, ?_⟩
  have hs' : s = r ^^^ (o + 1) := by
    have hh : (r = 0 ∨ r = 1 ∨ r = 2 ∨ r = 3) ∧ (s = 0 ∨ s = 1 ∨ s = 2 ∨ s = 3) ∧ (o = 0 ∨ o = 1 ∨ o = 2) := by omega
    obtain ⟨rfl | rfl | rfl | rfl, rfl | rfl | rfl | rfl, rfl | rfl | rfl⟩ := hh <;> first | decide | (exfalso; omega)
  rw [← hs']
  exact q
/-- whatever way the crossing itself has -/
theorem FirstAt.way {W' : Nat → Nat} {c e j x : Nat} (a : FirstAt F W c e j x) (h : ∀ d, d ≠ c → W' d = W d) : FirstAt F W' c e j x := by
  have key : ∀ i, i ≤ j → iter (nextE F W') i e = iter (nextE F W) i e := by
    intro i
    induction i with
    | zero => intro _; rfl
    | succ i ih =>
      intro hi
      show nextE F W' (iter (nextE F W') i e) = nextE F W (iter (nextE F W) i e)
      rw [ih (by omega)]
      have := a.first i (by omega)
      have q : W' (F (iter (nextE F W) i e) / 4) = W (F (iter (nextE F W) i e) / 4) := h _ this
      show F (iter (nextE F W) i e) ^^^ (W' (F (iter (nextE F W) i e) / 4) + 1) = _
      rw [q]
      rfl
  have kg : ∀ i, i ≤ j → goalE F W' e i = goalE F W e i := fun i hi => by
    unfold goalE
    rw [key i hi]
  exact ⟨(kg j (Nat.le_refl _)).trans a.is, a.here, fun i hi => by rw [kg i (by omega)]; exact a.first i hi⟩
/-! ### the lines of a round -/
def On (F W : Nat → Nat) (p : Nat × Nat) (e : Nat) : Prop := e ∈ rnd (nextE F W) p.1 p.2 ∨ F e ∈ rnd (nextE F W) p.1 p.2
theorem rnd_next (p : Nat × Nat) (h : Per (nextE F W) p.1 p.2) {x : Nat} (hx : x ∈ rnd (nextE F W) p.1 p.2) : nextE F W x ∈ rnd (nextE F W) p.1 p.2 := by
  obtain ⟨i, _, rfl⟩ := mem_rnd.mp hx
  exact h.mod (i + 1)
theorem On.far (I : Inv2 F n) {p : Nat × Nat} {e : Nat} (he : e < 4 * n) (h : On F W p e) : On F W p (F e) := by
  rcases h with h | h
  · exact .inr (by rw [I.inv e he]; exact h)
  · exact .inl h
theorem On.mate (I : Inv2 F n) (hW : ∀ c, c < n → W c < 3) {p : Nat × Nat} (hp : p.1 < 4 * n) (per : Per (nextE F W) p.1 p.2) {e : Nat} (he : e < 4 * n) (h : On F W p e) : On F W p (e ^^^ (W (e / 4) + 1)) := by
  rcases h with h | h
  · obtain ⟨i, hi, rfl⟩ := mem_rnd.mp h
    have pos := per.pos
    obtain ⟨x, hx, ex⟩ : ∃ x ∈ rnd (nextE F W) p.1 p.2, nextE F W x = iter (nextE F W) i p.1 := by
      by_cases h0 : i = 0
      · subst h0
        refine ⟨iter (nextE F W) (p.2 - 1) p.1, per.mod _, ?_⟩
        have b := per.back
        rw [show p.2 = (p.2 - 1) + 1 by omega] at b
        exact b
      · refine ⟨iter (nextE F W) (i - 1) p.1, per.mod _, ?_⟩
        rw [show i = (i - 1) + 1 by omega]
        rfl
    have lx := rnd_lt I hW hp hx
    have lF := I.lt x lx
    have blk : (F x ^^^ (W (F x / 4) + 1)) / 4 = F x / 4 := mate_block (hW _ (by omega))
    right
    have e1 : iter (nextE F W) i p.1 ^^^ (W (iter (nextE F W) i p.1 / 4) + 1) = F x := by
      rw [← ex]
      show (F x ^^^ (W (F x / 4) + 1)) ^^^ (W ((F x ^^^ (W (F x / 4) + 1)) / 4) + 1) = F x
      rw [blk, mate_mate]
    rw [e1, I.inv x lx]
    exact hx
  · left
    have := rnd_next p per h
    have e2 : nextE F W (F e) = e ^^^ (W (e / 4) + 1) := by
      unfold nextE
      rw [I.inv e he]
    rw [e2] at this
    exact this
theorem On.same (I : Inv2 F n) (hW : ∀ c, c < n → W c < 3) {p : Nat × Nat} (hp : p.1 < 4 * n) (per : Per (nextE F W) p.1 p.2) {e k : Nat} (he : e < 4 * n) (pe : Per (nextE F W) e k) (h : On F W p e) {x : Nat} (hx : x < 4 * n) : On F W p x ↔ On F W (e, k) x := by
  have G := next_goes I hW
  have se : e ∈ rnd (nextE F W) e k := self_rnd pe
  rcases h with h | h
  · have a1 := Per.same G hp he per pe h se
    have a2 := Per.same G he hp pe per se h
    exact ⟨fun q => q.elim (fun q => .inl (a1 _ q)) (fun q => .inr (a1 _ q)), fun q => q.elim (fun q => .inl (a2 _ q)) (fun q => .inr (a2 _ q))⟩
  · obtain ⟨pf, hf⟩ := far_round I hW he pe
    have sf : F e ∈ rnd (nextE F W) (F e) k := self_rnd pf
    have a1 := Per.same G hp (I.lt e he) per pf h sf
    have a2 := Per.same G (I.lt e he) hp pf per sf h
    have key : ∀ z, z < 4 * n → (z ∈ rnd (nextE F W) p.1 p.2 ↔ F z ∈ rnd (nextE F W) e k) := fun z hz => by
      constructor
      · intro q
        obtain ⟨y, hy, rfl⟩ := (hf z).mp (a1 _ q)
        rw [I.inv y (rnd_lt I hW he hy)]
        exact hy
      · intro q
        exact a2 _ ((hf z).mpr ⟨F z, q, I.inv z hz⟩)
    constructor
    · rintro (q | q)
      · exact .inr ((key x hx).mp q)
      · left
        have := (key (F x) (I.lt x hx)).mp q
        rw [I.inv x hx] at this
        exact this
    · rintro (q | q)
      · exact .inr ((key (F x) (I.lt x hx)).mpr (by rw [I.inv x hx]; exact q))
      · exact .inl ((key x hx).mpr q)
/-- the way at the crossing leads back: no other of its ends is on that round -/
theorem back_only (I : Inv2 F n) (hW : ∀ c, c < n → W c < 3) {c e j : Nat} (he : e < 4 * n) (hc : e / 4 = c) (a : FirstAt F W c e j (e ^^^ (W c + 1))) : Per (nextE F W) e (j + 1) ∧ ∀ x, x < 4 * n → x / 4 = c → On F W (e, j + 1) x → x = e ∨ x = e ^^^ (W c + 1) := by
  have hcn : c < n := by omega
  have notc : ∀ i, 0 < i → i ≤ j → iter (nextE F W) i e / 4 ≠ c := fun i h0 hi => by
    rw [show i = (i - 1) + 1 by omega, iter_blk I hW he]
    exact a.first _ (by omega)
  have per : Per (nextE F W) e (j + 1) := by
    refine ⟨by omega, ?_, fun i h0 h1 e' => ?_⟩
    · show goalE F W e j ^^^ (W (goalE F W e j / 4) + 1) = e
      rw [a.is, a.here, mate_mate]
    · exact notc i h0 (by omega) (by rw [e']; exact hc)
  refine ⟨per, fun x hx xc h => ?_⟩
  rcases h with h | h
  · obtain ⟨i, hi, rfl⟩ := mem_rnd.mp h
    by_cases h0 : i = 0
    · subst h0
      exact .inl rfl
    · exact absurd xc (notc i (by omega) (by have : i < j + 1 := hi; omega))
  · obtain ⟨i, hi, e1⟩ := mem_rnd.mp h
    have hi : i < j + 1 := hi
    have e2 : goalE F W e i = x := by
      show F (iter (nextE F W) i e) = x
      have : iter (nextE F W) i e = F x := e1
      rw [this, I.inv x hx]
    by_cases hj : i = j
    · subst hj
      exact .inr (e2.symm.trans a.is)
    · exact absurd (by rw [e2]; exact xc) (a.first i (by omega))
end
end One
end P_M21

section P_M22
set_option linter.all false
/-! How many of a crossing's ends are on each round. -/
namespace One
section
variable {F W : Nat → Nat} {n : Nat}
/-- the ends of a round, and the far ones -/
def bothE (F W : Nat → Nat) (p : Nat × Nat) : List Nat := rnd (nextE F W) p.1 p.2 ++ (rnd (nextE F W) p.1 p.2).map F
def cntE (F W : Nat → Nat) (c : Nat) (p : Nat × Nat) : Nat := ((bothE F W p).filter fun e => decide (e / 4 = c)).length
theorem mem_both (I : Inv2 F n) (hW : ∀ c, c < n → W c < 3) {p : Nat × Nat} (hp : p.1 < 4 * n) {e : Nat} (he : e < 4 * n) : e ∈ bothE F W p ↔ On F W p e := by
  unfold bothE On
  rw [List.mem_append, List.mem_map]
  constructor
  · rintro (h | ⟨x, hx, rfl⟩)
    · exact .inl h
    · exact .inr (by rw [I.inv x (rnd_lt I hW hp hx)]; exact hx)
  · rintro (h | h)
    · exact .inl h
    · exact .inr ⟨F e, h, I.inv e he⟩
theorem both_lt (I : Inv2 F n) (hW : ∀ c, c < n → W c < 3) {p : Nat × Nat} (hp : p.1 < 4 * n) {e : Nat} (h : e ∈ bothE F W p) : e < 4 * n := by
  rcases List.mem_append.mp h with h | h
  · exact rnd_lt I hW hp h
  · obtain ⟨x, hx, rfl⟩ := List.mem_map.mp h
    exact I.lt _ (rnd_lt I hW hp hx)
theorem both_nodup (I : Inv2 F n) (hW : ∀ c, c < n → W c < 3) {p : Nat × Nat} (hp : p.1 < 4 * n) (per : Per (nextE F W) p.1 p.2) : (bothE F W p).Nodup := by
  have G := next_goes I hW
  have nd := G.nodup hp p.2 per.first
  refine List.nodup_append.mpr ⟨nd, ?_, fun a ha b hb e => ?_⟩
  · refine List.pairwise_map.mpr (nd.imp_of_mem fun {x y} hx hy ne e => ne ?_)
    rw [← I.inv x (rnd_lt I hW hp hx), ← I.inv y (rnd_lt I hW hp hy), e]
  · obtain ⟨x, hx, rfl⟩ := List.mem_map.mp hb
    subst e
    obtain ⟨i, hi, rfl⟩ := mem_rnd.mp hx
    obtain ⟨j, hj, ej⟩ := mem_rnd.mp ha
    have l := G.iter_lt hp i
    -- the one goes on to the other's far end
    have : ∃ d, iter (nextE F W) d (iter (nextE F W) i p.1) = iter (nextE F W) j p.1 := by
      refine ⟨p.2 - i + j, ?_⟩
      rw [← iter_add]
      have e1 : p.2 - i + j + i = j + p.2 := by
        have : i < p.2 := hi
        omega
      rw [e1, iter_add, per.back]
    obtain ⟨d, hd⟩ := this
    exact no_far I hW l d (hd.trans ej)
theorem filter_perm_len {l m : List Nat} (h1 : l.Nodup) (h2 : m.Nodup) (h : ∀ x, x ∈ l ↔ x ∈ m) : l.length = m.length := ((List.perm_ext_iff_of_nodup h1 h2).mpr h).length_eq
/-- as many as the list of those of the crossing's ends that are on it -/
theorem cnt_of (I : Inv2 F n) (hW : ∀ c, c < n → W c < 3) {c : Nat} {p : Nat × Nat} (hc : c < n) (hp : p.1 < 4 * n) (per : Per (nextE F W) p.1 p.2) {m : List Nat} (nd : m.Nodup) (h : ∀ x, x ∈ m ↔ x / 4 = c ∧ On F W p x) : cntE F W c p = m.length := by
  unfold cntE
  refine filter_perm_len ((both_nodup I hW hp per).filter _) nd fun x => ?_
  rw [List.mem_filter, decide_eq_true_eq, h]
  constructor
  · rintro ⟨a, b⟩
    exact ⟨b, (mem_both I hW hp (both_lt I hW hp a)).mp a⟩
  · rintro ⟨b, a⟩
    exact ⟨(mem_both I hW hp (by omega)).mpr a, b⟩
theorem cnt_none (I : Inv2 F n) (hW : ∀ c, c < n → W c < 3) {c : Nat} {p : Nat × Nat} (hc : c < n) (hp : p.1 < 4 * n) (per : Per (nextE F W) p.1 p.2) (h : ∀ x, x / 4 = c → ¬ On F W p x) : cntE F W c p = 0 :=
  cnt_of I hW hc hp per (m := []) .nil fun x => ⟨fun q => by simp at q, fun q => absurd q.2 (h x q.1)⟩
/-- it has lines at the crossing just where some are counted -/
theorem meets_iff (I : Inv2 F n) (hW : ∀ c, c < n → W c < 3) {c : Nat} {p : Nat × Nat} (hp : p.1 < 4 * n) (per : Per (nextE F W) p.1 p.2) : (∃ x ∈ rnd (nextE F W) p.1 p.2, x / 4 = c) ↔ cntE F W c p ≠ 0 := by
  unfold cntE
  rw [← Nat.pos_iff_ne_zero, List.length_pos_iff_exists_mem]
  constructor
  · rintro ⟨x, hx, e⟩
    exact ⟨x, List.mem_filter.mpr ⟨List.mem_append.mpr (.inl hx), decide_eq_true e⟩⟩
  · rintro ⟨x, hx⟩
    obtain ⟨h1, h2⟩ := List.mem_filter.mp hx
    have h2 := of_decide_eq_true h2
    rcases List.mem_append.mp h1 with h | h
    · exact ⟨x, h, h2⟩
    · obtain ⟨z, hz, rfl⟩ := List.mem_map.mp h
      refine ⟨nextE F W z, rnd_next p per hz, ?_⟩
      have lz := I.lt z (rnd_lt I hW hp hz)
      have : (F z ^^^ (W (F z / 4) + 1)) / 4 = F z / 4 := mate_block (hW _ (by omega))
      exact this.trans h2
theorem On.one {rs : List (Nat × Nat)} (I : Inv2 F n) (R : Rounds F W n rs) {p q : Nat × Nat} (hp : p ∈ rs) (hq : q ∈ rs) {e : Nat} (he : e < 4 * n) (h : On F W p e) (k : On F W q e) : p = q := by
  have sym : ∀ {p q : Nat × Nat}, (∀ x, x ∈ rnd (nextE F W) p.1 p.2 → x ∉ rnd (nextE F W) q.1 q.2 ∧ F x ∉ rnd (nextE F W) q.1 q.2) → On F W p e → On F W q e → False := fun {p q} d h k => by
    rcases h with h | h
    · obtain ⟨a, b⟩ := d _ h
      rcases k with k | k
      · exact a k
      · exact b k
    · obtain ⟨a, b⟩ := d _ h
      rw [I.inv e he] at b
      rcases k with k | k
      · exact b k
      · exact a k
  have : ∀ {l : List (Nat × Nat)}, l.Pairwise (fun p q => ∀ x, x ∈ rnd (nextE F W) p.1 p.2 → x ∉ rnd (nextE F W) q.1 q.2 ∧ F x ∉ rnd (nextE F W) q.1 q.2) → p ∈ l → q ∈ l → p = q := by
    intro l hl
    induction hl with
    | nil => intro h; simp at h
    | @cons a l ha _ ih =>
      intro h1 h2
      rcases List.mem_cons.mp h1 with e1 | g1
      · rcases List.mem_cons.mp h2 with e2 | g2
        · exact e1.trans e2.symm
        · subst e1
          exact (sym (ha _ g2) h k).elim
      · rcases List.mem_cons.mp h2 with e2 | g2
        · subst e2
          exact (sym (ha _ g1) k h).elim
        · exact ih g1 g2
  exact this R.one hp hq
theorem counts_list {rs : List (Nat × Nat)} {g : Nat × Nat → Nat} {v : Nat} {ms : List (Nat × Nat)} (hv : v ≠ 0) (nd : rs.Nodup) (ndm : ms.Nodup) (h : ∀ p ∈ rs, p ∈ ms → g p = v) (h0 : ∀ p ∈ rs, p ∉ ms → g p = 0) (hm : ∀ p ∈ ms, p ∈ rs) : (rs.filter fun p => decide (g p ≠ 0)).map g = List.replicate ms.length v := by
  have mem : ∀ p, p ∈ rs.filter (fun p => decide (g p ≠ 0)) ↔ p ∈ ms := fun p => by
    rw [List.mem_filter, decide_eq_true_eq]
    constructor
    · rintro ⟨a, b⟩
      by_cases q : p ∈ ms
      · exact q
      · exact absurd (h0 p a q) b
    · intro q
      exact ⟨hm p q, by rw [h p (hm p q) q]; exact hv⟩
  have len : (rs.filter fun p => decide (g p ≠ 0)).length = ms.length := ((List.perm_ext_iff_of_nodup (nd.filter _) ndm).mpr mem).length_eq
  refine List.eq_replicate_iff.mpr ⟨by rw [List.length_map, len], fun x hx => ?_⟩
  obtain ⟨p, hp, rfl⟩ := List.mem_map.mp hx
  exact h p (List.mem_filter.mp hp).1 ((mem p).mp hp)
/-- two rounds with two ends each where the outer way is set, else one with four -/
theorem met_counts {rs : List (Nat × Nat)} (I : Inv2 F n) (hW : ∀ c, c < n → W c < 3) (R : Rounds F W n rs) {c o j0 : Nat} (hc : c < n) (ho : o < 3) (a : FirstAt F W c (4 * c) j0 (4 * c + o + 1)) : (rs.filter fun p => decide (cntE F W c p ≠ 0)).map (cntE F W c) = if W c = o then [2, 2] else [4] := by
  have hl : ∀ r, r < 4 → 4 * c + r < 4 * n := fun r h => by omega
  have hb : ∀ r, r < 4 → (4 * c + r) / 4 = c := fun r h => by omega
  have ndr : rs.Nodup := R.up.imp fun h e => by
    subst e
    omega
  have at_ : ∀ x, x < 4 * n → x / 4 = c → ∃ r, r < 4 ∧ x = 4 * c + r := fun x _ h => ⟨x - 4 * c, by omega, by omega⟩
  have lt_ : ∀ x, x / 4 = c → x < 4 * n := fun x h => by omega
  -- from each end the round leads to its mate by the outer way
  have path : ∀ {p : Nat × Nat} {e : Nat}, p ∈ rs → e < 4 * n → On F W p e → ∀ i, On F W p (iter (nextE F W) i e) ∧ On F W p (goalE F W e i) := fun {p e} hp he h i => by
    obtain ⟨p1, p2⟩ := R.per p hp
    induction i with
    | zero => exact ⟨h, h.far I he⟩
    | succ i ih =>
      have l := goalE_lt I hW he i
      have q := ih.2.mate I hW p1 p2 l
      exact ⟨q, q.far I ((next_goes I hW).iter_lt he (i + 1))⟩
  have outer : ∀ {p : Nat × Nat} {r : Nat}, p ∈ rs → r < 4 → On F W p (4 * c + r) → On F W p ((4 * c + r) ^^^ (o + 1)) := fun {p r} hp hr h => by
    obtain ⟨j, q⟩ := outer_all I hW hc ho a hr
    have := (path hp (hl r hr) h j).2
    rw [q.is] at this
    exact this
  have own : ∀ {p : Nat × Nat} {r : Nat}, p ∈ rs → r < 4 → On F W p (4 * c + r) → On F W p ((4 * c + r) ^^^ (W c + 1)) := fun {p r} hp hr h => by
    obtain ⟨p1, p2⟩ := R.per p hp
    have := h.mate I hW p1 p2 (hl r hr)
    rwa [hb r hr] at this
  obtain ⟨p, hp, hop⟩ := R.all (4 * c) (hl 0 (by decide))
  have hop : On F W p (4 * c + 0) := hop
  have wc := hW c hc
  obtain ⟨p1, p2⟩ := R.per p hp
  by_cases hw : W c = o
  · rw [if_pos hw]
    -- one of the two others
    obtain ⟨r, hr, hr0, hro⟩ : ∃ r, r < 4 ∧ r ≠ 0 ∧ r ≠ o + 1 := by
      by_cases h1 : o = 0
      · exact ⟨2, by decide, by decide, by omega⟩
      · exact ⟨1, by decide, by decide, by omega⟩
    obtain ⟨q, hq, hoq⟩ := R.all (4 * c + r) (hl r hr)
    obtain ⟨q1, q2⟩ := R.per q hq
    have only : ∀ {p' : Nat × Nat} {s : Nat}, p' ∈ rs → s < 4 → On F W p' (4 * c + s) → ∀ x, x / 4 = c → (On F W p' x ↔ x = 4 * c + s ∨ x = (4 * c + s) ^^^ (o + 1)) := fun {p' s} hp' hs h x xc => by
      obtain ⟨k1, k2⟩ := R.per p' hp'
      obtain ⟨j, f⟩ := outer_all I hW hc ho a hs
      rw [← hw] at f
      obtain ⟨pe, ex⟩ := back_only I hW (hl s hs) (hb s hs) f
      constructor
      · intro hx
        rw [← hw]
        exact ex x (lt_ x xc) xc ((On.same I hW k1 k2 (hl s hs) pe h (lt_ x xc)).mp hx)
      · rintro (rfl | rfl)
        · exact h
        · exact outer hp' hs h
    have x0 : (4 * c + 0) ^^^ (o + 1) = 4 * c + (o + 1) := by
      rw [xor_blk (by decide) (by omega), Nat.zero_xor]
    have xr : ∃ s, s < 4 ∧ (4 * c + r) ^^^ (o + 1) = 4 * c + s ∧ s ≠ r ∧ s ≠ 0 ∧ s ≠ o + 1 := by
      refine ⟨r ^^^ (o + 1), ?_, xor_blk hr (by omega), ?_⟩
      · have hh : (r = 1 ∨ r = 2 ∨ r = 3) ∧ (o = 0 ∨ o = 1 ∨ o = 2) := by omega
        obtain ⟨rfl | rfl | rfl, rfl | rfl | rfl⟩ := hh <;> decide
      · have hh : (r = 1 ∨ r = 2 ∨ r = 3) ∧ (o = 0 ∨ o = 1 ∨ o = 2) := by omega
        obtain ⟨rfl | rfl | rfl, rfl | rfl | rfl⟩ := hh <;> first | decide | (exfalso; omega)
    obtain ⟨s, hs, es, sr, s0, so⟩ := xr
    have onp := only hp (by decide : 0 < 4) hop
    have onq := only hq hr hoq
    rw [x0] at onp
    rw [es] at onq
    have pq : p ≠ q := fun e => by
      subst e
      have := (onp _ (hb r hr)).mp hoq
      omega
    have nds : [p, q].Nodup := by simp [pq]
    refine (counts_list (v := 2) (ms := [p, q]) (by decide) ndr nds (fun z hz hm => ?_) (fun z hz hm => ?_) (fun z hm => ?_)).trans rfl
    · simp only [List.mem_cons, List.not_mem_nil, or_false] at hm
      rcases hm with rfl | rfl
      · refine cnt_of I hW hc p1 p2 (m := [4 * c + 0, 4 * c + (o + 1)]) (by simp) fun x => ?_
        simp only [List.mem_cons, List.not_mem_nil, or_false]
        constructor
        · intro h
          have xc : x / 4 = c := by omega
          exact ⟨xc, (onp x xc).mpr h⟩
        · rintro ⟨xc, h⟩
          exact (onp x xc).mp h
      · refine cnt_of I hW hc q1 q2 (m := [4 * c + r, 4 * c + s]) (by simp; omega) fun x => ?_
        simp only [List.mem_cons, List.not_mem_nil, or_false]
        constructor
        · intro h
          have xc : x / 4 = c := by omega
          exact ⟨xc, (onq x xc).mpr h⟩
        · rintro ⟨xc, h⟩
          exact (onq x xc).mp h
    · obtain ⟨z1, z2⟩ := R.per z hz
      refine cnt_none I hW hc z1 z2 fun x xc h => hm ?_
      obtain ⟨t, ht, rfl⟩ := at_ x (lt_ x xc) xc
      have hh : t = 0 ∨ t = o + 1 ∨ t = r ∨ t = s := by omega
      simp only [List.mem_cons, List.not_mem_nil, or_false]
      rcases hh with rfl | rfl | rfl | rfl
      · exact .inl (On.one I R hz hp (hl _ ht) h hop)
      · exact .inl (On.one I R hz hp (hl _ ht) h ((onp _ xc).mpr (.inr rfl)))
      · exact .inr (On.one I R hz hq (hl _ ht) h hoq)
      · exact .inr (On.one I R hz hq (hl _ ht) h ((onq _ xc).mpr (.inr rfl)))
    · simp only [List.mem_cons, List.not_mem_nil, or_false] at hm
      rcases hm with rfl | rfl
      · exact hp
      · exact hq
  · rw [if_neg hw]
    have all4 : ∀ r, r < 4 → On F W p (4 * c + r) := fun r hr => by
      have a1 : On F W p (4 * c + (o + 1)) := by
        have := outer hp (by decide : 0 < 4) hop
        rwa [xor_blk (by decide) (by omega), Nat.zero_xor] at this
      have a2 : On F W p (4 * c + (W c + 1)) := by
        have := own hp (by decide : 0 < 4) hop
        rwa [xor_blk (by decide) (by omega), Nat.zero_xor] at this
      have a3 : On F W p (4 * c + ((o + 1) ^^^ (W c + 1))) := by
        have := own hp (by omega : o + 1 < 4) a1
        rwa [xor_blk (by omega) (by omega)] at this
      generalize W c = w at hw wc a2 a3
      have hh : (r = 0 ∨ r = 1 ∨ r = 2 ∨ r = 3) ∧ (o = 0 ∨ o = 1 ∨ o = 2) ∧ (w = 0 ∨ w = 1 ∨ w = 2) := by omega
      obtain ⟨rfl | rfl | rfl | rfl, rfl | rfl | rfl, rfl | rfl | rfl⟩ := hh <;> first | exact absurd rfl hw | exact hop | exact a1 | exact a2 | exact a3
    refine (counts_list (v := 4) (ms := [p]) (by decide) ndr (by simp) (fun z hz hm => ?_) (fun z hz hm => ?_) (fun z hm => ?_)).trans rfl
    · rw [List.mem_singleton] at hm
      subst hm
      refine cnt_of I hW hc p1 p2 (m := [4 * c + 0, 4 * c + 1, 4 * c + 2, 4 * c + 3]) (by simp) fun x => ?_
      simp only [List.mem_cons, List.not_mem_nil, or_false]
      constructor
      · rintro (rfl | rfl | rfl | rfl)
        · exact ⟨hb 0 (by decide), all4 0 (by decide)⟩
        · exact ⟨hb 1 (by decide), all4 1 (by decide)⟩
        · exact ⟨hb 2 (by decide), all4 2 (by decide)⟩
        · exact ⟨hb 3 (by decide), all4 3 (by decide)⟩
      · rintro ⟨xc, _⟩
        omega
    · obtain ⟨z1, z2⟩ := R.per z hz
      refine cnt_none I hW hc z1 z2 fun x xc h => hm ?_
      obtain ⟨t, ht, rfl⟩ := at_ x (lt_ x xc) xc
      rw [List.mem_singleton]
      exact On.one I R hz hp (hl t ht) h (all4 t ht)
    · rw [List.mem_singleton] at hm
      subst hm
      exact hp
end
end One
end P_M22

section P_M23
set_option linter.all false
/-! How many rounds there are when one crossing is turned. -/
namespace One
section
variable {F W W' : Nat → Nat} {n : Nat}
theorem rounds_to (I : Inv2 F n) (hW : ∀ c, c < n → W c < 3) : ∀ i, i ≤ 4 * n → ∃ rs, RTo F W n i rs
  | 0, _ => ⟨[], rto_nil⟩
  | i + 1, hi => by
    obtain ⟨rs, R⟩ := rounds_to I hW i (by omega)
    by_cases g : Gone F W rs i
    · exact ⟨rs, R.skip g⟩
    · obtain ⟨k, a, _⟩ := (next_goes I hW).per (show i < 4 * n by omega)
      exact ⟨_, R.more I hW (by omega) g a⟩
theorem rounds_some (I : Inv2 F n) (hW : ∀ c, c < n → W c < 3) : ∃ rs, Rounds F W n rs := by
  obtain ⟨rs, R⟩ := rounds_to I hW (4 * n) (Nat.le_refl _)
  exact ⟨rs, R.done⟩
theorem outer_some (I : Inv2 F n) (hW : ∀ c, c < n → W c < 3) {c : Nat} (hc : c < n) : ∃ o j, o < 3 ∧ FirstAt F W c (4 * c) j (4 * c + o + 1) := by
  obtain ⟨j, x, a⟩ := first_some I hW (show 4 * c < 4 * n by omega) (show 4 * c / 4 = c by omega)
  have h1 := a.ne I hW (by omega)
  have h2 := a.here
  exact ⟨x - 4 * c - 1, j, by omega, by rw [show 4 * c + (x - 4 * c - 1) + 1 = x by omega]; exact a⟩
theorem len_split {α : Type} (p : α → Bool) : ∀ l : List α, l.length = (l.filter fun x => !p x).length + (l.filter p).length
  | [] => rfl
  | x :: l => by
    rw [List.filter_cons, List.filter_cons, List.length_cons, len_split p l]
    cases p x
    · simp only [Bool.not_false, if_true, List.length_cons]
      rw [if_neg (by decide)]
      omega
    · simp only [Bool.not_true, if_true, List.length_cons]
      rw [if_neg (by decide)]
      omega
/-- a round that has no line at the crossing stays -/
theorem same_off (I : Inv2 F n) (hW : ∀ c, c < n → W c < 3) (hW' : ∀ c, c < n → W' c < 3) {rs rs' : List (Nat × Nat)} (R : Rounds F W n rs) (R' : Rounds F W' n rs') {c : Nat} (h : ∀ d, d ≠ c → W' d = W d) {p : Nat × Nat} (hp : p ∈ rs) (h0 : cntE F W c p = 0) : p ∈ rs' ∧ cntE F W' c p = 0 := by
  obtain ⟨p1, p2⟩ := R.per p hp
  have off : ∀ x ∈ rnd (nextE F W) p.1 p.2, F x / 4 ≠ c := fun x hx e => by
    have q := (meets_iff I hW (c := c) p1 p2).mp
    have lx := rnd_lt I hW p1 hx
    have lF := I.lt x lx
    have b : (F x ^^^ (W (F x / 4) + 1)) / 4 = F x / 4 := mate_block (hW _ (by omega))
    exact q ⟨nextE F W x, rnd_next p p2 hx, b.trans e⟩ h0
  have step : ∀ x ∈ rnd (nextE F W) p.1 p.2, nextE F W' x = nextE F W x := fun x hx => by
    unfold nextE
    rw [h _ (off x hx)]
  have key : ∀ i, iter (nextE F W') i p.1 = iter (nextE F W) i p.1 := by
    intro i
    induction i with
    | zero => rfl
    | succ i ih =>
      show nextE F W' (iter (nextE F W') i p.1) = nextE F W (iter (nextE F W) i p.1)
      rw [ih]
      exact step _ (p2.mod i)
  have er : rnd (nextE F W') p.1 p.2 = rnd (nextE F W) p.1 p.2 := by
    unfold rnd
    exact List.map_congr_left fun i _ => key i
  have per' : Per (nextE F W') p.1 p.2 := ⟨p2.pos, (key _).trans p2.back, fun i a b e => p2.first i a b ((key i).symm.trans e)⟩
  refine ⟨(R'.first I hW' p1 per').mpr fun x hx => ?_, ?_⟩
  · rw [er] at hx
    exact R.least p hp x hx
  · have e2 : bothE F W' p = bothE F W p := by
      unfold bothE
      rw [er]
    unfold cntE at h0 ⊢
    rw [e2]
    exact h0
theorem met_len {rs : List (Nat × Nat)} (I : Inv2 F n) (hW : ∀ c, c < n → W c < 3) (R : Rounds F W n rs) {c o j0 : Nat} (hc : c < n) (ho : o < 3) (a : FirstAt F W c (4 * c) j0 (4 * c + o + 1)) : (rs.filter fun p => decide (cntE F W c p ≠ 0)).length = if W c = o then 2 else 1 := by
  have := congrArg List.length (met_counts I hW R hc ho a)
  rw [List.length_map] at this
  rw [this]
  split <;> rfl
/-- two of three settings that differ at a crossing: as many rounds, but one more by the outer way -/
theorem count_at (I : Inv2 F n) (hW : ∀ c, c < n → W c < 3) (hW' : ∀ c, c < n → W' c < 3) {rs rs' : List (Nat × Nat)} (R : Rounds F W n rs) (R' : Rounds F W' n rs') {c o j0 : Nat} (hc : c < n) (h : ∀ d, d ≠ c → W' d = W d) (ho : o < 3) (a : FirstAt F W c (4 * c) j0 (4 * c + o + 1)) :
    ∃ K, rs.length = K + (if W c = o then 2 else 1) ∧ rs'.length = K + (if W' c = o then 2 else 1) := by
  have a' := a.way h
  have l1 := len_split (fun p => decide (cntE F W c p ≠ 0)) rs
  have l2 := len_split (fun p => decide (cntE F W' c p ≠ 0)) rs'
  rw [met_len I hW R hc ho a] at l1
  rw [met_len I hW' R' hc ho a'] at l2
  refine ⟨(rs.filter fun p => !decide (cntE F W c p ≠ 0)).length, l1, ?_⟩
  rw [l2]
  congr 1
  have nd : ∀ {W : Nat → Nat} {rs : List (Nat × Nat)}, Rounds F W n rs → rs.Nodup := fun R => R.up.imp fun h e => by
    subst e
    omega
  refine ((List.perm_ext_iff_of_nodup ((nd R').filter _) ((nd R).filter _)).mpr fun p => ?_).length_eq
  rw [List.mem_filter, List.mem_filter]
  have z : ∀ {k : Nat}, (!decide (k ≠ 0)) = true ↔ k = 0 := fun {k} => by
    rw [Bool.not_eq_true', decide_eq_false_iff_not]
    omega
  rw [z, z]
  constructor
  · rintro ⟨h1, h2⟩
    exact same_off I hW' hW R' R (fun d hd => (h d hd).symm) h1 h2
  · rintro ⟨h1, h2⟩
    exact same_off I hW hW' R R' h h1 h2
/-- while there are two rounds, some crossing is met by two -/
theorem two_met {ps : List (Nat × Nat)} {rs : List (Nat × Nat)} (L : Lines n ps) (Wh : Whole n ps) (hn : 0 < n) (hW : ∀ c, c < n → W c < 3) (R : Rounds (far ps) W n rs) (h2 : 2 ≤ rs.length) : ∃ c, c < n ∧ (rs.filter fun p => decide (cntE (far ps) W c p ≠ 0)).length = 2 := by
  have I := far_inv L
  refine Classical.byContradiction fun no => ?_
  have one : ∀ c, c < n → (rs.filter fun p => decide (cntE (far ps) W c p ≠ 0)).length = 1 := fun c hc => by
    obtain ⟨o, j, ho, a⟩ := outer_some I hW hc
    have q := met_len I hW R hc ho a
    by_cases e : W c = o
    · rw [if_pos e] at q
      exact absurd ⟨c, hc, q⟩ no
    · rw [if_neg e] at q
      exact q
  have cnt0 : ∀ {p : Nat × Nat} {e : Nat}, p ∈ rs → e < 4 * n → On (far ps) W p e → p ∈ rs.filter fun p => decide (cntE (far ps) W (e / 4) p ≠ 0) := fun {p e} hp he h => by
    obtain ⟨p1, _⟩ := R.per p hp
    refine List.mem_filter.mpr ⟨hp, decide_eq_true ?_⟩
    unfold cntE
    rw [← Nat.pos_iff_ne_zero, List.length_pos_iff_exists_mem]
    exact ⟨e, List.mem_filter.mpr ⟨(mem_both I hW p1 he).mpr h, decide_eq_true rfl⟩⟩
  have same : ∀ {p q : Nat × Nat} {e g : Nat}, p ∈ rs → q ∈ rs → e < 4 * n → g < 4 * n → e / 4 = g / 4 → On (far ps) W p e → On (far ps) W q g → p = q := fun {p q e g} hp hq he hg eg h k => by
    have a1 := cnt0 hp he h
    have a2 := cnt0 hq hg k
    rw [← eg] at a2
    obtain ⟨z, hz⟩ := List.length_eq_one_iff.mp (one (e / 4) (by omega))
    rw [hz, List.mem_singleton] at a1 a2
    exact a1.trans a2.symm
  obtain ⟨p, hp, h0⟩ := R.all 0 (by omega)
  have all : ∀ c, c < n → ∀ e, e < 4 * n → e / 4 = c → On (far ps) W p e := by
    refine Wh (fun c => ∀ e, e < 4 * n → e / 4 = c → On (far ps) W p e) (fun l hl => ?_) fun e he e0 => ?_
    · have l1 := L.lt _ (mem_ends.mpr ⟨l, hl, .inl rfl⟩)
      have l2 := L.lt _ (mem_ends.mpr ⟨l, hl, .inr rfl⟩)
      have f12 : far ps l.1 = l.2 ∧ far ps l.2 = l.1 := far_of L.nd hl
      have go : ∀ {a b : Nat}, a < 4 * n → b < 4 * n → far ps a = b → (∀ e, e < 4 * n → e / 4 = a / 4 → On (far ps) W p e) → ∀ e, e < 4 * n → e / 4 = b / 4 → On (far ps) W p e := fun {a b} ha hb hf h e he eb => by
        have ob := (h a ha rfl).far I ha
        rw [hf] at ob
        obtain ⟨q, hq, oq⟩ := R.all e he
        have := same hq hp he hb eb oq ob
        subst this
        exact oq
      exact ⟨go l1 l2 f12.1, go l2 l1 f12.2⟩
    · obtain ⟨q, hq, oq⟩ := R.all e he
      have := same hq hp he (show 0 < 4 * n by omega) (by omega) oq h0
      subst this
      exact oq
  have only : ∀ q ∈ rs, q = p := fun q hq => by
    obtain ⟨q1, q2⟩ := R.per q hq
    exact On.one I R hq hp q1 (.inl (self_rnd q2)) (all _ (by omega : q.1 / 4 < n) q.1 q1 rfl)
  match rs, h2, only, R.up with
  | a :: b :: t, _, only, up =>
    have e1 := only a (List.mem_cons_self ..)
    have e2 := only b (List.mem_cons_of_mem _ (List.mem_cons_self ..))
    have := (List.pairwise_cons.mp up).1 b (List.mem_cons_self ..)
    rw [e1, e2] at this
    omega
end
end One
end P_M23

section P_M50
set_option linter.all false
set_option maxRecDepth 100000
set_option maxHeartbeats 4000000
/-! Rounds, where a crossing is sewn out by the way that it has. -/
namespace One
theorem len_le {α β : Type} (R : α → β → Prop) : ∀ {l : List α} {r : List β}, l.Nodup → (∀ a ∈ l, ∃ b ∈ r, R a b) → (∀ a ∈ l, ∀ a' ∈ l, ∀ b ∈ r, R a b → R a' b → a = a') → l.length ≤ r.length
  | [], _, _, _, _ => Nat.zero_le _
  | a :: l, r, nd, tot, inj => by
    obtain ⟨b, hb, hab⟩ := tot a (.head _)
    obtain ⟨r1, r2, rfl⟩ := List.append_of_mem hb
    obtain ⟨na, nd'⟩ := List.nodup_cons.mp nd
    have sub : ∀ x, x ∈ r1 ++ r2 → x ∈ r1 ++ b :: r2 := fun x hx => by
      rcases List.mem_append.mp hx with h | h
      · exact List.mem_append.mpr (.inl h)
      · exact List.mem_append.mpr (.inr (.tail _ h))
    have := len_le R (l := l) (r := r1 ++ r2) nd' (fun x hx => by
      obtain ⟨y, hy, hxy⟩ := tot x (.tail _ hx)
      rcases List.mem_append.mp hy with h | h
      · exact ⟨y, List.mem_append.mpr (.inl h), hxy⟩
      · rcases List.mem_cons.mp h with rfl | h
        · exact absurd (inj x (.tail _ hx) a (.head _) y hb hxy hab ▸ hx) na
        · exact ⟨y, List.mem_append.mpr (.inr h), hxy⟩) (fun x hx x' hx' y hy => inj x (.tail _ hx) x' (.tail _ hx') y (sub y hy))
    simp only [List.length_append, List.length_cons] at this ⊢
    omega
section
variable {F W : Nat → Nat} {m c : Nat}
theorem thr_iter (hw : W c < 3) {e g : Nat} (t : Through F c (W c) e g) : ∃ k, iter (nextE F W) (k + 1) e = g ^^^ (W (g / 4) + 1) ∧ ∀ i, 0 < i → i ≤ k → iter (nextE F W) i e / 4 = c := by
  induction t with
  | @out e h => exact ⟨0, rfl, fun i h0 h1 => by omega⟩
  | @step e g h t ih =>
    obtain ⟨k, a, b⟩ := ih
    have e1 : nextE F W e = F e ^^^ (W c + 1) := by
      unfold nextE
      rw [h]
    have it : ∀ i, iter (nextE F W) (i + 1) e = iter (nextE F W) i (F e ^^^ (W c + 1)) := fun i => by
      rw [iter_add, ← e1]
      rfl
    refine ⟨k + 1, by rw [it]; exact a, fun i h0 h1 => ?_⟩
    obtain ⟨i, rfl⟩ : ∃ j, i = j + 1 := ⟨i - 1, by omega⟩
    rw [it]
    by_cases z : i = 0
    · subst z
      show (F e ^^^ (W c + 1)) / 4 = c
      rw [mate_block hw]
      exact h
    · exact b i (by omega) (by omega)
theorem up_xor {c x v : Nat} (hx : x / 4 ≠ c) (hv : v < 3) : upOf c (x ^^^ (v + 1)) = upOf c x ^^^ (v + 1) := by
  have b : (x ^^^ (v + 1)) / 4 = x / 4 := mate_block hv
  unfold upOf
  rw [b]
  by_cases h : c < x / 4
  · rw [if_pos h, if_pos h]
    have e1 : x = 4 * (x / 4) + x % 4 := by omega
    have e2 : x - 4 = 4 * (x / 4 - 1) + x % 4 := by omega
    rw [e2, xor_blk (by omega) (by omega)]
    have := xor_blk (c := x / 4) (r := x % 4) (w := v + 1) (by omega) (by omega)
    rw [← e1] at this
    rw [this]
    omega
  · rw [if_neg h, if_neg h]
def outB (c e : Nat) : Bool := decide (e / 4 ≠ c)
theorem outB_iff {c e : Nat} : outB c e = true ↔ e / 4 ≠ c := by
  unfold outB
  exact decide_eq_true_iff
/-- a yard's far ends, and those when a crossing is sewn out -/
structure Sewn (F W G V : Nat → Nat) (m c : Nat) : Prop where
  I : Inv2 F m
  hW : ∀ d, d < m → W d < 3
  hc : c < m
  O : Open F c (W c)
  J : Inv2 G (m - 1)
  hV : ∀ d, d < m - 1 → V d < 3
  far : ∀ e, e < 4 * m → e / 4 ≠ c → G (upOf c e) = upOf c (behindF F c (W c) e)
  way : ∀ e, e < 4 * m → e / 4 ≠ c → V (upOf c e / 4) = W (e / 4)
variable {G V : Nat → Nat}
theorem Sewn.next (S : Sewn F W G V m c) {e : Nat} (he : e < 4 * m) (ho : e / 4 ≠ c) : ∃ g, Through F c (W c) e g ∧ g < 4 * m ∧ g / 4 ≠ c ∧ G (upOf c e) = upOf c g ∧ nextE G V (upOf c e) = upOf c (g ^^^ (W (g / 4) + 1)) ∧ (g ^^^ (W (g / 4) + 1)) < 4 * m ∧ (g ^^^ (W (g / 4) + 1)) / 4 ≠ c := by
  obtain ⟨b1, b2, b3⟩ := behind_is S.I S.hc (S.hW _ S.hc) S.O he ho
  have hw := S.hW (behindF F c (W c) e / 4) (by omega)
  have mb : (behindF F c (W c) e ^^^ (W (behindF F c (W c) e / 4) + 1)) / 4 = behindF F c (W c) e / 4 := mate_block hw
  refine ⟨_, through_of _ _ _ b1, b2, b3, S.far e he ho, ?_, by omega, by rw [mb]; exact b3⟩
  unfold nextE
  rw [S.far e he ho, S.way _ b2 b3, up_xor b3 hw]
theorem Sewn.walk (S : Sewn F W G V m c) {s : Nat} (hs : s < 4 * m) (ho : s / 4 ≠ c) : ∀ j, ∃ K d, j ≤ K ∧ iter (nextE F W) K s = d ∧ d < 4 * m ∧ d / 4 ≠ c ∧ upOf c d = iter (nextE G V) j (upOf c s) ∧ ((rnd (nextE F W) s K).filter (outB c)).map (upOf c) = rnd (nextE G V) (upOf c s) j
  | 0 => ⟨0, s, Nat.le_refl _, rfl, hs, ho, rfl, rfl⟩
  | j + 1 => by
    obtain ⟨K, d, hK, e1, d1, d2, e2, e3⟩ := S.walk hs ho j
    obtain ⟨g, t, g1, g2, _, e4, g3, g4⟩ := S.next d1 d2
    obtain ⟨k, e5, hin⟩ := thr_iter (S.hW _ S.hc) t
    have all : ∀ i, i ≤ k → ((rnd (nextE F W) s (K + i + 1)).filter (outB c)).map (upOf c) = rnd (nextE G V) (upOf c s) (j + 1) := fun i => by
      induction i with
      | zero =>
        intro _
        rw [Nat.add_zero, rnd_snoc, e1, List.filter_append, List.map_append, e3, rnd_snoc, ← e2]
        congr 1
        rw [List.filter_cons_of_pos (outB_iff.mpr d2)]
        rfl
      | succ i ih =>
        intro hi
        rw [show K + (i + 1) + 1 = (K + i + 1) + 1 by omega, rnd_snoc, List.filter_append, List.map_append, ih (by omega)]
        have e6 : iter (nextE F W) (K + i + 1) s = iter (nextE F W) (i + 1) d := by
          rw [show K + i + 1 = (i + 1) + K by omega, iter_add, e1]
        have : (outB c (iter (nextE F W) (K + i + 1) s)) = false := by
          rw [e6]
          unfold outB
          exact decide_eq_false (fun z => z (hin (i + 1) (by omega) hi))
        rw [List.filter_cons_of_neg (by rw [this]; exact Bool.false_ne_true)]
        simp
    refine ⟨K + k + 1, g ^^^ (W (g / 4) + 1), by omega, ?_, g3, g4, ?_, all k (Nat.le_refl _)⟩
    · rw [show K + k + 1 = (k + 1) + K by omega, iter_add, e1, e5]
    · show _ = nextE G V (iter (nextE G V) j (upOf c s))
      rw [← e2, e4]
theorem rnd_head {f : Nat → Nat} {s k : Nat} (h : 0 < k) : rnd f s k = s :: (List.range (k - 1)).map fun i => iter f (i + 1) s := by
  obtain ⟨k, rfl⟩ : ∃ j, k = j + 1 := ⟨k - 1, by omega⟩
  unfold rnd
  rw [List.range_succ_eq_map, List.map_cons, List.map_map, Nat.add_sub_cancel]
  rfl
theorem Sewn.per (S : Sewn F W G V m c) {s k : Nat} (hs : s < 4 * m) (ho : s / 4 ≠ c) (a : Per (nextE G V) (upOf c s) k) : ∃ K, Per (nextE F W) s K ∧ ((rnd (nextE F W) s K).filter (outB c)).map (upOf c) = rnd (nextE G V) (upOf c s) k := by
  obtain ⟨K, d, hK, e1, d1, d2, e2, e3⟩ := S.walk hs ho k
  have pos := a.pos
  refine ⟨K, ⟨by omega, ?_, fun i h0 h1 h => ?_⟩, e3⟩
  · rw [a.back] at e2
    rw [e1]
    exact up_inj d2 ho e2
  · rw [rnd_head (by omega : 0 < K), rnd_head pos, List.filter_cons_of_pos (outB_iff.mpr ho), List.map_cons] at e3
    have e4 := (List.cons.inj e3).2
    have m1 : upOf c s ∈ (((List.range (K - 1)).map fun i => iter (nextE F W) (i + 1) s).filter (outB c)).map (upOf c) := List.mem_map.mpr ⟨s, List.mem_filter.mpr ⟨List.mem_map.mpr ⟨i - 1, List.mem_range.mpr (by omega), by
      rw [show i - 1 + 1 = i by omega]
      exact h⟩, outB_iff.mpr ho⟩, rfl⟩
    rw [e4] at m1
    obtain ⟨j, hj, e5⟩ := List.mem_map.mp m1
    have hj := List.mem_range.mp hj
    exact a.first (j + 1) (by omega) (by omega) e5
theorem thr_on (I : Inv2 F m) (hW : ∀ d, d < m → W d < 3) {p : Nat × Nat} (hp : p.1 < 4 * m) (per : Per (nextE F W) p.1 p.2) (hc : c < m) {e g : Nat} (t : Through F c (W c) e g) : e < 4 * m → (On F W p e ↔ On F W p g) := by
  have fr : ∀ x, x < 4 * m → (On F W p (F x) ↔ On F W p x) := fun x hx => ⟨fun h => by
    have := h.far I (I.lt x hx)
    rw [I.inv x hx] at this
    exact this, fun h => h.far I hx⟩
  have mt : ∀ x, x < 4 * m → (On F W p (x ^^^ (W (x / 4) + 1)) ↔ On F W p x) := fun x hx => by
    have b : (x ^^^ (W (x / 4) + 1)) / 4 = x / 4 := mate_block (hW _ (by omega))
    refine ⟨fun h => ?_, fun h => h.mate I hW hp per hx⟩
    have := h.mate I hW hp per (by omega)
    rw [b, mate_mate] at this
    exact this
  induction t with
  | @out e h => exact fun he => (fr e he).symm
  | @step e g h t ih =>
    intro he
    have l := I.lt e he
    have b : (F e ^^^ (W c + 1)) / 4 = F e / 4 := mate_block (hW _ hc)
    have q := mt (F e) l
    rw [h] at q
    exact (fr e he).symm.trans (q.symm.trans (ih (by omega)))
theorem Sewn.on (S : Sewn F W G V m c) {s k K : Nat} (hs : s < 4 * m) (ho : s / 4 ≠ c) (a : Per (nextE G V) (upOf c s) k) (b : Per (nextE F W) s K) (e : ((rnd (nextE F W) s K).filter (outB c)).map (upOf c) = rnd (nextE G V) (upOf c s) k) {y : Nat} (hy : y < 4 * m) (yo : y / 4 ≠ c) : On F W (s, K) y ↔ On G V (upOf c s, k) (upOf c y) := by
  have hus : upOf c s < 4 * (m - 1) := up_lt S.hc hs ho
  have mem : ∀ {z}, z / 4 ≠ c → (z ∈ rnd (nextE F W) s K ↔ upOf c z ∈ rnd (nextE G V) (upOf c s) k) := fun {z} zo => by
    rw [← e]
    constructor
    · exact fun h => List.mem_map.mpr ⟨z, List.mem_filter.mpr ⟨h, outB_iff.mpr zo⟩, rfl⟩
    · intro h
      obtain ⟨z', h1, h2⟩ := List.mem_map.mp h
      obtain ⟨h3, h4⟩ := List.mem_filter.mp h1
      rw [← up_inj (outB_iff.mp h4) zo h2]
      exact h3
  obtain ⟨g, t, g1, g2, eg, _⟩ := S.next hy yo
  constructor
  · rintro (h | h)
    · exact .inl ((mem yo).mp h)
    · have n1 := rnd_next (F := F) (W := W) (s, K) b h
      have e2 : nextE F W (F y) = y ^^^ (W (y / 4) + 1) := by
        unfold nextE
        rw [S.I.inv y hy]
      rw [e2] at n1
      have hw := S.hW (y / 4) (by omega)
      have mb : (y ^^^ (W (y / 4) + 1)) / 4 = y / 4 := mate_block hw
      have n2 := (mem (by rw [mb]; exact yo)).mp n1
      rw [up_xor yo hw, ← S.way y hy yo] at n2
      have lu := up_lt S.hc hy yo
      have hv := S.hV (upOf c y / 4) (by omega)
      have mb' : (upOf c y ^^^ (V (upOf c y / 4) + 1)) / 4 = upOf c y / 4 := mate_block hv
      have := On.mate S.J S.hV (p := (upOf c s, k)) hus a (e := upOf c y ^^^ (V (upOf c y / 4) + 1)) (by omega) (.inl n2)
      rw [mb', mate_mate] at this
      exact this
  · rintro (h | h)
    · exact .inl ((mem yo).mpr h)
    · have h : G (upOf c y) ∈ rnd (nextE G V) (upOf c s) k := h
      rw [eg] at h
      exact (thr_on S.I S.hW (p := (s, K)) hs b S.hc t hy).mpr (.inl ((mem g2).mpr h))
end
end One
end P_M50

section P_M51
set_option linter.all false
set_option maxRecDepth 100000
set_option maxHeartbeats 4000000
/-! As many rounds are left. -/
namespace One
section
variable {F W G V : Nat → Nat} {m c : Nat}
theorem thr_some {ps : List (Nat × Nat)} {w : Nat} (L : Lines m ps) (Wh : Whole m ps) (h2 : 2 ≤ m) (hc : c < m) (hw : w < 3) (O : Open (far ps) c w) {e : Nat} (he : e / 4 = c) : ∃ g, Through (far ps) c w e g ∧ g < 4 * m ∧ g / 4 ≠ c := by
  have I := far_inv L
  have some_ : ∃ g, Through (far ps) c w e g := by
    by_cases h1 : far ps e / 4 = c
    · have l1 := I.lt e (by omega)
      have i1 := I.inv e (by omega)
      have n1 := I.ne e (by omega)
      have b : (far ps e ^^^ (w + 1)) / 4 = far ps e / 4 := mate_block hw
      have o1 := O e he
      generalize hx : far ps e ^^^ (w + 1) = x at b
      have xb : x / 4 = c := by omega
      by_cases h2' : far ps x / 4 = c
      · exfalso
        have i2 := I.inv x (by omega)
        have n2 := I.ne x (by omega)
        have x1 : x ≠ e := fun z => o1 (by
          have r := congrArg (fun t => t ^^^ (w + 1)) (hx.trans z)
          rw [mate_mate] at r
          exact r)
        have x2 : x ≠ far ps e := fun z => by
          have := O (far ps e) h1
          have k : far ps e ^^^ (w + 1) ≠ far ps e := by
            intro q
            have : far ps e ^^^ (w + 1) ^^^ far ps e = 0 := by rw [q, Nat.xor_self]
            rw [Nat.xor_comm (far ps e), Nat.xor_assoc, Nat.xor_self, Nat.xor_zero] at this
            omega
          exact k (hx.trans z)
        have f1 : far ps x ≠ e := fun z => x2 (by rw [← z, i2])
        have f2 : far ps x ≠ far ps e := fun z => x1 (by rw [← i2, z, i1])
        have all : ∀ y, y / 4 = c → far ps y / 4 = c := fun y hy => by
          have : y = e ∨ y = far ps e ∨ y = x ∨ y = far ps x := by omega
          rcases this with rfl | rfl | rfl | rfl
          · exact h1
          · rw [i1]; exact he
          · exact h2'
          · rw [i2]; exact xb
        have cl : ∀ d, d < m → d = c := fun d hd => Wh.from (P := fun d => d = c) (fun p hp => by
          obtain ⟨a1, a2⟩ := far_of L.nd hp
          constructor
          · intro q
            have := all p.1 q
            rw [a1] at this
            exact this
          · intro q
            have := all p.2 q
            rw [a2] at this
            exact this) hc rfl hd
        have a0 := cl 0 (by omega)
        have a1 := cl 1 (by omega)
        omega
      · exact ⟨_, .step h1 (by rw [hx]; exact .out h2')⟩
    · exact ⟨_, .out h1⟩
  obtain ⟨g, t⟩ := some_
  exact ⟨g, t, through_lt I hc hw t (by omega)⟩
/-- each end comes, through the crossing, to one outside -/
def Outs (F W : Nat → Nat) (m c : Nat) : Prop := ∀ e, e < 4 * m → e / 4 = c → ∃ g, Through F c (W c) e g ∧ g < 4 * m ∧ g / 4 ≠ c
theorem rounds_nodup {n : Nat} {rs : List (Nat × Nat)} (R : Rounds F W n rs) : rs.Nodup := R.up.imp fun h e => by
  subst e
  omega
theorem Sewn.out (S : Sewn F W G V m c) (T : Outs F W m c) {rs : List (Nat × Nat)} (R : Rounds F W m rs) {p : Nat × Nat} (hp : p ∈ rs) : ∃ e, e < 4 * m ∧ e / 4 ≠ c ∧ On F W p e := by
  obtain ⟨p1, pp⟩ := R.per p hp
  by_cases h : p.1 / 4 = c
  · obtain ⟨g, t, g1, g2⟩ := T p.1 p1 h
    exact ⟨g, g1, g2, (thr_on S.I S.hW p1 pp S.hc t p1).mp (.inl (self_rnd pp))⟩
  · exact ⟨p.1, p1, h, .inl (self_rnd pp)⟩
theorem Sewn.same (S : Sewn F W G V m c) {rs rs' : List (Nat × Nat)} (R : Rounds F W m rs) (R' : Rounds G V (m - 1) rs') {p p' : Nat × Nat} (hp : p ∈ rs) (hp' : p' ∈ rs') {e : Nat} (he : e < 4 * m) (ho : e / 4 ≠ c) (h : On F W p e) (h' : On G V p' (upOf c e)) {y : Nat} (hy : y < 4 * m) (yo : y / 4 ≠ c) : On F W p y ↔ On G V p' (upOf c y) := by
  have lu := up_lt S.hc he ho
  obtain ⟨k, a, _⟩ := (next_goes S.J S.hV).per lu
  obtain ⟨K, b, q⟩ := S.per he ho a
  obtain ⟨p1, pp⟩ := R.per p hp
  obtain ⟨p1', pp'⟩ := R'.per p' hp'
  rw [On.same S.I S.hW p1 pp he b h hy, On.same S.J S.hV p1' pp' lu a h' (up_lt S.hc hy yo)]
  exact S.on he ho a b q hy yo
theorem Sewn.count (S : Sewn F W G V m c) (T : Outs F W m c) {rs rs' : List (Nat × Nat)} (R : Rounds F W m rs) (R' : Rounds G V (m - 1) rs') : rs.length = rs'.length := by
  refine Nat.le_antisymm ?_ ?_
  · refine len_le (fun p p' => ∃ e, e < 4 * m ∧ e / 4 ≠ c ∧ On F W p e ∧ On G V p' (upOf c e)) (rounds_nodup R) (fun p hp => ?_) (fun p hp q hq p' hp' => ?_)
    · obtain ⟨e, he, ho, h⟩ := S.out T R hp
      obtain ⟨p', hp', h'⟩ := R'.all _ (up_lt S.hc he ho)
      exact ⟨p', hp', e, he, ho, h, h'⟩
    · rintro ⟨e, he, ho, h, h'⟩ ⟨e2, he2, ho2, k, k'⟩
      exact On.one S.I R hp hq he2 ((S.same R R' hp hp' he ho h h' he2 ho2).mpr k') k
  · refine len_le (fun p' p => ∃ e, e < 4 * m ∧ e / 4 ≠ c ∧ On F W p e ∧ On G V p' (upOf c e)) (rounds_nodup R') (fun p' hp' => ?_) (fun p' hp' q' hq' p hp => ?_)
    · obtain ⟨p1', pp'⟩ := R'.per p' hp'
      obtain ⟨e, he, ho, eu⟩ := up_onto S.hc p1'
      obtain ⟨p, hp, h⟩ := R.all e he
      exact ⟨p, hp, e, he, ho, h, by rw [eu]; exact .inl (self_rnd pp')⟩
    · rintro ⟨e, he, ho, h, h'⟩ ⟨e2, he2, ho2, k, k'⟩
      exact On.one S.J R' hp' hq' (up_lt S.hc he2 ho2) ((S.same R R' hp hp' he ho h h' he2 ho2).mp k) k'
end
end One
end P_M51

section P_Y1
set_option linter.all false
set_option maxRecDepth 100000
set_option maxHeartbeats 8000000
namespace One
open PySem PySem.Spec PyProof.Rows L2
abbrev sEA : Stmt := top 37
abbrev sRF : Stmt := top 36
abbrev sRB : Stmt := top 35
abbrev nEA : List Str := ["fars", "setting", "end", "come_to"]
abbrev nRF : List Str := ["fars", "setting", "start", "ends", "end"]
abbrev nRB : List Str := ["fars", "setting", "rounds", "gone", "start", "ends", "end"]
theorem scEA : FnScope nEA ["fars", "setting", "end"] (defScope sEA) := ⟨rfl, rfl, rfl, by decide +kernel, rfl, by decide +kernel, by decide +kernel⟩
theorem scRF : FnScope nRF ["fars", "setting", "start"] (defScope sRF) := ⟨rfl, rfl, rfl, by decide +kernel, rfl, by decide +kernel, by decide +kernel⟩
theorem scRB : FnScope nRB ["fars", "setting"] (defScope sRB) := ⟨rfl, rfl, rfl, by decide +kernel, rfl, by decide +kernel, by decide +kernel⟩
/-- a setting of n crossings at t -/
structure SetAt (H : Hp) (t : Addr) (n : Nat) (ws : List Nat) : Prop where
  len : ws.length = n
  lt : ∀ x ∈ ws, x < 3
  here : H t = some (.tup (nats ws))
theorem SetAt.mono {H H' : Hp} {t : Addr} {n : Nat} {ws : List Nat} (h : SetAt H t n ws) (k : ∀ b xs, H b = some (.tup xs) → H' b = some (.tup xs)) : SetAt H' t n ws := ⟨h.len, h.lt, k _ _ h.here⟩
/-- the way at each crossing -/
def wayL (ws : List Nat) : Nat → Nat := fun c => ws.getD c 0
theorem SetAt.ways {H : Hp} {t : Addr} {n : Nat} {ws : List Nat} (h : SetAt H t n ws) : ∀ c, c < n → wayL ws c < 3 := fun c hc => by
  have hl : c < ws.length := by rw [h.len]; exact hc
  unfold wayL
  rw [List.getD_eq_getElem?_getD, List.getElem?_eq_getElem hl]
  exact h.lt _ (List.getElem_mem hl)
theorem SetAt.at_ {H : Hp} {t : Addr} {n : Nat} {ws : List Nat} (h : SetAt H t n ws) {c : Nat} (hc : c < n) : ws[c]? = some (wayL ws c) := by
  have hl : c < ws.length := by rw [h.len]; exact hc
  unfold wayL
  rw [List.getD_eq_getElem?_getD, List.getElem?_eq_getElem hl]
  rfl
def spEA : Sp := fun vs H Q _ => ∃ (L t : Addr) (F : Nat → Nat) (n e : Nat) (ws : List Nat), vs = [.ref L, .ref t, .int (e : Nat)] ∧ H L = some (.lst (farL F n)) ∧ SetAt H t n ws ∧ Inv2 F n ∧ e < 4 * n ∧ Q (.int (nextE F (wayL ws) e : Nat)) H
def spRF : Sp := fun vs H Q _ => ∃ (L t : Addr) (F : Nat → Nat) (n s : Nat) (ws : List Nat), vs = [.ref L, .ref t, .int (s : Nat)] ∧ H L = some (.lst (farL F n)) ∧ SetAt H t n ws ∧ Inv2 F n ∧ n ≤ 100 ∧ s < 4 * n ∧
  ∀ (H' : Hp) (u : Addr) (k : Nat), Same H H' → Per (nextE F (wayL ws)) s k → H' u = some (.tup (nats (rnd (nextE F (wayL ws)) s k))) → Q (.ref u) H'
/-- rounds in tuples -/
inductive RsAt (f : Nat → Nat) (H : Hp) : List Addr → List (Nat × Nat) → Prop
  | nil : RsAt f H [] []
  | cons {a p as ps} : H a = some (.tup (nats (rnd f p.1 p.2))) → RsAt f H as ps → RsAt f H (a :: as) (p :: ps)
theorem RsAt.len {f : Nat → Nat} {H : Hp} {as : List Addr} {ps : List (Nat × Nat)} (h : RsAt f H as ps) : as.length = ps.length := by
  induction h with
  | nil => rfl
  | cons _ _ ih => simp [ih]
theorem RsAt.mono {f : Nat → Nat} {H H' : Hp} {as : List Addr} {ps : List (Nat × Nat)} (h : RsAt f H as ps) (k : ∀ b xs, H b = some (.tup xs) → H' b = some (.tup xs)) : RsAt f H' as ps := by
  induction h with
  | nil => exact .nil
  | cons h1 _ ih => exact .cons (k _ _ h1) ih
theorem RsAt.app {f : Nat → Nat} {H : Hp} {as bs : List Addr} {ps qs : List (Nat × Nat)} (h : RsAt f H as ps) (k : RsAt f H bs qs) : RsAt f H (as ++ bs) (ps ++ qs) := by
  induction h with
  | nil => exact k
  | cons h1 _ ih => exact .cons h1 ih
def spRB : Sp := fun vs H Q _ => ∃ (L t : Addr) (F : Nat → Nat) (n : Nat) (ws : List Nat), vs = [.ref L, .ref t] ∧ H L = some (.lst (farL F n)) ∧ SetAt H t n ws ∧ Inv2 F n ∧ n ≤ 100 ∧
  ∀ (H' : Hp) (u : Addr) (as : List Addr) (rs : List (Nat × Nat)), Same H H' → H' u = some (.tup (refs as)) → RsAt (nextE F (wayL ws)) H' as rs → Rounds F (wayL ws) n rs → Q (.ref u) H'
section
variable {P : Program} {w : World} {K : PySem.W.Frag} {mg : Str → Option Value} {base : Heap}
theorem ok_ea {f fM : Addr} {fd fdM : FuncData} (F : Fun K "end_after" "end_after" sEA f fd) (C : TC mg) (Ma : Cal K mg "mate" fM fdM ["end", "way"]) (GM : FnOk P w K mg base CX0 1 fM fdM ["end", "way"] spMate) : FnOk P w K mg base CX0 2 f fd ["fars", "setting", "end"] spEA := by
  refine F.ok scEA (fun vs H Q E h => ?_) (fun cdv A outer s H vs Q E hr h => ?_)
  · obtain ⟨L, t, F, n, e, ws, rfl, _⟩ := h
    rfl
  · obtain ⟨L, t, F, n, e, ws, rfl, hL, hS, I, he, k⟩ := h
    have nd := scEA.nd
    have hr1 : Room 1 _ := hr
    obtain ⟨t4, ht4⟩ := C.places
    refine ⟨_, pss_cons (ps_set (i := 3) nd rfl (Or.inl rfl) (pe_ix ix_list (pv 0) (pv 2) (fun _ _ => rfl)))
      (pss_one (ps_ret (pe_call GM hr1 rfl Ma.g Ma.kp Ma.b .nil pass0 (pa_cons (pv 3) (pa_cons (pe_ix ix_tup (pv 1) (pe_op op_fdiv (pv 3) (pe_glob (v := .int 4) rfl ht4 ⟨_, rfl⟩)) (fun _ _ => rfl)) pa_nil))))), ?_⟩
    have hF := I.lt e he
    have e4 : ((F e : Nat) : Int) / 4 = ((F e / 4 : Nat) : Int) := by omega
    refine ⟨_, rfl, _, rfl, L, _, _, V.int (F e : Nat), rfl, rfl, SqL.of hL, at_of (j := e) rfl (farL_at he), ?_⟩
    refine ⟨_, rfl, _, rfl, _, rfl, _, _, rfl, rfl, ⟨by decide, by decide⟩, t, _, _, V.int (wayL ws (F e / 4) : Nat), rfl, rfl, SqT.of hS.here, at_of (j := F e / 4) e4 (nats_at (hS.at_ (by omega))), F e, wayL ws (F e / 4), rfl, k⟩
theorem ok_rf {f fE : Addr} {fd fdE : FuncData} (F : Fun K "round_from" "round_from" sRF f fd) (T : TB mg) (Ea : Cal K mg "end_after" fE fdE ["fars", "setting", "end"]) (GE : FnOk P w K mg base CX0 2 fE fdE ["fars", "setting", "end"] spEA) : FnOk P w K mg base CX0 3 f fd ["fars", "setting", "start"] spRF := by
  refine F.ok scRF (fun vs H Q E h => ?_) (fun cdv A outer s H vs Q E hr h => ?_)
  · obtain ⟨L, t, F, n, s, ws, rfl, _⟩ := h
    rfl
  · obtain ⟨L, t, F, n, st, ws, rfl, hL, hS, I, hn, hs, k⟩ := h
    have nd := scRF.nd
    have hr2 : Room 2 _ := hr
    have G := next_goes I hS.ways
    obtain ⟨kk, per, hk⟩ := G.per hs
    have kpos := per.pos
    refine ⟨_, pss_cons (ps_set (i := 3) nd rfl (Or.inl rfl) (pe_lst (pa_cons (pv 2) pa_nil)))
      (C8.pss_cut (ps_set (i := 4) nd rfl (Or.inl rfl) (pe_call GE hr2 rfl Ea.g Ea.kp Ea.b .nil pass0 (pa_cons (pv 0) (pa_cons (pv 1) (pa_cons (pv 2) pa_nil)))))
      (pss_cons (ps_while PassesOwn.never (pt_cmpR op_ne (pv 4) (pv 2) (nomark _))
        (pss_cons (ps_expr (pe_bm PySem.F.plainAttrs_list PySem.F.slot_list_append PySem.F.type_list_append mt_append (pv 3) (pa_cons (pv 4) pa_nil)))
      (pss_one (ps_set (i := 4) nd rfl (Or.inl rfl) (pe_call GE hr2 rfl Ea.g Ea.kp Ea.b .nil pass0 (pa_cons (pv 0) (pa_cons (pv 1) (pa_cons (pv 4) pa_nil))))))))
      (pss_one (ps_ret (pe_tupleOf (by rfl) T.tuple (pv 3)))))), ?_⟩
    refine ⟨_, rfl, (by show 1 ≤ sizeLine; decide), fun D hD => ?_⟩
    have sD := Same.new (o := .lst [V.int (st : Nat)]) hD
    refine ⟨fun σ H2 => σ = [some (.ref L), some (.ref t), some (.int (st : Nat)), some (.ref D), some (.int (iter (nextE F (wayL ws)) 1 st : Nat))] ∧ H2 D = some (.lst (nats (rnd (nextE F (wayL ws)) st 1))) ∧ Same H H2, ?_, ?_⟩
    · exact ⟨_, rfl, _, rfl, _, rfl, L, t, F, n, st, ws, rfl, sD _ _ hL, hS.mono (sameT sD), I, hs, rfl, upd_same, sD⟩
    · rintro σ0 H0 ⟨rfl, h0, s0⟩
      unfold tSeq
      refine while_by (fun σ H2 => ∃ i, i < kk ∧ σ = [some (.ref L), some (.ref t), some (.int (st : Nat)), some (.ref D), some (.int (iter (nextE F (wayL ws)) (i + 1) st : Nat))] ∧ H2 D = some (.lst (nats (rnd (nextE F (wayL ws)) st (i + 1)))) ∧ Same H H2)
        (fun σ H2 => kk - (match H2 D with
          | some (.lst xs) => xs.length
          | _ => 0)) ⟨0, kpos, rfl, h0, s0⟩ ?_ ?_
      · rintro σ H2 ⟨i, hi, rfl, h2, s2⟩
        have mu : (match H2 D with
          | some (.lst xs) => xs.length
          | _ => 0) = i + 1 := by
          rw [h2]
          show (nats _).length = _
          rw [List.length_map, rnd_len]
        refine ⟨_, rfl, _, rfl, rfl, _, rfl, ?_⟩
        by_cases hb : iter (nextE F (wayL ws)) (i + 1) st = st
        · have e1 : kk = i + 1 := by
            rcases Nat.lt_or_ge (i + 1) kk with h | h
            · exact absurd hb (per.first (i + 1) (by omega) h)
            · omega
          rw [show (!decide (V.int (iter (nextE F (wayL ws)) (i + 1) st : Nat) = V.int (st : Nat))) = false by rw [hb, decide_eq_true rfl]; rfl]
          refine iteF ⟨_, rfl, .inl ⟨D, _, rfl, SqL.of h2, fun u hu => ?_⟩⟩
          have su := Same.new (o := .tup (nats (rnd (nextE F (wayL ws)) st (i + 1)))) hu
          exact k _ u kk (s2.trans su) per (by rw [upd_same, e1])
        · have hlt : i + 1 < kk := by
            rcases Nat.lt_or_ge (i + 1) kk with h | h
            · exact h
            · have : kk = i + 1 := by omega
              rw [← this] at hb
              exact absurd per.back hb
          have ne : ¬ (V.int (iter (nextE F (wayL ws)) (i + 1) st : Nat) = V.int (st : Nat)) := fun z => hb (by have := V.int.inj z; omega)
          rw [show (!decide (V.int (iter (nextE F (wayL ws)) (i + 1) st : Nat) = V.int (st : Nat))) = true by rw [decide_eq_false ne]; rfl]
          refine iteT ⟨_, rfl, .inl ⟨rfl, _, SqL.of h2⟩, _, rfl, D, _, _, rfl, rfl, h2, small1000 (by rw [List.length_map, rnd_len]; omega), ?_⟩
          have s3 : Same H (upd H2 D (.lst (nats (rnd (nextE F (wayL ws)) st (i + 1)) ++ [V.int (iter (nextE F (wayL ws)) (i + 1) st : Nat)]))) := fun b o e => by
            rw [upd_ne (ne_of_none e hD)]
            exact s2 _ _ e
          have h3 : (upd H2 D (.lst (nats (rnd (nextE F (wayL ws)) st (i + 1)) ++ [V.int (iter (nextE F (wayL ws)) (i + 1) st : Nat)]))) D = some (.lst (nats (rnd (nextE F (wayL ws)) st (i + 1 + 1)))) := by
            rw [upd_same, rnd_snoc _ _ (i + 1), nats_app (rnd _ _ (i + 1))]
            rfl
          refine ⟨_, rfl, _, rfl, _, rfl, L, t, F, n, _, ws, rfl, s3 _ _ hL, hS.mono (sameT s3), I, G.iter_lt hs (i + 1), ⟨i + 1, hlt, rfl, h3, s3⟩, ?_⟩
          rw [mu, h3]
          show kk - (nats _).length < _
          rw [List.length_map, rnd_len]
          omega
      · intro σ H1 Q1 Q2 hq h
        obtain ⟨v, e1, v2, e2, e3, kk', h5, q⟩ := h
        exact ⟨v, e1, v2, e2, e3, kk', h5, hq _ _ q⟩
end
end One
end P_Y1

section P_Y2
set_option linter.all false
set_option maxRecDepth 100000
set_option maxHeartbeats 8000000
namespace One
open PySem PySem.Spec PyProof.Rows L2
/-- what is told as gone -/
def GoneL (F W : Nat → Nat) (n : Nat) (rs : List (Nat × Nat)) (xs : List Nat) (g : List Bool) : Prop := g.length = 4 * n ∧ ∀ e, e < 4 * n → (g[e]? = some true ↔ Gone F W rs e ∨ ∃ x ∈ xs, e = x ∨ e = F x)
theorem GoneL.step {F W : Nat → Nat} {n x : Nat} {rs : List (Nat × Nat)} {xs : List Nat} {g : List Bool} (h : GoneL F W n rs xs g) (hx : x < 4 * n) (hF : F x < 4 * n) : GoneL F W n rs (xs ++ [x]) ((g.set x true).set (F x) true) := by
  obtain ⟨l, k⟩ := h
  refine ⟨by rw [List.length_set, List.length_set, l], fun e he => ?_⟩
  have hs : ((g.set x true).set (F x) true)[e]? = some true ↔ e = F x ∨ e = x ∨ g[e]? = some true := by
    by_cases h1 : F x = e
    · subst h1
      rw [List.getElem?_set_self (by rw [List.length_set, l]; exact hF)]
      simp
    · rw [List.getElem?_set_ne h1]
      by_cases h2 : x = e
      · subst h2
        rw [List.getElem?_set_self (by rw [l]; exact hx)]
        simp
      · rw [List.getElem?_set_ne h2]
        refine ⟨fun q => .inr (.inr q), fun q => ?_⟩
        rcases q with q | q | q
        · exact absurd q.symm h1
        · exact absurd q.symm h2
        · exact q
  rw [hs, k e he]
  constructor
  · rintro (q | q | q | ⟨y, hy, q⟩)
    · exact .inr ⟨x, by simp, .inr q⟩
    · exact .inr ⟨x, by simp, .inl q⟩
    · exact .inl q
    · exact .inr ⟨y, by simp [hy], q⟩
  · rintro (q | ⟨y, hy, q⟩)
    · exact .inr (.inr (.inl q))
    · rcases List.mem_append.mp hy with hy | hy
      · exact .inr (.inr (.inr ⟨y, hy, q⟩))
      · rw [List.mem_singleton.mp hy] at q
        rcases q with q | q
        · exact .inr (.inl q)
        · exact .inl q
theorem GoneL.done {F W : Nat → Nat} {n i k : Nat} {rs : List (Nat × Nat)} {g : List Bool} (I : Inv2 F n) (hW : ∀ c, c < n → W c < 3) (hi : i < 4 * n) (h : GoneL F W n rs (rnd (nextE F W) i k) g) : GoneL F W n (rs ++ [(i, k)]) [] g := by
  obtain ⟨l, q⟩ := h
  refine ⟨l, fun e he => (q e he).trans ?_⟩
  constructor
  · rintro (⟨p, hp, z⟩ | ⟨x, hx, z⟩)
    · exact .inl ⟨p, List.mem_append_left _ hp, z⟩
    · refine .inl ⟨(i, k), List.mem_append_right _ (List.mem_singleton.mpr rfl), ?_⟩
      rcases z with rfl | rfl
      · exact .inl hx
      · exact .inr (by
          show F (F x) ∈ _
          rw [I.inv x (rnd_lt I hW hi hx)]
          exact hx)
  · rintro (⟨p, hp, z⟩ | ⟨x, hx, _⟩)
    · rcases List.mem_append.mp hp with hp | hp
      · exact .inl ⟨p, hp, z⟩
      · rw [List.mem_singleton.mp hp] at z
        rcases z with z | z
        · exact .inr ⟨e, z, .inl rfl⟩
        · exact .inr ⟨F e, z, .inr (I.inv e he).symm⟩
    · exact absurd hx (by simp)
theorem bl_at {g : List Bool} {e : Nat} {b : Bool} (h : g[e]? = some b) : (g.map V.bl)[e]? = some (V.bl b) := by
  rw [List.getElem?_map, h]
  rfl
theorem bl_set (g : List Bool) (j : Nat) : (g.map V.bl).set j (V.bl true) = (g.set j true).map V.bl := (List.map_set).symm
section
variable {P : Program} {w : World} {K : PySem.W.Frag} {mg : Str → Option Value} {base : Heap}
theorem ok_rb {f fR : Addr} {fd fdR : FuncData} (F : Fun K "rounds_by_fars" "rounds_by_fars" sRB f fd) (T : TB mg) (Rf : Cal K mg "round_from" fR fdR ["fars", "setting", "start"]) (GR : FnOk P w K mg base CX0 3 fR fdR ["fars", "setting", "start"] spRF) : FnOk P w K mg base CX0 4 f fd ["fars", "setting"] spRB := by
  refine F.ok scRB (fun vs H Q E h => ?_) (fun cdv A outer s H vs Q E hr h => ?_)
  · obtain ⟨L, t, F, n, ws, rfl, _⟩ := h
    rfl
  · obtain ⟨L, t, F, n, ws, rfl, hL, hS, I, hn, k⟩ := h
    have nd := scRB.nd
    have hr3 : Room 3 _ := hr
    have hW := hS.ways
    refine ⟨_, pss_cons (ps_set (i := 2) nd rfl (Or.inl rfl) (pe_lst pa_nil))
      (pss_cons (ps_set (i := 3) nd rfl (Or.inl rfl) (pe_op op_rep (pe_lst (pa_cons pe_bl pa_nil)) (pe_callB call_len_seq (by rfl) T.len PySem.boot_len (pa_cons (pv 0) pa_nil))))
      (pss_cons (ps_for PassesOwn.never rfl (pi_range1 (by rfl) T.range (pa_cons (pe_callB call_len_seq (by rfl) T.len PySem.boot_len (pa_cons (pv 0) pa_nil)) pa_nil)) (pg_name (i := 4) nd rfl (Or.inl rfl))
        (pss_one (ps_if (pt_not (pt_val (pe_ix ix_list (pv 3) (pv 4) (fun _ _ => rfl)))) (pss_cons (ps_set (i := 5) nd rfl (Or.inl rfl) (pe_call GR hr3 rfl Rf.g Rf.kp Rf.b .nil pass0 (pa_cons (pv 0) (pa_cons (pv 1) (pa_cons (pv 4) pa_nil)))))
      (pss_cons (ps_for PassesOwn.never rfl (pi_tup (pv 5)) (pg_name (i := 6) nd rfl (Or.inl rfl))
        (pss_one (ps_asg2 pe_bl (pg_sub (pv 3) (pv 6) set_list) (pg_sub (pv 3) (pe_ix ix_list (pv 0) (pv 6) (fun _ _ => rfl)) set_list))))
      (pss_one (ps_expr (pe_bm PySem.F.plainAttrs_list PySem.F.slot_list_append PySem.F.type_list_append mt_append (pv 2) (pa_cons (pv 5) pa_nil)))))) pss_nil)))
      (pss_one (ps_ret (pe_tupleOf (by rfl) T.tuple (pv 2)))))), ?_⟩
    refine ⟨Nat.zero_le _, fun R hR => ?_⟩
    have s1 := Same.new (o := .lst []) hR
    refine ⟨by show 1 ≤ sizeLine; decide, fun l1 hl1 => ⟨_, rfl, L, _, rfl, .inl (SqL.of ((Same.new hl1) _ _ (s1 _ _ hL))), ?_⟩⟩
    have s2 := s1.trans (Same.new (o := .lst [V.bl false]) hl1)
    have lF : (farL F n).length = 4 * n := farL_len F n
    refine ⟨l1, _, _, rfl, rfl, upd_same, by omega, by omega, (by rw [lF]; show 1 * _ ≤ _; exact Nat.le_of_lt (small1000 (by omega))), fun Gn hGn => ?_⟩
    have eR : (List.replicate (((farL F n).length : Nat) : Int).toNat [V.bl false]).flatten = (List.replicate (4 * n) false).map V.bl := by
      rw [lF, show ((4 * n : Nat) : Int).toNat = 4 * n by omega, List.map_replicate]
      exact flat_rep _ _
    have s3 := s2.trans (Same.new (o := .lst (List.replicate (((farL F n).length : Nat) : Int).toNat [V.bl false]).flatten) hGn)
    have hG0 : H Gn = none := s2.free hGn
    have hRl : (upd (upd H R (.lst [])) l1 (.lst [V.bl false])) R = some (.lst []) := (Same.new hl1) _ _ upd_same
    have nRG : R ≠ Gn := ne_of_none hRl hGn
    have hR3 := (Same.new (o := .lst (List.replicate (((farL F n).length : Nat) : Int).toNat [V.bl false]).flatten) hGn) _ _ hRl
    have hG3 : (upd (upd (upd H R (.lst [])) l1 (.lst [V.bl false])) Gn (.lst (List.replicate (((farL F n).length : Nat) : Int).toNat [V.bl false]).flatten)) Gn = some (.lst ((List.replicate (4 * n) false).map V.bl)) := by rw [upd_same, eR]
    generalize upd (upd (upd H R (.lst [])) l1 (.lst [V.bl false])) Gn (.lst (List.replicate (((farL F n).length : Nat) : Int).toNat [V.bl false]).flatten) = H3 at s3 hR3 hG3 ⊢
    have hL3 := s3 _ _ hL
    refine ⟨_, rfl, L, _, rfl, .inl (SqL.of hL3), _, rfl, by rw [lF]; omega, by rw [lF]; omega, ?_⟩
    rw [lF, show ((4 * n : Nat) : Int).toNat = 4 * n by omega]
    refine for_range (lo := 0) (n := 4 * n) (fun i σ H' => ∃ (v4 v5 v6 : Option V) (as : List Addr) (rs : List (Nat × Nat)) (g : List Bool), σ = [some (.ref L), some (.ref t), some (.ref R), some (.ref Gn), v4, v5, v6] ∧ H' R = some (.lst (refs as)) ∧ RsAt (nextE F (wayL ws)) H' as rs ∧ RTo F (wayL ws) n i rs ∧
        H' Gn = some (.lst (g.map V.bl)) ∧ GoneL F (wayL ws) n rs [] g ∧ Same H H')
      ⟨none, none, none, [], [], List.replicate (4 * n) false, rfl, hR3, .nil, rto_nil, hG3, ⟨List.length_replicate, fun e he => ?_⟩, s3⟩ ?_ ?_
    · rw [List.getElem?_replicate, if_pos he]
      refine ⟨fun z => (by cases z), fun z => ?_⟩
      rcases z with ⟨p, hp, _⟩ | ⟨x, hx, _⟩
      · exact absurd hp (by simp)
      · exact absurd hx (by simp)
    · rintro i σ H4 hi ⟨v4, v5, v6, as, rs, g, rfl, hR4, hA4, R4, hG4, g4, s4⟩
      rw [Int.zero_add]
      obtain ⟨b, hb⟩ : ∃ b, g[i]? = some b := ⟨_, List.getElem?_eq_getElem (by rw [g4.1]; exact hi)⟩
      refine ⟨_, rfl, _, rfl, Gn, _, _, V.bl b, rfl, rfl, SqL.of hG4, at_of (j := i) rfl (bl_at hb), b, rfl, ?_⟩
      have gi := g4.2 i hi
      cases b with
      | true =>
        refine iteF ?_
        refine ⟨_, _, _, as, rs, g, rfl, hR4, hA4, R4.skip ?_, hG4, g4, s4⟩
        rcases gi.mp hb with z | ⟨x, hx, _⟩
        · exact z
        · exact absurd hx (by simp)
      | false =>
        have ng : ¬ Gone F (wayL ws) rs i := fun z => by
          rw [gi.mpr (.inl z)] at hb
          cases hb
        refine iteT ⟨_, rfl, _, rfl, _, rfl, L, t, F, n, i, ws, rfl, s4 _ _ hL, hS.mono (sameT s4), I, hn, hi, fun H5 u kk s5 per hu => ?_⟩
        have s05 := s4.trans s5
        refine ⟨_, rfl, u, rfl, ⟨_, SqT.of hu⟩, ?_⟩
        have rl : (nats (rnd (nextE F (wayL ws)) i kk)).length = kk := by rw [List.length_map, rnd_len]
        refine for_it (walk_tup (K := K) (a := u) (xs := nats (rnd (nextE F (wayL ws)) i kk))) (fun j σ H' => ∃ (v6' : Option V) (g' : List Bool), σ = [some (.ref L), some (.ref t), some (.ref R), some (.ref Gn), some (.int (i : Nat)), some (.ref u), v6'] ∧ H' R = some (.lst (refs as)) ∧ RsAt (nextE F (wayL ws)) H' as rs ∧
            H' u = some (.tup (nats (rnd (nextE F (wayL ws)) i kk))) ∧ H' Gn = some (.lst (g'.map V.bl)) ∧ GoneL F (wayL ws) n rs ((rnd (nextE F (wayL ws)) i kk).take j) g' ∧ Same H H')
          ⟨_, g, rfl, s5 _ _ hR4, hA4.mono (sameT s5), hu, s5 _ _ hG4, g4, s05⟩ (fun j σ H' _ ⟨_, _, _, _, _, h', _⟩ => SqT.of h') ?_ ?_
        · rintro j v σ H6 H7 hj ⟨v6', g', rfl, hR6, hA6, hu6, hG6, g6, s6⟩ ⟨rfl, hv⟩
          have hv : (nats (rnd (nextE F (wayL ws)) i kk))[j]? = some v := hv
          rw [rl] at hj
          have hjr : j < (rnd (nextE F (wayL ws)) i kk).length := by rw [rnd_len]; exact hj
          rw [List.getElem?_map, List.getElem?_eq_getElem hjr] at hv
          cases hv
          generalize hxe : (rnd (nextE F (wayL ws)) i kk)[j] = x
          have hx : (rnd (nextE F (wayL ws)) i kk)[j]? = some x := by rw [List.getElem?_eq_getElem hjr, hxe]
          have xl : x < 4 * n := rnd_lt I hW hi (List.mem_of_getElem? hx)
          have fl := I.lt x xl
          refine ⟨_, rfl, _, rfl, Gn, _, _, x, rfl, rfl, hG6, ix_nat (by rw [List.length_map, g6.1]; exact xl), ?_⟩
          rw [bl_set]
          have hL6 := s6 _ _ hL
          have s7 : ∀ (o : HO), Same H (upd H7 Gn o) := fun o b u' e => by
            rw [upd_ne (ne_of_none e hG0)]
            exact s6 _ _ e
          refine ⟨_, rfl, _, rfl, _, rfl, L, _, _, V.int (F x : Nat), rfl, rfl, SqL.of (s7 _ _ _ hL), at_of (j := x) rfl (farL_at xl), Gn, _, _, F x, rfl, rfl, upd_same, ix_nat (by rw [List.length_map, List.length_set, g6.1]; exact fl), ?_⟩
          rw [bl_set]
          have k8 : ∀ b o, b ≠ Gn → H7 b = some o → (upd (upd H7 Gn (.lst ((g'.set x true).map V.bl))) Gn (.lst (((g'.set x true).set (F x) true).map V.bl))) b = some o := fun b o hb e => by rw [upd_ne hb, upd_ne hb]; exact e
          have kT : ∀ b xs, H7 b = some (.tup xs) → (upd (upd H7 Gn (.lst ((g'.set x true).map V.bl))) Gn (.lst (((g'.set x true).set (F x) true).map V.bl))) b = some (.tup xs) := fun b xs e => k8 b _ (ne_of e hG6 (by intro z; cases z)) e
          refine ⟨_, _, rfl, k8 _ _ nRG hR6, hA6.mono kT, kT _ _ hu6, upd_same, ?_, fun b o e => k8 _ _ (ne_of_none e hG0) (s6 _ _ e)⟩
          rw [List.take_succ, hx, Option.toList_some]
          exact g6.step xl fl
        · rintro σ H6 ⟨v6', g', rfl, hR6, hA6, hu6, hG6, g6, s6⟩
          rw [rl, List.take_of_length_le (by rw [rnd_len]; exact Nat.le_refl _)] at g6
          refine ⟨_, rfl, .inl ⟨rfl, _, SqL.of hR6⟩, _, rfl, R, _, _, rfl, rfl, hR6, small1000 ?_, ?_⟩
          · rw [List.length_map, hA4.len]
            have nd2 : (rs.map (·.1)).Nodup := by
              unfold List.Nodup
              rw [List.pairwise_map]
              exact R4.up.imp fun h => Nat.ne_of_lt h
            have := pigeon i (rs.map (·.1)) nd2 fun x hx => by
              obtain ⟨p, hp, rfl⟩ := List.mem_map.mp hx
              exact R4.low p hp
            rw [List.length_map] at this
            omega
          · have k7 : ∀ b xs, H6 b = some (.tup xs) → (upd H6 R (.lst (refs as ++ [V.ref u]))) b = some (.tup xs) := fun b xs e => (upd_ne (ne_of e hR6 (by intro z; cases z))).trans e
            refine ⟨_, _, _, as ++ [u], rs ++ [(i, kk)], g', rfl, by rw [upd_same, refs_app]; rfl, (hA6.mono k7).app (.cons (k7 _ _ hu6) .nil), R4.more I hW hi ng per, (upd_ne (Ne.symm nRG)).trans hG6, g6.done I hW hi, fun b o e => ?_⟩
            rw [upd_ne (ne_of_none e hR)]
            exact s6 _ _ e
    · rintro σ H4 ⟨v4, v5, v6, as, rs, g, rfl, hR4, hA4, R4, hG4, g4, s4⟩
      refine ⟨_, rfl, .inl ⟨R, _, rfl, SqL.of hR4, fun u hu => ?_⟩⟩
      have su := Same.new (o := .tup (refs as)) hu
      exact k _ u as rs (s4.trans su) upd_same (hA4.mono (sameT su)) R4.done
end
end One
end P_Y2

section P_G1
set_option linter.all false
set_option maxRecDepth 100000
set_option maxHeartbeats 4000000
namespace One
open PySem PySem.Spec PyProof.Rows L2
/-! ### promises for runs in which nothing is being shown -/
structure FnG (P : Program) (w : World) (K : PySem.W.Frag) (mg : Str → Option Value) (base : Heap) (CX : CXT) (k : Nat) (f : Addr) (fd : FuncData) (ps : List Str) (sp : Sp) : Prop where
  len : ∀ vs H Q E, sp vs H Q E → vs.length = ps.length
  go : ∀ (A : Around) (outer : List Env) (s : Shared) (H : Hp) (args : Args) (us : List Value) (vs : List V) (Q : VK) (E : XK), A.guards = some [] → Room k A → Env0 P w K mg base A outer s H →
    BindsTo s fd args (ps.zip us) → Vals vs us → sp vs H Q E → codeAny (model P w) A (.call (.ref f) args) (CR CX outer P w H s Q E) s
theorem FnG.of {P : Program} {w : World} {K : PySem.W.Frag} {mg : Str → Option Value} {base : Heap} {CX : CXT} {k : Nat} {f : Addr} {fd : FuncData} {ps : List Str} {sp : Sp} (F : FnOk P w K mg base CX k f fd ps sp) : FnG P w K mg base CX k f fd ps sp :=
  ⟨F.len, fun A outer s H args us vs Q E _ => F.run A outer s H args us vs Q E⟩
theorem FnG.mono {P : Program} {w : World} {K : PySem.W.Frag} {mg : Str → Option Value} {base : Heap} {CX : CXT} {j k : Nat} {f : Addr} {fd : FuncData} {ps : List Str} {sp : Sp} (F : FnG P w K mg base CX j f fd ps sp) (h : j ≤ k) : FnG P w K mg base CX k f fd ps sp :=
  ⟨F.len, fun A outer s H args us vs Q E hg hr => F.go A outer s H args us vs Q E hg (hr.mono h)⟩
section
variable {P : Program} {w : World} {K : PySem.W.Frag} {mg : Str → Option Value} {base : Heap}
/-- a def by its body -/
theorem okG {CX : CXT} {x qual : Str} {st : Stmt} {f : Addr} {fd : FuncData} {N ps : List Str} {k : Nat} {sp : Sp} (F : Fun K x qual st f fd) (S : FnScope N ps (defScope st)) (len : ∀ vs H Q E, sp vs H Q E → vs.length = ps.length)
    (body : ∀ (cdv : Value) (A : Around) (outer : List Env) (s : Shared) (H : Hp) (vs : List V) (Q : VK) (E : XK), A.guards = some [] → Room k (A.deeper (envOfC qual (defScope st) s.heap.objs.size f cdv)) → sp vs H Q E →
      ∃ t, PSs (cxOf CX P w K mg base N qual (defScope st) f cdv A outer s H E) (defBody st) t ∧ t { nx := fun _ H' => Q .non H', rt := Q } (start N vs) H) : FnG P w K mg base CX (k + 1) f fd ps sp := by
  obtain ⟨oc, od, kV, doc, pm, an, cdv, ct, osl, rfl, lk, hcd⟩ := F.ex
  exact ⟨len, fun A outer s H args us vs Q E hg hr e0 hb r hs => LamX.run_ofS lk hcd S hr e0 hb r (len _ _ _ _ hs) fun hr1 => body cdv A outer s H vs Q E hg hr1 hs⟩
/-- .. that lets nothing out -/
theorem okG0 {x qual : Str} {st : Stmt} {f : Addr} {fd : FuncData} {N ps : List Str} {k : Nat} {sp : Sp} (F : Fun K x qual st f fd) (S : FnScope N ps (defScope st)) (len : ∀ vs H Q E, sp vs H Q E → vs.length = ps.length)
    (body : ∀ (cdv : Value) (A : Around) (outer : List Env) (s : Shared) (H : Hp) (vs : List V) (Q : VK) (E : XK), A.guards = some [] → Room k (A.deeper (envOfC qual (defScope st) s.heap.objs.size f cdv)) → sp vs H Q E →
      ∃ t, PSs (cxOf CX0 P w K mg base N qual (defScope st) f cdv A outer s H E).nox (defBody st) t ∧ t { nx := fun _ H' => Q .non H', rt := Q } (start N vs) H) : FnG P w K mg base CX0 (k + 1) f fd ps sp :=
  okG F S len fun cdv A outer s H vs Q E hg hr hs => let ⟨t, h, q⟩ := body cdv A outer s H vs Q E hg hr hs; ⟨t, h.nox, q⟩
end
section
variable {X : Cx} {CX : CXT} {k : Nat} {f : Addr} {fd : FuncData} {ps : List Str} {sp : Sp} {dvs : List V} {ds : List Value} {E : XK} {x : Str} {p pos : Pos} {e : Expr} {es : List Expr} {t : TA}
theorem goG {pins : List (Addr × Obj)} {σ : L2.St} {H : Hp} {s : Shared} {Q : VK} {us : List Value} {vs : List V} (F : FnG X.prog X.w X.K X.mg X.base CX k f fd ps sp) (hgd : X.A.guards = some []) (hr : Room k X.A) (hb : Binds X.K fd ps ds) (hd : Vals dvs ds)
    (hx : Passes CX X E) (I : Inv X pins σ H s) (r : Vals vs us) (h : sp (vs ++ dvs) H Q E) : wpAny (model X.prog X.w) X.A (call (.ref f) us) (EP X pins σ Q) X.xe s := by
  have r2 := r.append hd
  have hl : (us ++ ds).length = ps.length := r2.length.symm.trans (F.len _ _ _ _ h)
  refine wpAny_call (codeAny_mono (F.go X.A X.stack s H ⟨us, []⟩ _ _ Q E hgd hr I.env0 (hb s us I.kIn hl) r2 h) fun r s' hq => ?_)
  match r, hq with
  | .error e, hq => exact hx pins σ H s e s' I hq
  | .ok (.ret u), hq => exact I.after hq
  | .ok .next, hq => exact hq.elim
  | .ok .brk, hq => exact hq.elim
  | .ok .cont, hq => exact hq.elim
theorem pe_callG (F : FnG X.prog X.w X.K X.mg X.base CX k f fd ps sp) (hgd : X.A.guards = some []) (hr : Room k X.A) (hg : Gl X x) (hm : X.mg x = some (.ref f)) (hk : PySem.W.keepIn X.K (.ref f) = true) (hb : Binds X.K fd ps ds) (hd : Vals dvs ds) (hx : Passes CX X E)
    (ha : PA X (e :: es) t) (hdb : (x == ("__debug__" : Str)) = false := by decide) (he : starEach (e :: es) X.env = (false, eval e X.env) :: starEach es X.env := by rfl) (hpl : (backTo pos (starEach es X.env)).any (·.1) = false := by rfl) : PE X (.Call (.Name x p) (e :: es) [] pos) (tCall sp dvs E t) := by
  refine ⟨fun pins s σ H Q I h => wpAny_Call_Name_kw (ld_glob I hg hm ?_ hdb)⟩
  exact PySem.W.callWith_K (h₀ := X.base) I.ok.mod.kin hk (thn (ha.run pos pins s σ H _ I h) fun us s1 ⟨vs, H1, I1, r, q⟩ => ⟨I1.kIn, goG F hgd hr hb hd hx I1 r q⟩) he hpl
/-- repr(..) of a list or a tuple, at any depth -/
theorem call_repr_data (hgd : X.A.guards = some []) (hu : X.A.units + 64 < cLine) : CallR X (.builtin "repr") (fun xs H Q => ∃ (a : Addr) (d : PyData), xs = [.ref a] ∧ Dp X.K H (.ref a) d ∧ d.showable = true ∧ d.hasDict = false ∧ d.depth ≤ 16 ∧ d.shown.length ≤ sizeLine ∧ Q (.str d.shown) H) := by
  intro pins s σ H xs us Q I r h
  obtain ⟨a, d, rfl, hd, h1, h2, h3, h4, q⟩ := h
  obtain ⟨u, rfl, e⟩ := vals1 r
  cases e
  obtain ⟨as, hR⟩ := Dp.reads I d _ _ hd rfl
  exact repr_of_reads' hR h1 (fun z => Bool.noConfusion (h2.symm.trans z)) hgd (by omega) (fun _ _ e => e) (fun h' u tk hk => ⟨.str d.shown, H, I.kept hk, ⟨_, rfl⟩, q⟩) h4
end
end One
end P_G1

section P_G2
set_option linter.all false
set_option maxRecDepth 100000
set_option maxHeartbeats 4000000
namespace One
open PySem PySem.Spec PyProof.Rows L2
/-! ### a tuple of pairs, as data -/
def prD (p : Nat × Nat) : PyData := .tuple [.int (p.1 : Nat), .int (p.2 : Nat)]
def yd (ps : List (Nat × Nat)) : PyData := .tuple (ps.map prD)
theorem dp_pair {K : PySem.W.Frag} {H : Hp} {a : Addr} {p : Nat × Nat} (h : PAt H a p) : Dp K H (.ref a) (prD p) := .tup (SqT.of h) (.cons (.int _) (.cons (.int _) .nil))
theorem dp_pairs {K : PySem.W.Frag} {H : Hp} {as : List Addr} {ps : List (Nat × Nat)} (h : PL H as ps) : DpAll K H (refs as) (ps.map prD) := by
  induction h with
  | nil => exact .nil
  | cons h1 _ ih => exact .cons (dp_pair h1) ih
theorem dp_yd {K : PySem.W.Frag} {H : Hp} {t : Addr} {as : List Addr} {ps : List (Nat × Nat)} (ht : H t = some (.tup (refs as))) (h : PL H as ps) : Dp K H (.ref t) (yd ps) := .tup (SqT.of ht) (dp_pairs h)
theorem int_short : ∀ n : Nat, n < 1000 → (PyData.shown (.int (n : Nat))).length ≤ 8 := by
  have h : ∀ n : Fin 1000, (PyData.shown (.int ((n : Nat) : Int))).length ≤ 8 := by decide +kernel
  exact fun n hn => h ⟨n, hn⟩
theorem log_small {n : Nat} (h : n < 1000) : n.log2 < 1920 := by
  by_cases h0 : n = 0
  · subst h0; decide
  · exact (Nat.log2_lt h0).mpr (Nat.lt_of_lt_of_le h (Nat.le_trans (by decide : 1000 ≤ 2 ^ 10) (Nat.pow_le_pow_right (by decide) (by decide))))
theorem yd_all : ∀ ps : List (Nat × Nat), (∀ p ∈ ps, p.1 < 1000 ∧ p.2 < 1000) → PyData.showableAll (ps.map prD) = true ∧ PyData.hasDictAll (ps.map prD) = false ∧ PyData.depthAll (ps.map prD) ≤ 1 ∧ PyData.leavesShortAll 8 (ps.map prD) = true ∧ PyData.bulkAll (ps.map prD) = 3 * ps.length
  | [], _ => ⟨rfl, rfl, Nat.zero_le _, rfl, rfl⟩
  | p :: r, h => by
    obtain ⟨h1, h2, h3, h4, h5⟩ := yd_all r fun q m => h q (List.mem_cons_of_mem _ m)
    obtain ⟨q1, q2⟩ := h p (List.mem_cons_self ..)
    have a1 : PyData.showable (prD p) = true := by
      show (decide (((p.1 : Nat) : Int).natAbs.log2 < 1920) && (decide (((p.2 : Nat) : Int).natAbs.log2 < 1920) && true)) = true
      simp only [Int.natAbs_natCast, Bool.and_eq_true, decide_eq_true_eq, and_true]
      exact ⟨log_small q1, log_small q2⟩
    have a4 : PyData.leavesShort 8 (prD p) = true := by
      show (decide (_ ≤ 8) && (decide (_ ≤ 8) && true)) = true
      simp only [Bool.and_eq_true, decide_eq_true_eq, and_true]
      exact ⟨int_short _ q1, int_short _ q2⟩
    refine ⟨?_, ?_, ?_, ?_, ?_⟩
    · show (PyData.showable (prD p) && PyData.showableAll _) = true
      rw [a1, h1]; rfl
    · show (PyData.hasDict (prD p) || PyData.hasDictAll _) = false
      rw [h2]; rfl
    · show max (PyData.depth (prD p)) (PyData.depthAll _) ≤ 1
      exact Nat.max_le.mpr ⟨Nat.le_refl 1, h3⟩
    · show (PyData.leavesShort 8 (prD p) && PyData.leavesShortAll 8 _) = true
      rw [a4, h4]; rfl
    · show PyData.bulk (prD p) + 1 + PyData.bulkAll _ = _
      rw [h5]
      show 0 + 1 + (0 + 1 + 0) + 1 + 3 * r.length = 3 * (r.length + 1)
      omega
theorem yd_fine {ps : List (Nat × Nat)} (h : ∀ p ∈ ps, p.1 < 1000 ∧ p.2 < 1000) (hl : ps.length ≤ 1000) : (yd ps).showable = true ∧ (yd ps).hasDict = false ∧ (yd ps).depth ≤ 16 ∧ (yd ps).shown.length ≤ sizeLine := by
  obtain ⟨h1, h2, h3, h4, h5⟩ := yd_all ps h
  refine ⟨h1, h2, ?_, ?_⟩
  · show PyData.depthAll _ + 1 ≤ 16
    omega
  · have q := PyData.shown_le_bulk 8 (Nat.le_refl _) (yd ps) h4
    have e : (yd ps).bulk = 3 * ps.length := h5
    rw [e] at q
    have : (40000 : Nat) ≤ sizeLine := by decide
    omega
def rRepr (K : PySem.W.Frag) : List V → Hp → VK → Prop := fun xs H Q => ∃ (a : Addr) (d : PyData), xs = [.ref a] ∧ Dp K H (.ref a) d ∧ d.showable = true ∧ d.hasDict = false ∧ d.depth ≤ 16 ∧ d.shown.length ≤ sizeLine ∧ Q (.str d.shown) H
/-- repr(..) of a tuple of pairs -/
theorem repr_yd {K : PySem.W.Frag} {H : Hp} {t : Addr} {as : List Addr} {ps : List (Nat × Nat)} {Q : VK} (ht : H t = some (.tup (refs as))) (hp : PL H as ps) (h : ∀ p ∈ ps, p.1 < 1000 ∧ p.2 < 1000) (hl : ps.length ≤ 1000) (q : Q (.str (yd ps).shown) H) : rRepr K [.ref t] H Q := by
  obtain ⟨h1, h2, h3, h4⟩ := yd_fine h hl
  exact ⟨t, _, rfl, dp_yd ht hp, h1, h2, h3, h4, q⟩
theorem cr_repr {X : Cx} (hgd : X.A.guards = some []) (hu : X.A.units + 64 < cLine) : CallR X (.builtin "repr") (rRepr X.K) := call_repr_data hgd hu
end One
end P_G2

section P_X1
set_option linter.all false
set_option maxRecDepth 100000
set_option maxHeartbeats 4000000
/-! An own exception, some way below ValueError, whose __init__ says super().__init__(f'..{f}'); self.f = f -/
namespace One
open PySem PySem.W PySem.Calls PyProof.Rows PySem.HandSPX L2
def xA (fld : Str) (p1 p2 : Pos) : Arguments := { posonlyargs := [], args := [{ arg := "self", annotation := none, pos := p1 }, { arg := fld, annotation := none, pos := p2 }], vararg := none, kwonlyargs := [], kw_defaults := [], kwarg := none, defaults := [] }
abbrev xJ (pre fld : Str) (a3 a4 a5 a6 : Pos) : Expr := .JoinedStr [.Constant (.str pre) 0 a3, .FormattedValue (.Name fld a4) (-1) none a5] a6
abbrev xO (a0 a1 : Pos) : Expr := .Call (.Name "super" a0) [] [] a1
abbrev xB (pre fld : Str) (a0 a1 a2 a3 a4 a5 a6 a7 a8 a9 b0 b1 b2 : Pos) : List Stmt := [.Expr (.Call (.Attribute (xO a0 a1) "__init__" a2) [xJ pre fld a3 a4 a5 a6] [] a7) a8, .Assign [.Attribute (.Name "self" a9) fld b0] (.Name fld b1) b2]
def xS (fld : Str) : Scope := { kind := .function, names := [(PySem.Str.ofString "self", .local), (fld, .local), (PySem.Str.ofString "__class__", .free), (PySem.Str.ofString "super", .globalImplicit)], isGenerator := false, isCoroutine := false, more := [] }

def FldOk (fld : Str) : Prop := fld = "place" ∨ fld = "way" ∨ fld = "many"
/-- the value may be shown in an f-string: some text of bounded length, the heap unchanged -/
def FmtOk (P : Program) (w : World) (h : Heap) (v : Value) : Prop := ∀ (A : Around) (E : Value → Shared → Prop) (s : Shared) (Q : Value → Shared → Prop), A.units + 64 < cLine → (∀ b o, h.get? b = some o → s.heap.get? b = some o) →
  (∀ (m : Str) (u tk : Tok), m.length ≤ 100000 → Q (.str m u) { s with toks := tk }) → wpAny (model P w) A (formatField v Str.empty) Q E s
theorem FmtOk.keeps {P : Program} {w : World} {h h' : Heap} {v : Value} (f : FmtOk P w h v) (k : ∀ b o, h.get? b = some o → h'.get? b = some o) : FmtOk P w h' v := fun A E s Q hu hk q => f A E s Q hu (fun b o e => hk b o (k b o e)) q
/-- the form of such an __init__ -/
def Shape (st : Stmt) (fld : Str) : Prop := ∃ (p1 p2 : Pos) (pre : Str) (a0 a1 a2 a3 a4 a5 a6 a7 a8 a9 b0 b1 b2 : Pos), defArgs st = xA fld p1 p2 ∧ defBody st = xB pre fld a0 a1 a2 a3 a4 a5 a6 a7 a8 a9 b0 b1 b2 ∧ defScope st = xS fld ∧ pre.length ≤ 1000 ∧
  ∀ env, eval (.Call (.Attribute (xO a0 a1) "__init__" a2) [xJ pre fld a3 a4 a5 a6] [] a7) env = (do
    let ov ← attributeBase (xO a0 a1) "__init__" env (eval (xO a0 a1) env)
    standAt a2.atName
    let (f, first) ← holding [ov] (getMethod ov "__init__" (do return (← importBound (xO a0 a1) env).getD true))
    callWith a7 f first (backTo a7 (starEach [xJ pre fld a3 a4 a5 a6] env)) [])
/-- what the written part says of such a class, at C, and of its __init__, at fI -/
structure OwnTxt (P : Program) (K : Frag) (st : Stmt) (fld : Str) (C fI : Addr) : Prop where
  cls : ∃ nm q N bs bm sn sub ab col dd k0 k1 k2 k3 k5, K.lookup C = some (excClassObj nm q C N bs bm true sn sub ab col dd k0 k1 k2 k3 k5 "ValueError.__new__") ∧ refsVE bm = true ∧ alongIn K "__init__" (((Value.ref C :: bm).dropWhile (· != .ref C)).drop 1) = some (some (.builtin "ValueError.__init__"))
  sa : findIn K (.ref C) "__setattr__" = some (some (.builtin "object.__setattr__"))
  noF : findIn K (.ref C) fld = some none
  veB : subIn K (.ref C) (.type "ValueError") = some true
  self : mroIn K C (.ref C) = some true
  op : nsIn K cStatics "thirdparty.any" = some none
  top : (P.main.scope.names.lookup ("super" : Str)).isSome = false
  shape : Shape st fld
  fn : ∃ (oc : Value) (od : Option Addr) (qual : Str) (doc pm : Value) (an : Option Addr) (cda cc : Addr) (ct : Value) (osl : Array (Option Value)) (ccl cl : Value) (cdd cld : Option Addr) (vs : Array Value) (ccs csl : Array (Option Value)) (file : Str) (tf : Tok),
    K.lookup fI = some ⟨oc, od, .func (ksFn "__init__" qual (defArgs st) (defBody st) (defScope st) .none .none doc pm an (.ref cda) ct cc), osl⟩ ∧ codeIn K (.ref cda) qual = true ∧ K.lookup cda = some ⟨ccl, cdd, .fields vs, ccs⟩ ∧ vs[2]? = some (.str file tf) ∧
    ((P.main.file : Str) == file) = true ∧ K.lookup cc = some ⟨cl, cld, .cell (some (.ref C)), csl⟩
theorem ns_but {h h' : Heap} {a : Addr} {m : Str → Option Value} (hn : h.Ns a m) (k : ∀ o, h.get? a = some o → h'.get? a = some o) : h'.Ns a m := by
  obtain ⟨o, es, ep, e, r⟩ := hn
  exact ⟨o, es, ep, k o e, r⟩
theorem kept_but0 {K : Frag} {h h' : Heap} {x : Addr} (X : K.In h) (hx : ∀ o, K.lookup x = some o → False) (k : ∀ b o, b ≠ x → h.get? b = some o → h'.get? b = some o) : K.In h' := fun a o e => k a o (fun z => hx o (z ▸ e)) (X a o e)
section
variable {P : Program} {w : World} {A : Around} {E : Value → Shared → Prop} {R : Result → Shared → Prop} {s : Shared} {K : Frag} {mg mb : Str → Option Value} {C fI : Addr} {fld : Str} {st : Stmt}
theorem x_init (hf : FldOk fld) (T : OwnTxt P K st fld C fI) {x t0 : Addr} {v : Value} (X : K.In s.heap) (hlim : s.heap.NoLimit) (hg : s.heap.Ns mainGlobals mg) (noS : mg "super" = none) (hb : s.heap.Ns builtinsNs mb) (hbb : ∀ y : Str, y ≠ "__name__" → mb y = bootBuiltins y)
    (hx : s.heap.get? x = some (excO C t0)) (hnx : K.lookup x = none) (hroom : A.depth < recursionLimit) (hu : A.units + 100 < cLine) (hv : FmtOk P w s.heap v)
    (hq : ∀ h' tk dx, (∀ b o, b ≠ x → s.heap.get? b = some o → h'.get? b = some o) → (∃ t1 : Addr, h'.get? x = some { cls := .ref C, dict := some dx, data := .fields #[.ref t1, .none, .none, .none, .bool false, .none] }) → s.heap.objs.size ≤ dx → dx ≠ x → h'.Ns1 dx (fun y => if y = fld then some v else none) → R (.ok (.ret .none)) { s with heap := h', toks := tk }) :
    codeAny (model P w) A (.call (.ref fI) ⟨[.ref x, v], []⟩) R s := by
  obtain ⟨oc, od, qual, doc, pm, an, cda, cc, ct, osl, ccl, cl, cdd, cld, vs, ccs, csl, file, tf, ho, hcd, hcode, hvs, hfile, hcell⟩ := T.fn
  obtain ⟨p1, p2, pre, a0, a1, a2, a3, a4, a5, a6, a7, a8, a9, b0, b1, b2, eA, eB, eS, hpre, hcall⟩ := T.shape
  rw [eA, eB, eS] at ho
  obtain ⟨nm, qn, N, bs, bm, sn, sub, ab, col, dd, k0, k1, k2, k3, k5, hC, hbm, hal⟩ := T.cls
  have hcl : clsIn K C = some { name := nm, bases := bs, mro := .ref C :: bm, ns := N, qualname := qn, hasDict := true, slotNames := sn, subclasses := sub, abstract := ab, collection := col, hasDel := false } := by unfold clsIn; rw [hC] <;> rfl
  have hxC : x ≠ C := fun z => by
    have e1 := X _ _ hC
    rw [← z, hx] at e1
    cases e1
  refine ks_codeAny_call_defAt (fd := ksFn "__init__" qual (xA fld p1 p2) (xB pre fld a0 a1 a2 a3 a4 a5 a6 a7 a8 a9 b0 b1 b2) (xS fld) .none .none doc pm an (.ref cda) ct cc) (body := xB pre fld a0 a1 a2 a3 a4 a5 a6 a7 a8 a9 b0 b1 b2) (binds := [("self", .ref x), (fld, v)]) hroom (X _ _ ho) rfl hlim (codeRec_of X hcd) rfl
    (by rcases hf with rfl | rfl | rfl <;> exact BindsTo.of_eq (by first | rfl | with_unfolding_all rfl)) (fun y hy => by
      have hy : y ∈ [(PySem.Str.ofString "self", NameKind.local), (fld, .local), (PySem.Str.ofString "__class__", .free), (PySem.Str.ofString "super", .globalImplicit)] := hy
      simp only [List.mem_cons, List.not_mem_nil, or_false] at hy
      rcases hy with rfl | rfl | rfl | rfl <;> exact fun z => nomatch z)
    (fun y hy => by
      simp only [List.mem_cons, List.not_mem_nil, or_false] at hy
      rcases hf with rfl | rfl | rfl <;> rcases hy with rfl | rfl <;> first | rfl | with_unfolding_all rfl | kernel_rfl) (fun h0 hn k => ?_) rfl rfl rfl
  have kS : (xS fld).names.lookup ("super" : Str) = some .globalImplicit := by rcases hf with rfl | rfl | rfl <;> decide +kernel
  have kC : (xS fld).names.lookup ("__class__" : Str) = some .free := by rcases hf with rfl | rfl | rfl <;> decide +kernel
  have kX : (xS fld).names.lookup ("self" : Str) = some .local := by rcases hf with rfl | rfl | rfl <;> decide +kernel
  have kF : (xS fld).names.lookup fld = some .local := by rcases hf with rfl | rfl | rfl <;> decide +kernel
  have mX : ([(PySem.Str.ofString "self", Value.ref x), (fld, v)] : List (Str × Value)).reverse.lookup ("self" : Str) = some (.ref x) := by rcases hf with rfl | rfl | rfl <;> first | rfl | with_unfolding_all rfl | kernel_rfl
  have mF : ([(PySem.Str.ofString "self", Value.ref x), (fld, v)] : List (Str × Value)).reverse.lookup fld = some v := by rcases hf with rfl | rfl | rfl <;> first | rfl | with_unfolding_all rfl | kernel_rfl
  have dF : (fld == ("__debug__" : Str)) = false := by rcases hf with rfl | rfl | rfl <;> decide +kernel
  have hLx : s.heap.objs.size ≠ x := Nat.ne_of_gt (Heap.lt_size hx)
  have X0 : K.In h0 := X.keeps k
  have hC0 := X0 _ _ hC
  obtain ⟨hp, g, d, t, os⟩ := s
  show _root_.PySem.wpAt _ _ (.func (xB pre fld a0 a1 a2 a3 a4 a5 a6 a7 a8 a9 b0 b1 b2) (ksEnv qual (xS fld) hp.objs.size fI (.ref cda) cc)) (execs (xB pre fld a0 a1 a2 a3 a4 a5 a6 a7 a8 a9 b0 b1 b2) (ksEnv qual (xS fld) hp.objs.size fI (.ref cda) cc)) _ _ _
  refine ks_wpAt_execs_cons (ks_wpAt_Expr_any (ks_wpAt_MethodCall (ks_wpAt_super_base (env := ksEnv qual (xS fld) hp.objs.size fI (.ref cda) cc) kS kC rfl rfl (X0 _ _ ho) rfl rfl rfl (X0 _ _ hcode) rfl hvs hfile T.top ?_) (hcall _)))
  refine ks_loadName_global rfl kS (loadGlobal_builtin (env := ksEnv qual (xS fld) hp.objs.size fI (.ref cda) cc) (hg.keeps k) noS (hb.keeps k) ((hbb _ (by decide +kernel)).trans PyProof.Rows.Boot.«super») ⟨rfl, ?_⟩)
  refine wpAny_loadName_free rfl kC rfl ⟨_, X0 _ _ hcell, rfl⟩ ?_
  refine wpAny_loadName_local rfl kX hn mX ?_
  refine ks_wpAny_isType_cls hC0 rfl ⟨rfl, ?_⟩
  refine ks_wpAny_call_super hC0 rfl (k _ _ hx) rfl (fun c e => nomatch e) (looks_mroIn X0 T.self) (fun h1 hso k1 => ?_)
  have X1 := X0.keeps k1
  have hx1 := k1 _ _ (k _ _ hx)
  have hns1 : h1.Ns hp.objs.size _ := ns_but hn fun o e => k1 _ _ e
  have hI : Looks (model P w) h1 (isInstance (.ref x) (.type "ValueError")) true := (PySem.W.InstAt.type (od := none) ⟨hx1, rfl, rfl, trivial⟩).andThen (looks_subIn X1 T.veB)
  refine kxs_getMethod kxs_ValueError hso (looks_opaque X1 T.op) (l₀ := Value.ref C :: bm) (fun A Q E s k q => wpAny_bind ((looks_clsIn X1 hcl) A _ E s k (wpAny_pure q))) rfl X1 hal hI hxC rfl ?_
  have k2 : ∀ b o, h1.get? b = some o → (h1.push (kxs_mw "ValueError.__init__" x)).get? b = some o := fun b o e => Heap.get?_push_of_some _ e
  have hmw : (h1.push (kxs_mw "ValueError.__init__" x)).get? h1.objs.size = some (kxs_mw "ValueError.__init__" x) := Heap.get?_push_at rfl rfl
  refine kxs_callWith (i := "ValueError.__init__") (x := x) rfl (evalArgs_plain (Calls.spliced_cons ?_))
  have hns2 := ns_but hns1 fun o e => k2 _ _ e
  have hul : (A.deeper (ksEnv qual (xS fld) hp.objs.size fI (.ref cda) cc)).units + 64 < cLine := by
    show A.units + 3 + 64 < cLine
    omega
  refine JoinedStr_many (pos := a6) (joinParts_cons (Constant_str ⟨?_, ?_⟩))
  · show (Str.empty ++ pre).length ≤ sizeLine
    rw [strLen_append, sizeLine_eq]
    have : Str.empty.length = 0 := rfl
    omega
  refine joinParts_cons (FormattedValue_plain ?_)
  refine wpAny_Name (wpAny_loadName_local rfl kF hns2 mF ?_) dF
  refine hv _ _ _ _ hul (fun b o e => k2 _ _ (k1 _ _ (k _ _ e))) fun m u tk hm => ?_
  have hlen : (Str.empty ++ pre ++ m).length ≤ sizeLine := by
    rw [strLen_append, strLen_append, sizeLine_eq]
    have : Str.empty.length = 0 := rfl
    omega
  refine ⟨hlen, joinParts_nil ?_ hlen⟩
  refine Calls.spliced_nil ⟨hmw, ?_⟩
  have hx2 : (h1.push (kxs_mw "ValueError.__init__" x)).get? x = some (excO C t0) := k2 _ _ hx1
  refine wpAny_call (codeAny_of_tree ?_)
  show wpAny _ _ (callAny (.ref h1.objs.size) _) _ _ _
  simp only [callAny]
  refine wpAny_bind (wpAny_load hmw ?_); simp only [kxs_mw, show (Value.type "method-wrapper" == Value.type "method" || Value.type "method-wrapper" == Value.type "builtin_function_or_method" || Value.type "method-wrapper" == Value.type "method-wrapper") = true by decide, if_true]
  refine KFB.if_so (by decide) ?_
  refine wpAny_bind (check_bound_init F.excBase_ValueError.toExcCallFacts (k2 _ _ (k1 _ _ hC0)) hx2 rfl ?_)
  refine wpAny_bind (wpAny_pure (wpAny_pure ?_))
  refine ⟨plainId_quiet F.excBase_ValueError.init.plain _, codeAny_builtin F.excBase_ValueError.initEntry ?_⟩
  refine exc_init_tree (cls := .ref C) (t0 := t0) (dv := none) (c2 := .none) (c3 := .none) (b4 := .bool false) hx2 (by show 1 ≤ sizeLine; rw [sizeLine_eq]; omega) fun h3 k3 hx3 _ => ?_
  have X3 : K.In h3 := kept_but0 (X1.keeps k2) (fun o z => nomatch hnx.symm.trans z) k3
  have hns3 := ns_but hns2 fun o e => k3 _ _ hLx e
  refine _root_.PySem.wpAt_of_wpAny (wpAny_execs_cons (plainObj_wpAny_Assign_Attribute ?_ ?_))
  · refine wpAny_Name (wpAny_loadName_local rfl kF hns3 mF ?_) dF
    refine wpAny_Name (wpAny_loadName_local rfl kX hns3 mX ?_) (by decide)
    refine set_plain X3 (od := none) ⟨hx3, rfl, rfl, trivial⟩ T.sa ?_
    refine exc_osa X3 hx3 hcl (show refsVE (.ref C :: bm) = true from hbm) rfl T.noF (fun h4 tk4 dx k4 dn dne hx4 hn4 => ?_)
    refine wpAny_execs_nil (hq h4 tk4 dx (fun b o hb e => k4 b o hb (k3 b o hb (k2 _ _ (k1 _ _ (k _ _ e))))) ⟨_, hx4⟩ ?_ dne hn4)
    have z1 := Heap.lt_size (show h3.get? hp.objs.size = some _ from hns3.choose_spec.choose_spec.choose_spec.1)
    exact Nat.le_of_lt (Nat.lt_of_lt_of_le z1 dn)
  · rcases hf with rfl | rfl | rfl <;> rfl
end
end One
end P_X1

section P_X2
set_option linter.all false
set_option maxRecDepth 100000
set_option maxHeartbeats 4000000
namespace One
open PySem PySem.W PySem.Calls PyProof.Rows PySem.HandSPX L2
/-- what an own exception is made with: a small number, a tuple of such -/
inductive Shown (K : Frag) (H : Hp) : V → Prop
  | int (n : Nat) (h : n < 1000) : Shown K H (.int (n : Nat))
  | tup {a : Addr} (ns : List Nat) (ht : SqT K H a (ns.map fun n => V.int (n : Nat))) (hl : ns.length ≤ 100) (h : ∀ n ∈ ns, n < 1000) : Shown K H (.ref a)
theorem repr_nats {P : Program} {w : World} : ∀ {ns : List Nat} {us : List Value}, Vals (ns.map fun n => V.int (n : Nat)) us → (∀ n ∈ ns, n < 1000) → ReprAll P w us (ns.map fun n => ((toString ((n : Nat) : Int) : String) : Str))
  | [], _, r, _ => by
    cases r
    exact .nil
  | n :: l, _, r, h => by
    cases r with
    | cons r1 r2 =>
      obtain ⟨t, rfl⟩ := r1
      exact .cons (ReprIs.int t (by rw [Int.natAbs_natCast]; exact log_small (h n (List.mem_cons_self ..)))) (repr_nats r2 fun z hz => h z (List.mem_cons_of_mem _ hz))
theorem nats_text : ∀ ns : List Nat, (∀ n ∈ ns, n < 1000) → ((ns.map fun n => ((toString ((n : Nat) : Int) : String) : Str)).map (·.length)).sum ≤ 8 * ns.length
  | [], _ => Nat.zero_le _
  | n :: r, h => by
    have h1 := nats_text r fun z hz => h z (List.mem_cons_of_mem _ hz)
    have h2 : ((toString ((n : Nat) : Int) : String) : Str).length ≤ 8 := int_short n (h n (List.mem_cons_self ..))
    rw [List.map_cons, List.map_cons, List.sum_cons, List.length_cons]
    omega
theorem Shown.fmt {X : Cx} {pins : List (Addr × Obj)} {σ : L2.St} {H : Hp} {s : Shared} {v : V} {u : Value} (I : Inv X pins σ H s) (h : Shown X.K H v) (r : RelV v u) : FmtOk X.prog X.w s.heap u := by
  intro A E s1 Q hu hk q
  cases h with
  | int n hn =>
    obtain ⟨t, rfl⟩ := r
    exact wpAny_formatField_int (by rw [Int.natAbs_natCast]; exact log_small hn) (q _ _ _ (Nat.le_trans (int_short n hn) (by decide)))
  | tup ns ht hl hn =>
    cases r
    obtain ⟨its, rv, ⟨o, ho, hcl, n, hd⟩, _⟩ := I.tuple ht
    have e1 := tupleText_len_le (ns.map fun n => ((toString ((n : Nat) : Int) : String) : Str))
    have e2 := nats_text ns hn
    rw [List.length_map] at e1
    exact fmt_tuple (ts := ns.map fun n => ((toString ((n : Nat) : Int) : String) : Str)) (by omega) (hk _ _ ho) hcl hd (repr_nats rv hn) (by rw [sizeLine_eq]; omega) fun m u tk hm => q m u tk (by omega)
/-- the class under its name -/
structure OwnCls (K : Frag) (mg : Str → Option Value) (nm : Str) (C fI : Addr) : Prop where
  g : mg nm = some (.ref C)
  iC : findIn K (.ref C) "__init__" = some (some (.ref fI))
  tC : typeIn K (.ref fI) = some (.type "function")
  kC : keepIn K (.ref C) = true
  exC : subIn K (.ref C) (.type "BaseException") = some true
  tyC : typeIn K (.ref C) = some (.type "type")
/-- nm(e) -/
def tMkX (K : Frag) (fld : Str) (C : Addr) (ta : TA) : L2.St → Hp → XK → Prop := fun σ H Q => ta σ H fun vs H1 => ∃ v, vs = [v] ∧ Shown K H1 v ∧ ∀ d, H1 d = none → Q (.ref C) (some d) (upd H1 d (.xd [(fld, v)]))
theorem relO_one {v : V} {u : Value} {g : Str} (r : RelV v u) (f : Str) : RelO (List.lookup f [(g, v)]) (if f = g then some u else none) := by
  rw [lookup_put]
  by_cases e : f = g
  · rw [if_pos e, if_pos e]
    exact r
  · rw [if_neg e, if_neg e]
    trivial
section
variable {X : Cx} {C fI : Addr}
theorem pmk_x {nm fld : Str} {st : Stmt} {a : Expr} {ta : TA} {p pos : Pos} {k : Nat} (hf : FldOk fld) (T : OwnTxt X.prog X.K st fld C fI) (O : OwnCls X.K X.mg nm C fI) (noS : X.mg "super" = none) (hr : Room k X.A) (ha : PA X [a] ta) (hg : Gl X nm) (hdb : (nm == ("__debug__" : Str)) = false := by decide) (he : starEach (a :: []) X.env = (false, eval a X.env) :: starEach [] X.env := by rfl) (hpl : (backTo pos (starEach [] X.env)).any (·.1) = false := by rfl) : PMk X (.Call (.Name nm p) [a] [] pos) (tMkX X.K fld C ta) := by
  intro pins s σ H Q I h
  refine wpAny_Call_Name_kw (ld_glob I hg O.g ?_ hdb)
  refine PySem.W.callWith_K (h₀ := X.base) I.ok.mod.kin O.kC (thn (ha.run pos pins s σ H _ I h) fun us s1 ⟨vs, H1, I1, r1, v, ev, hv, q1⟩ => ⟨I1.kIn, ?_⟩) he hpl
  subst ev
  obtain ⟨v', rfl, rv⟩ := vals1 r1
  obtain ⟨nm', qn, N, bs, bm, sn, sub, ab, col, dd, k0, k1, k2, k3, k5, hC, hbm, hal⟩ := T.cls
  have hfm := hv.fmt I1 rv
  have hX := I1.kIn
  have hlim := I1.nolimit
  obtain ⟨_, mgl, ⟨mb, hbn, hbb⟩, _⟩ := I1.mod
  have hbk := I1.bk
  show wpAny _ _ (call (.ref C) [v']) _ _ _
  obtain ⟨hp, g, dr, tk, os⟩ := s1
  have kk : ∀ b o, hp.get? b = some o → ((hp.push (PySem.W.kdv_tup [v'])).push (PySem.HandSPX.excO C hp.objs.size)).get? b = some o := fun b o e => Heap.get?_push_of_some _ (Heap.get?_push_of_some _ e)
  have hget : ((hp.push (PySem.W.kdv_tup [v'])).push (PySem.HandSPX.excO C hp.objs.size)).get? (hp.objs.size + 1) = some (PySem.HandSPX.excO C hp.objs.size) := by heap_get
  have hnx : X.K.lookup (hp.objs.size + 1) = none := by
    match e : X.K.lookup (hp.objs.size + 1) with
    | none => rfl
    | some o => exact absurd (Nat.lt_of_succ_lt (Heap.lt_size (hX _ _ e))) (Nat.lt_irrefl _)
  refine wpAny_call (PySem.HandSPX.call_own F.excBase_ValueError (fun Y => PySem.HandSPX.refsVE_contains Y bm hbm) (hX _ _ hC) (PySem.W.looks_findIn hX O.iC) (fun self => PySem.W.bind_fn hX self O.tC) (by show 1 ≤ sizeLine; rw [sizeLine_eq]; omega) ?_)
  have hdp := hr.dp
  have hun := hr.un
  refine x_init (s := ⟨(hp.push (PySem.W.kdv_tup [v'])).push (PySem.HandSPX.excO C hp.objs.size), g, dr, tk, os⟩) hf T (hX.keeps kk) (hlim.keeps kk) ((mgl.keeps hbk).keeps kk) noS ((hbn.keeps hbk).keeps kk) hbb hget hnx ?_ ?_ (hfm.keeps kk) fun h' tk' dx k' hx dn dne hns => ?_
  · rw [make_depth]
    omega
  · rw [make_units]
    omega
  · refine ⟨rfl, ?_⟩
    show MkP X pins σ Q (.ref (hp.objs.size + 1)) ⟨h', g, dr, tk', os⟩
    obtain ⟨t1, hx⟩ := hx
    have dn : hp.objs.size + 1 + 1 ≤ dx := by
      first
        | (simpa only [Heap.size_push] using dn)
        | exact dn
    have dbig : hp.objs.size ≤ dx := by omega
    obtain ⟨G', g1, g2⟩ := restrict h' fun b => decide (b ≠ hp.objs.size + 1)
    have gk : ∀ b, b ≠ hp.objs.size + 1 → G'.get? b = h'.get? b := fun b hb => g1 b (decide_eq_true hb)
    have ge : G'.get? (hp.objs.size + 1) = none := g2 _ (by simp)
    have ne : ∀ {b : Addr} {o : Obj}, hp.get? b = some o → b ≠ hp.objs.size + 1 := fun {b o} q => Nat.ne_of_lt (Nat.lt_succ_of_lt (Heap.lt_size q))
    have old : ∀ b o, hp.get? b = some o → G'.get? b = some o := fun b o q => (gk b (ne q)).trans (k' b o (ne q) (kk b o q))
    have ob : ObjOk X.prog X.w (upd H1 dx (.xd [(fld, v)])) G' dx (.xd [(fld, v)]) := ⟨_, hns.at (fun o q => (gk dx dne).trans q), fun f => relO_one rv f⟩
    have J : Inv X pins σ (upd H1 dx (.xd [(fld, v)])) ⟨G', g, dr, tk', os⟩ := I1.laid (t' := tk') old dbig ob
    refine ⟨hp.objs.size + 1, _, _, ⟨G', g, dr, tk', os⟩, _, .ref C, some dx, rfl, J, fun b o q => ?_, ge, hx, ⟨rfl, rfl⟩, rfl, rfl, ?_, rfl, I1.bare, raises_own O.exC O.tyC, q1 dx (I1.hok.fresh dbig)⟩
    · by_cases hb : b = hp.objs.size + 1
      · cases (hb ▸ ge).symm.trans (show G'.get? b = some o from q)
      · exact (gk b hb).symm.trans q
    · rw [upd_ne (Ne.symm dne)]
      exact I1.hok.fresh (Nat.le_succ _)
/-- raise nm(e) -/
def tRaiseX (K : Frag) (fld : Str) (C : Addr) (W : WX) (ta : TA) : TS := fun _ σ H => tMkX K fld C ta σ H fun cls d H' => W cls d σ H'
theorem ps_raiseX {nm fld : Str} {st : Stmt} {a : Expr} {ta : TA} {W : WX} {p pos pos2 : Pos} {k : Nat} (hc : X.calm = true) (hf : FldOk fld) (T : OwnTxt X.prog X.K st fld C fI) (O : OwnCls X.K X.mg nm C fI) (noS : X.mg "super" = none) (hr : Room k X.A) (tk : Takes X W) (ha : PA X [a] ta) (hg : Gl X nm) (hdb : (nm == ("__debug__" : Str)) = false := by decide) (he : starEach (a :: []) X.env = (false, eval a X.env) :: starEach [] X.env := by rfl) (hpl : (backTo pos (starEach [] X.env)).any (·.1) = false := by rfl) :
    PS X (.Raise (some (.Call (.Name nm p) [a] [] pos)) none pos2) (tRaiseX X.K fld C W ta) := ps_raise hc tk (pmk_x hf T O noS hr ha hg hdb he hpl)
end
end One
end P_X2

section P_F4
set_option linter.all false
set_option maxRecDepth 100000
set_option maxHeartbeats 8000000
namespace One
open PySem PySem.Spec PyProof.Rows L2
abbrev sNeed : Stmt := top 16
abbrev sCross : Stmt := top 22
abbrev sBadYard : Stmt := top 2
theorem scNeed : FnScope ["thing", "place"] ["thing"] (defScope sNeed) := ⟨rfl, rfl, rfl, by decide +kernel, rfl, by decide +kernel, by decide +kernel⟩
theorem scCross : FnScope ["yard"] ["yard"] (defScope sCross) := ⟨rfl, rfl, rfl, by decide +kernel, rfl, by decide +kernel, by decide +kernel⟩
theorem il_of {H : Hp} {N : Nat} {as : List Addr} {ps : List (Nat × Nat)} (h : PL H as ps) (k : ∀ p ∈ ps, p.1 < p.2 ∧ p.2 < N) : IL H N (refs as) (ps.map some) := by
  induction h with
  | nil => exact .nil
  | cons h1 _ ih =>
    obtain ⟨k1, k2⟩ := k _ (List.mem_cons_self ..)
    exact .line h1 k1 k2 (ih fun p m => k p (List.mem_cons_of_mem _ m))
theorem map_some_inj {α : Type} : ∀ {a b : List α}, a.map some = b.map some → a = b
  | [], [], _ => rfl
  | [], _ :: _, h => by cases h
  | _ :: _, [], h => by cases h
  | x :: a, y :: b, h => by
    rw [List.map_cons, List.map_cons] at h
    obtain ⟨h1, h2⟩ := List.cons.inj h
    rw [Option.some.inj h1, map_some_inj h2]
theorem Yard.lt {n : Nat} {ps : List (Nat × Nat)} (y : Yard n ps) : ∀ p ∈ ps, p.1 < p.2 ∧ p.2 < 4 * n := fun p m => ⟨y.low p m, y.lines.lt _ (mem_ends.mpr ⟨p, m, .inr rfl⟩)⟩
/-- a yard has no fault -/
theorem fault_good {H : Hp} {t : Addr} {n : Nat} {ps : List (Nat × Nat)} {Q : VK} {E : XK} (y : YAt H t n ps) (hn : n ≤ 40) (q : ∀ H', Same H H' → Q .non H') : spFault [.ref t] H Q E := by
  obtain ⟨Y, as, ht, hP⟩ := y
  have hl : (refs as).length = 2 * n := by rw [List.length_map, hP.len, Y.lines.len]
  have hpos := Y.pos
  refine ⟨_, rfl, .inr ⟨t, refs as, ps.map some, rfl, ht, ?_, ?_, fun k hk => ?_, fun _ qs e => ?_⟩⟩
  · unfold canBe
    rw [hl]
    simp only [Bool.and_eq_true, decide_eq_true_eq]
    omega
  · rw [hl]
    exact il_of hP fun p m => ⟨(Y.lt p m).1, by have := (Y.lt p m).2; omega⟩
  · rw [yard_good Y] at hk
    cases hk
  · cases map_some_inj e
    rw [hl, show 2 * n / 2 = n by omega]
    exact ⟨fun _ => q, fun z => absurd Y.whole z⟩
theorem fault_mono {H : Hp} {v : V} {Q Q' : VK} {E E' : XK} (h : spFault [v] H Q E) (k : ∀ r H', Q r H' → Q' r H') : spFault [v] H Q' E' := by
  obtain ⟨v', e, h⟩ := h
  refine ⟨v', e, ?_⟩
  rcases h with ⟨h1, h2⟩ | ⟨t, xs, os, h1, h2, h3, h4, h5, h6⟩
  · exact .inl ⟨h1, fun H' p a b => k _ _ (h2 H' p a b)⟩
  · exact .inr ⟨t, xs, os, h1, h2, h3, h4, fun j e H' p a b => k _ _ (h5 j e H' p a b), fun e ps eo => ⟨fun z H' a => k _ _ ((h6 e ps eo).1 z H' a), fun z H' p a b => k _ _ ((h6 e ps eo).2 z H' p a b)⟩⟩
/-- a tuple of no good length: () -/
theorem fault_len {H : Hp} {t : Addr} {xs : List V} {Q : VK} {E : XK} (ht : H t = some (.tup xs)) (hc : canBe (xs.length : Nat) = false) (q : ∀ (H' : Hp) (p : Addr), Same H H' → H' p = some (.tup []) → Q (.ref p) H') : spFault [.ref t] H Q E :=
  ⟨_, rfl, .inl ⟨.inr ⟨t, xs, rfl, ht, hc⟩, q⟩⟩
/-- a fault told -/
def Wrong (C0 : Addr) (E : XK) (r : V) (H : Hp) : Prop := ∃ (p : Addr) (ns : List Nat), r = .ref p ∧ H p = some (.tup (nats ns)) ∧ ns.length ≤ 100 ∧ (∀ n ∈ ns, n < 1000) ∧ ∀ d, H d = none → E (.ref C0) (some d) (upd H d (.xd [("place", .ref p)]))
def spNeed (C0 : Addr) : Sp := fun vs H Q E => ∃ v, vs = [v] ∧ spFault [v] H (fun r H' => (r = .non ∧ Q v H') ∨ Wrong C0 E r H') E0
def spIsYard : Sp := fun vs H Q _ => ∃ v, vs = [v] ∧ spFault [v] H (fun r H' => Q (.bl (decide (r = .non))) H') E0
def spCross (C0 : Addr) : Sp := fun vs H Q E => spNeed C0 vs H (fun v H' => ∃ t xs, v = .ref t ∧ H' t = some (.tup xs) ∧ Q (.int ((xs.length / 2 : Nat))) H') E
section
variable {P : Program} {w : World} {K : PySem.W.Frag} {mg : Str → Option Value} {base : Heap} {C0 fI : Addr} {sX : Stmt}
theorem ok_need {f fF : Addr} {fd fdF : FuncData} (F : Fun K "need_yard" "need_yard" sNeed f fd) (T : OwnTxt P K sX "place" C0 fI) (O : OwnCls K mg "BadYard" C0 fI) (noS : mg "super" = none) (B : Cal K mg "yard_fault" fF fdF ["thing"]) (GF : FnOk P w K mg base CX0 4 fF fdF ["thing"] spFault) :
    FnOk P w K mg base (L2.CX P w) 5 f fd ["thing"] (spNeed C0) := by
  refine F.okX scNeed (fun vs H Q E h => ?_) (fun cdv A outer s H vs Q E hr h => ?_)
  · obtain ⟨v, rfl, _⟩ := h
    rfl
  · obtain ⟨v, rfl, h⟩ := h
    have nd := scNeed.nd
    refine ⟨_, pss_cons (ps_set (i := 1) nd rfl (Or.inl rfl) (pe_call GF hr rfl B.g B.kp B.b .nil pass0 (pa_cons (pv 0) pa_nil)))
      (pss_cons (ps_if (pt_cmpR op_notN (pv 1) pe_non (nomark _)) (pss_one (ps_raiseX rfl (Or.inl rfl) T O noS hr (takes_of rfl rfl rfl rfl) (pa_cons (pv 1) pa_nil) (by rfl))) pss_nil)
      (pss_one (ps_ret (pv 0)))), ?_⟩
    refine ⟨_, rfl, ?_⟩
    unfold tNil
    refine fault_mono (Q := fun r H' => (r = .non ∧ Q v H') ∨ Wrong C0 E r H') h fun r H' hq => ?_
    rcases hq with ⟨rfl, q⟩ | ⟨p, ns, rfl, hp, hl, hs, q⟩
    · exact ⟨_, rfl, rfl, _, rfl, iteF ⟨_, rfl, q⟩⟩
    · refine ⟨_, rfl, rfl, _, rfl, iteT ⟨_, rfl, _, rfl, .tup ns (SqT.of hp) hl hs, fun d hd => q d hd⟩⟩
theorem ok_cross {f fN : Addr} {fd fdN : FuncData} (F : Fun K "crossings" "crossings" sCross f fd) (T : TB mg) (N : Cal K mg "need_yard" fN fdN ["thing"]) (GN : FnOk P w K mg base (L2.CX P w) 5 fN fdN ["thing"] (spNeed C0)) :
    FnOk P w K mg base (L2.CX P w) 6 f fd ["yard"] (spCross C0) := by
  refine F.okX scCross (fun vs H Q E h => ?_) (fun cdv A outer s H vs Q E hr h => ?_)
  · obtain ⟨v, rfl, _⟩ := h
    rfl
  · obtain ⟨v, rfl, h⟩ := h
    refine ⟨_, pss_one (ps_ret (pe_op op_fdiv (pe_callB call_len_seq (by rfl) T.len PySem.boot_len (pa_cons (pe_call GN hr rfl N.g N.kp N.b .nil (passes_call (takes_of rfl rfl rfl rfl) (fun _ _ _ _ h => h)) (pa_cons (pv 0) pa_nil)) pa_nil)) pe_int)), ?_⟩
    refine ⟨_, rfl, v, rfl, fault_mono h fun r H' hq => hq.imp (fun ⟨e, t, xs, e2, ht, q⟩ => ⟨e, t, xs, by rw [e2], .inr (SqT.of ht), ?_⟩) id⟩
    refine ⟨_, _, rfl, rfl, ⟨by decide, by decide⟩, ?_⟩
    have e4 : ((xs.length : Nat) : Int) / 2 = ((xs.length / 2 : Nat) : Int) := by omega
    show Q (.int (((xs.length : Nat) : Int) / 2)) H'
    rw [e4]
    exact q
end
end One
end P_F4

section P_Y3
set_option linter.all false
set_option maxRecDepth 100000
set_option maxHeartbeats 8000000
namespace One
open PySem PySem.Spec PyProof.Rows L2
abbrev sWF : Stmt := top 33
abbrev nWF : List Str := ["thing", "many", "is_draft", "number", "way"]
theorem scWF : FnScope nWF ["thing", "many", "is_draft"] (defScope sWF) := ⟨rfl, rfl, rfl, by decide +kernel, rfl, by decide +kernel, by decide +kernel⟩
/-- a way, or, of a draft, none -/
def okW (isd : Bool) (v : V) : Bool := belowV v 3 || (isd && decide (v = .non))
def spWays : Sp := fun vs H Q _ => ∃ (v : V) (T : String) (n : Nat) (isd : Bool), vs = [v, .int (n : Nat), .bl isd] ∧ TV H v T ∧
  (((∀ t xs, v = .ref t → H t = some (.tup xs) → xs.length ≠ n) ∧ ∀ (H' : Hp) (p : Addr), Same H H' → H' p = some (.tup []) → Q (.ref p) H') ∨
   ∃ (t : Addr) (xs : List V), v = .ref t ∧ H t = some (.tup xs) ∧ xs.length = n ∧ (∀ x ∈ xs, ∃ T, TV H x T) ∧ (xs.all (okW isd) = true → ∀ H', Same H H' → Q .non H') ∧
     ∀ (i : Nat) (x : V), xs[i]? = some x → okW isd x = false → (xs.take i).all (okW isd) = true → ∀ (H' : Hp) (p : Addr), Same H H' → H' p = some (.tup [.int (i : Nat)]) → Q (.ref p) H')
section
variable {P : Program} {w : World} {K : PySem.W.Frag} {mg : Str → Option Value} {base : Heap}
theorem ok_ways {f fB : Addr} {fd fdB : FuncData} (F : Fun K "ways_fault" "ways_fault" sWF f fd) (T : TB mg) (w3 : ∃ t, mg "MANY_WAYS" = some (.int 3 t)) (B : Cal K mg "is_below" fB fdB ["thing", "many"]) (GB : FnOk P w K mg base CX0 2 fB fdB ["thing", "many"] spIsBelow) :
    FnOk P w K mg base CX0 3 f fd ["thing", "many", "is_draft"] spWays := by
  refine F.ok scWF (fun vs H Q E h => ?_) (fun cdv A outer s H vs Q E hr h => ?_)
  · obtain ⟨v, Tt, n, isd, rfl, _⟩ := h
    rfl
  · obtain ⟨v, Tt, n, isd, rfl, hv, hc⟩ := h
    have nd := scWF.nd
    have hr2 : Room 2 _ := hr
    obtain ⟨u3, ht3⟩ := w3
    refine ⟨_, pss_cons (ps_if (PW.pt (pw_or (pt_not (pt_val (pe_callB call_isi (by rfl) T.isinstance boot_isinstance (pa_cons (pv 0) (pa_cons (pe_bltn (v := .ty "tuple") (by rfl) T.tuple boot_tuple rfl) pa_nil))))) (pw_or1 (pt_cmpR op_ne (pe_callB call_len_seq (by rfl) T.len PySem.boot_len (pa_cons (pv 0) pa_nil)) (pv 1) (nomark _))))) (pss_one (ps_ret (pe_tup pa_nil))) pss_nil)
      (pss_cons (ps_for PassesOwn.never rfl (pi_enumT (by rfl) T.enumerate (pa_cons (pv 0) pa_nil)) (pg_tup rfl (pgs_cons (pg_name (i := 3) nd rfl (Or.inl rfl)) (pgs_cons (pg_name (i := 4) nd rfl (Or.inl rfl)) pgs_nil)))
        (pss_one (ps_if (PW.pt (pw_and (pt_not (pt_val (pe_call GB hr2 rfl B.g B.kp B.b .nil pass0 (pa_cons (pv 4) (pa_cons (pe_glob (v := .int 3) rfl ht3 ⟨_, rfl⟩) pa_nil))))) (pw_and1 (pt_not (PW.pt (pw_and (pt_val (pv 2)) (pw_and1 (pt_cmpR op_isN (pv 4) pe_non (nomark _))))))))) (pss_one (ps_ret (pe_tup (pa_cons (pv 3) pa_nil)))) pss_nil)))
      (pss_one (ps_ret pe_non))), ?_⟩
    refine ⟨_, rfl, _, _, _, _, _, rfl, .ty _, hv.tyx, hv.kTup, _, rfl, ?_⟩
    rcases hc with ⟨hno, k⟩ | ⟨t, xs, rfl, ht, hl, hx, kgood, kbad⟩
    · cases hT : isTup Tt with
      | false => exact iteT (iteT ⟨Nat.zero_le _, fun p hp => k _ p (Same.new hp) upd_same⟩)
      | true =>
        obtain ⟨t, xs, rfl, ht⟩ : ∃ t xs, v = .ref t ∧ H t = some (.tup xs) := by
          cases hv with
          | @tup a xs e => exact ⟨a, xs, rfl, e⟩
          | non => exact absurd hT (by decide)
          | bl b => exact absurd hT (by decide)
          | int i => exact absurd hT (by decide)
          | str x => exact absurd hT (by decide)
          | lst e => exact absurd hT (by decide)
          | dct e => exact absurd hT (by decide)
        have hne := hno t xs rfl ht
        refine iteF ⟨_, rfl, t, _, rfl, .inr (SqT.of ht), _, rfl, rfl, _, rfl, ?_⟩
        have e : decide (V.int (xs.length : Nat) = V.int (n : Nat)) = false := decide_eq_false fun z => hne (by
          have := V.int.inj z
          omega)
        rw [e]
        exact iteT ⟨Nat.zero_le _, fun p hp => k _ p (Same.new hp) upd_same⟩
    · have eT : isTup Tt = true := by
        cases hv with
        | tup e => rfl
        | lst e => cases ht.symm.trans e
        | dct e => cases ht.symm.trans e
      rw [eT]
      refine iteF ⟨_, rfl, t, _, rfl, .inr (SqT.of ht), _, rfl, rfl, _, rfl, ?_⟩
      have e : decide (V.int (xs.length : Nat) = V.int (n : Nat)) = true := decide_eq_true (by rw [hl])
      rw [e]
      refine iteF ?_
      refine ⟨_, rfl, t, _, rfl, SqT.of ht, for_it (walk_enumT (K := K) (a := t) (xs := xs)) (fun i σ H2 => ∃ v3 v4 : Option V, σ = [some (.ref t), some (.int (n : Nat)), some (.bl isd), v3, v4] ∧ Same H H2 ∧ (xs.take i).all (okW isd) = true) ⟨none, none, rfl, Same.refl H, rfl⟩ (fun i σ H2 _ ⟨_, _, _, s', _⟩ => SqT.of (s' _ _ ht)) ?_ ?_⟩
      · rintro i x σ H2 H3 hi ⟨v3, v4, rfl, s2, a2⟩ ⟨q, x', y', rfl, hq, rfl, ex, ey⟩
        cases ex
        have ey : xs[i]? = some y' := ey
        have s3 := Same.new (o := .tup [V.int (i : Nat), y']) hq
        have sA := s2.trans s3
        obtain ⟨Ty, hy⟩ := hx y' (List.mem_of_getElem? ey)
        refine ⟨q, _, rfl, SqT.of upd_same, rfl, _, _, rfl, _, _, rfl, rfl, ?_⟩
        generalize upd H2 q (.tup [V.int (i : Nat), y']) = H3 at sA
        have a3 : okW isd y' = true → (xs.take (i + 1)).all (okW isd) = true := fun h => by
          rw [List.take_succ, ey, Option.toList_some, List.all_append, a2]
          show (true && (okW isd y' && true)) = true
          rw [h]
          rfl
        refine ⟨_, rfl, y', 3, Ty, rfl, hy.mono sA, _, rfl, ?_⟩
        cases hb : belowV y' 3 with
        | true =>
          refine iteF (iteF ?_)
          exact ⟨_, _, rfl, sA, a3 (by unfold okW; rw [hb]; rfl)⟩
        | false =>
          refine iteT ⟨_, rfl, isd, rfl, ?_⟩
          cases hd : isd with
          | false =>
            refine iteF (iteT ?_)
            subst hd
            refine ⟨_, rfl, (by show 1 ≤ sizeLine; decide), fun p hp => kbad i y' ey ?_ a2 _ p (sA.trans (Same.new hp)) upd_same⟩
            unfold okW
            rw [hb]
            rfl
          | true =>
            subst hd
            refine iteT ⟨_, rfl, rfl, _, rfl, ?_⟩
            cases hn : decide (y' = V.non) with
            | true =>
              refine iteF ?_
              exact ⟨_, _, rfl, sA, a3 (by unfold okW; rw [hb, hn]; rfl)⟩
            | false =>
              refine iteT ?_
              refine ⟨_, rfl, (by show 1 ≤ sizeLine; decide), fun p hp => kbad i y' ey ?_ a2 _ p (sA.trans (Same.new hp)) upd_same⟩
              unfold okW
              rw [hb, hn]
              rfl
      · rintro σ H2 ⟨v3, v4, rfl, s2, a2⟩
        rw [List.take_length] at a2
        exact kgood a2 _ s2
end
end One
end P_Y3

section P_Y4
set_option linter.all false
set_option maxRecDepth 100000
set_option maxHeartbeats 8000000
namespace One
open PySem PySem.Spec PyProof.Rows L2
abbrev sNS : Stmt := top 32
abbrev sRO : Stmt := top 34
abbrev nNS : List Str := ["yard", "thing", "place"]
abbrev nRO : List Str := ["yard", "setting"]
theorem scNS : FnScope nNS ["yard", "thing"] (defScope sNS) := ⟨rfl, rfl, rfl, by decide +kernel, rfl, by decide +kernel, by decide +kernel⟩
theorem scRO : FnScope nRO ["yard", "setting"] (defScope sRO) := ⟨rfl, rfl, rfl, by decide +kernel, rfl, by decide +kernel, by decide +kernel⟩
/-- it is raised, with that place -/
def RWrong (C : Addr) (E : XK) (H : Hp) (ns : List Nat) : Prop := ∀ (H' : Hp) (p d : Addr), Same H H' → H' p = some (.tup (nats ns)) → H' d = some (.xd [("place", .ref p)]) → E (.ref C) (some d) H'
/-- ways are looked at: let by, or refused -/
def LookW (C : Addr) (isd : Bool) (v : V) (m : Nat) (H : Hp) (Q : Hp → Prop) (E : XK) : Prop :=
  ((∀ t xs, v = .ref t → H t = some (.tup xs) → xs.length ≠ m) ∧ RWrong C E H []) ∨
   ∃ (t : Addr) (xs : List V), v = .ref t ∧ H t = some (.tup xs) ∧ xs.length = m ∧ (∀ x ∈ xs, ∃ T, TV H x T) ∧ (xs.all (okW isd) = true → ∀ H', Same H H' → Q H') ∧
     ∀ (i : Nat) (x : V), xs[i]? = some x → okW isd x = false → (xs.take i).all (okW isd) = true → RWrong C E H [i]
def spNS (CS : Addr) : Sp := fun vs H Q E => ∃ (y : Addr) (v : V) (T : String) (m : Nat) (ps : List (Nat × Nat)), vs = [.ref y, v] ∧ YAt H y m ps ∧ m ≤ 40 ∧ TV H v T ∧ LookW CS false v m H (fun H' => Q v H') E
def spRO (CS : Addr) : Sp := fun vs H Q E => ∃ (y : Addr) (v : V) (T : String) (m : Nat) (ps : List (Nat × Nat)), vs = [.ref y, v] ∧ YAt H y m ps ∧ m ≤ 40 ∧ TV H v T ∧ LookW CS false v m H (fun H' => ∃ (t : Addr) (ws : List Nat), v = .ref t ∧ SetAt H' t m ws ∧
  ∀ (H'' : Hp) (u : Addr) (as : List Addr) (rs : List (Nat × Nat)), Same H' H'' → H'' u = some (.tup (refs as)) → RsAt (nextE (far ps) (wayL ws)) H'' as rs → Rounds (far ps) (wayL ws) m rs → Q (.ref u) H'') E
theorem LookW.mono {C : Addr} {isd : Bool} {v : V} {m : Nat} {H : Hp} {Q Q' : Hp → Prop} {E : XK} (h : LookW C isd v m H Q E) (k : ∀ H', Same H H' → Q H' → Q' H') : LookW C isd v m H Q' E := by
  rcases h with h | ⟨t, xs, h1, h2, h3, h4, h5, h6⟩
  · exact .inl h
  · exact .inr ⟨t, xs, h1, h2, h3, h4, fun a H' s => k H' s (h5 a H' s), h6⟩
theorem LookW.to {C : Addr} {isd : Bool} {v : V} {m : Nat} {H H1 : Hp} {Q : Hp → Prop} {E : XK} {T : String} (hv : TV H v T) (h : LookW C isd v m H Q E) (s : Same H H1) : LookW C isd v m H1 Q E := by
  rcases h with ⟨h1, h2⟩ | ⟨t, xs, h1, h2, h3, h4, h5, h6⟩
  · refine .inl ⟨fun t xs e ht => ?_, fun H' p d s' => h2 H' p d (s.trans s')⟩
    subst e
    cases hv with
    | @tup a ys e =>
      have := s _ _ e
      rw [ht] at this
      cases this
      exact h1 t _ rfl e
    | lst e => cases ht.symm.trans (s _ _ e)
    | dct e => cases ht.symm.trans (s _ _ e)
  · exact .inr ⟨t, xs, h1, s _ _ h2, h3, fun x hx => (h4 x hx).imp fun T h => h.mono s, fun a H' s' => h5 a H' (s.trans s'), fun i x a b c H' p d s' => h6 i x a b c H' p d (s.trans s')⟩
theorem nats_of_ok : ∀ {xs : List V}, xs.all (okW false) = true → ∃ ws : List Nat, xs = nats ws ∧ ∀ x ∈ ws, x < 3
  | [], _ => ⟨[], rfl, fun x h => absurd h (by simp)⟩
  | v :: xs, h => by
    have h : (okW false v && xs.all (okW false)) = true := h
    rw [Bool.and_eq_true] at h
    obtain ⟨ws, e, hw⟩ := nats_of_ok h.2
    have hb : belowV v 3 = true := by
      have := h.1
      unfold okW at this
      rw [Bool.false_and, Bool.or_false] at this
      exact this
    cases v with
    | int i =>
      have hb : (decide (0 ≤ i) && decide (i < 3)) = true := hb
      simp only [Bool.and_eq_true, decide_eq_true_eq] at hb
      refine ⟨i.toNat :: ws, ?_, fun x hx => ?_⟩
      · rw [e]
        show V.int i :: nats ws = V.int ((i.toNat : Nat) : Int) :: nats ws
        rw [show ((i.toNat : Nat) : Int) = i by omega]
      · rcases List.mem_cons.mp hx with rfl | hx
        · omega
        · exact hw x hx
    | _ => exact nof hb
section
variable {P : Program} {w : World} {K : PySem.W.Frag} {mg : Str → Option Value} {base : Heap} {C0 CS f3 : Addr} {x3 : Stmt}
theorem ok_ns {f fW fC : Addr} {fd fdW fdC : FuncData} (F : Fun K "need_setting" "need_setting" sNS f fd) (T3 : OwnTxt P K x3 "place" CS f3) (O3 : OwnCls K mg "BadSetting" CS f3) (noS : mg "super" = none) (Fa : Cal K mg "ways_fault" fW fdW ["thing", "many", "is_draft"]) (GF : FnOk P w K mg base CX0 3 fW fdW ["thing", "many", "is_draft"] spWays)
    (C : Cal K mg "crossings" fC fdC ["yard"]) (GC : FnOk P w K mg base (L2.CX P w) 6 fC fdC ["yard"] (spCross C0)) : FnOk P w K mg base (L2.CX P w) 7 f fd ["yard", "thing"] (spNS CS) := by
  refine F.okX scNS (fun vs H Q E h => ?_) (fun cdv A outer s H vs Q E hr h => ?_)
  · obtain ⟨y, v, T, m, ps, rfl, _⟩ := h
    rfl
  · obtain ⟨y, v, Tv, m, ps, rfl, hY, h40, hv, hl⟩ := h
    have nd := scNS.nd
    have hr6 : Room 6 _ := hr
    have hr3 : Room 3 _ := hr.mono (by decide)
    refine ⟨_, pss_cons (ps_set (i := 2) nd rfl (Or.inl rfl) (pe_call GF hr3 rfl Fa.g Fa.kp Fa.b .nil pass0 (pa_cons (pv 1) (pa_cons (pe_call GC hr6 rfl C.g C.kp C.b .nil passL (pa_cons (pv 0) pa_nil)) (pa_cons pe_bl pa_nil)))))
      (pss_cons (ps_if (pt_cmpR op_notN (pv 2) pe_non (nomark _)) (pss_one (ps_raiseX rfl (Or.inl rfl) T3 O3 noS hr (takes_of rfl rfl rfl rfl) (pa_cons (pv 2) pa_nil) (by rfl))) pss_nil)
      (pss_one (ps_ret (pv 1)))), ?_⟩
    obtain ⟨Y, as, ht, hP⟩ := id hY
    have hlen : (refs as).length = 2 * m := by rw [List.length_map, hP.len, Y.lines.len]
    refine ⟨_, rfl, _, rfl, _, rfl, ?_⟩
    unfold tNil
    refine fault_good hY h40 fun H1 s1 => .inl ⟨rfl, y, refs as, rfl, s1 _ _ ht, ?_⟩
    rw [show (refs as).length / 2 = m by omega]
    have short : ∀ (H2 : Hp) (p : Addr) (ns : List Nat), Same H1 H2 → H2 p = some (.tup (nats ns)) → ns.length ≤ 100 → (∀ n ∈ ns, n < 1000) → RWrong CS E H1 ns → ∀ (d : Addr), H2 d = none → E (.ref CS) (some d) (upd H2 d (.xd [("place", .ref p)])) := fun H2 p ns s2 hp _ _ hW d hd =>
      hW _ p d (s2.trans (Same.new hd)) ((Same.new hd) _ _ hp) upd_same
    rcases hl.to hv s1 with ⟨h1, h2⟩ | ⟨t, xs, rfl, hxs, hlx, hT, kg, kb⟩
    · refine ⟨v, Tv, m, false, rfl, hv.mono s1, .inl ⟨h1, fun H2 p s2 hp => ?_⟩⟩
      exact ⟨_, rfl, rfl, _, rfl, iteT ⟨_, rfl, _, rfl, .tup [] (SqT.of hp) (Nat.zero_le _) (fun n h => absurd h (by simp)), fun d hd => short H2 p [] s2 hp (Nat.zero_le _) (fun n h => absurd h (by simp)) h2 d hd⟩⟩
    · refine ⟨_, Tv, m, false, rfl, hv.mono s1, .inr ⟨t, xs, rfl, hxs, hlx, hT, fun a H2 s2 => ?_, fun i x hx ho ha H2 p s2 hp => ?_⟩⟩
      · exact ⟨_, rfl, rfl, _, rfl, iteF ⟨_, rfl, kg a _ s2⟩⟩
      · have hi : i < 40 := by
          have := (List.getElem?_eq_some_iff.mp hx).1
          omega
        have hp' : H2 p = some (.tup (nats [i])) := hp
        have sm : ∀ n ∈ [i], n < 1000 := fun n h => by
          rw [List.mem_singleton.mp h]
          omega
        exact ⟨_, rfl, rfl, _, rfl, iteT ⟨_, rfl, _, rfl, .tup [i] (SqT.of hp') (by show 1 ≤ 100; decide) sm, fun d hd => short H2 p [i] s2 hp' (by show 1 ≤ 100; decide) sm (kb i x hx ho ha) d hd⟩⟩
theorem ok_ro {f fN fR fF : Addr} {fd fdN fdR fdF : FuncData} (F : Fun K "rounds_of" "rounds_of" sRO f fd) (N : Cal K mg "need_setting" fN fdN ["yard", "thing"]) (GN : FnOk P w K mg base (L2.CX P w) 7 fN fdN ["yard", "thing"] (spNS CS))
    (Rb : Cal K mg "rounds_by_fars" fR fdR ["fars", "setting"]) (GR : FnOk P w K mg base CX0 4 fR fdR ["fars", "setting"] spRB) (Fa : Cal K mg "fars_of_lines" fF fdF ["lines"]) (GF : FnOk P w K mg base CX0 1 fF fdF ["lines"] spFars) : FnOk P w K mg base (L2.CX P w) 8 f fd ["yard", "setting"] (spRO CS) := by
  refine F.okX scRO (fun vs H Q E h => ?_) (fun cdv A outer s H vs Q E hr h => ?_)
  · obtain ⟨y, v, T, m, ps, rfl, _⟩ := h
    rfl
  · obtain ⟨y, v, Tv, m, ps, rfl, hY, h40, hv, hl⟩ := h
    have nd := scRO.nd
    have hr7 : Room 7 _ := hr
    have hr4 : Room 4 _ := hr.mono (by decide)
    have hr1 : Room 1 _ := hr.mono (by decide)
    refine ⟨_, pss_cons (ps_expr (pe_call GN hr7 rfl N.g N.kp N.b .nil (passes_call (takes_of rfl rfl rfl rfl) (fun _ _ _ _ h => h)) (pa_cons (pv 0) (pa_cons (pv 1) pa_nil))))
      (pss_one (ps_ret (pe_call GR hr4 rfl Rb.g Rb.kp Rb.b .nil pass0 (pa_cons (pe_call GF hr1 rfl Fa.g Fa.kp Fa.b .nil pass0 (pa_cons (pv 0) pa_nil)) (pa_cons (pv 1) pa_nil))))), ?_⟩
    obtain ⟨Y, as, ht, hP⟩ := id hY
    refine ⟨_, rfl, _, rfl, y, v, Tv, m, ps, rfl, hY, h40, hv, hl.mono fun H1 s1 ⟨t, ws, ev, hS, k⟩ => ?_⟩
    subst ev
    refine ⟨_, rfl, y, m, as, ps, rfl, s1 _ _ ht, hP.mono (sameT s1), Y.lines, by omega, fun H2 L s2 _ hL => ?_⟩
    exact ⟨_, rfl, L, t, far ps, m, ws, rfl, hL, hS.mono (sameT s2), far_inv Y.lines, by omega, fun H3 u bs rs s3 hu hR hr' => k H3 u bs rs (s2.trans s3) hu hR hr'⟩
end
end One
end P_Y4

section P_Y5
set_option linter.all false
set_option maxRecDepth 100000
set_option maxHeartbeats 8000000
namespace One
open PySem PySem.Spec PyProof.Rows L2
def rMin2 : List V → Hp → VK → Prop := fun xs H Q => ∃ i j : Int, xs = [.int i, .int j] ∧ Q (.int (if j < i then j else i)) H
theorem min2b {X : Cx} (hc : X.calm = true) : CallR X (.builtin "min") rMin2 := call_min2 hc
theorem nats_ints (ns : List Nat) : nats ns = (ns.map fun x => ((x : Nat) : Int)).map V.int := by
  rw [List.map_map]
  rfl
end One
end P_Y5

section P_S1
set_option linter.all false
set_option maxRecDepth 100000
set_option maxHeartbeats 8000000
/-! Draws by turns: a dict of the cells, of what is left of each, a place. -/
namespace One
open PySem PySem.Spec PyProof.Rows L2
abbrev kC : Key := Sum.inr ("cells" : Str)
abbrev kF : Key := Sum.inr ("lefts" : Str)
abbrev kT : Key := Sum.inr ("at" : Str)
def mkL (c l : Addr) (k : Int) : List (Key × V) := [(kC, .ref c), (kF, .ref l), (kT, .int k)]
theorem nCF : ¬ (kC = kF) := by decide +kernel
theorem nCT : ¬ (kC = kT) := by decide +kernel
theorem nFT : ¬ (kF = kT) := by decide +kernel
section
variable (c l : Addr) (k : Int)
theorem mkL_C : valV (mkL c l k) kC = some (.ref c) := valV_pos rfl
theorem mkL_F : valV (mkL c l k) kF = some (.ref l) := (valV_neg nCF).trans (valV_pos rfl)
theorem mkL_T : valV (mkL c l k) kT = some (.int k) := (valV_neg nCT).trans ((valV_neg nFT).trans (valV_pos rfl))
theorem put_atL (p : List (Key × V)) (k : Key) (v : V) (h : (p.any fun kv => decide (kv.1 = k)) = true) : putK p k v = p.map (fun kv => if kv.1 = k then (kv.1, v) else kv) := by
  unfold putK
  rw [if_pos h]
theorem mkL_put (b : Int) : putK (mkL c l k) kT (.int b) = mkL c l b := by
  rw [put_atL _ _ _ (by rw [valV_any, mkL_T]; rfl)]
  simp only [mkL, List.map_cons, List.map_nil, if_neg nCT, if_neg nFT, if_true]
theorem mkL_make : mergeK [] [(kC, V.ref c), (kF, .ref l), (kT, .int k)] = mkL c l k := by
  have e1 : putK ([] : List (Key × V)) kC (.ref c) = [(kC, .ref c)] := putK_new _ valV_nil
  have e2 : putK [(kC, V.ref c)] kF (.ref l) = [(kC, .ref c), (kF, .ref l)] := putK_new _ (by rw [valV_neg nCF]; rfl)
  have e3 : putK [(kC, V.ref c), (kF, V.ref l)] kT (.int k) = [(kC, .ref c), (kF, .ref l), (kT, .int k)] := putK_new _ (by rw [valV_neg nCT, valV_neg nFT]; rfl)
  simp only [mergeK, List.foldl_cons, List.foldl_nil]
  rw [e1, e2, e3]
  rfl
end
section
variable {H : Hp} {p c l : Addr} {k b : Int}
theorem gCL (h : H p = some (.dK (mkL c l k))) : DGet H p (.str ("cells" : Str)) (some (.ref c)) := by
  have q := DGet.k (k := kC) h
  rw [mkL_C] at q
  exact q
theorem gFL (h : H p = some (.dK (mkL c l k))) : DGet H p (.str ("lefts" : Str)) (some (.ref l)) := by
  have q := DGet.k (k := kF) h
  rw [mkL_F] at q
  exact q
theorem gTL (h : H p = some (.dK (mkL c l k))) : DGet H p (.str ("at" : Str)) (some (.int k)) := by
  have q := DGet.k (k := kT) h
  rw [mkL_T] at q
  exact q
theorem pTL (h : H p = some (.dK (mkL c l k))) : DPut H p (.str ("at" : Str)) (.int b) (upd H p (.dK (mkL c l b))) := by
  have q := DPut.k (k := kT) (v := .int b) h (by show 3 < sizeLine; decide)
  rw [mkL_put] at q
  exact q
end
/-- the draws' dict at p, its cells at c, what is left of them at l, at most n draws so far -/
structure ML (H : Hp) (p c l : Addr) (n : Nat) : Prop where
  ex : ∃ (zs ds : List Int) (k : Int), H p = some (.dK (mkL c l k)) ∧ H c = some (.lst (zs.map V.int)) ∧ H l = some (.lst (ds.map V.int)) ∧ zs.length = ds.length ∧ 0 < zs.length ∧ zs.length ≤ 63 ∧ (∀ d ∈ ds, 0 ≤ d) ∧ 0 ≤ k ∧ k ≤ (n : Int)
  ne : c ≠ l
  nn : n ≤ 1000000
/-- all stays but the dict and what is left -/
def ExtL (p l : Addr) (H H' : Hp) : Prop := ∀ b o, b ≠ p → b ≠ l → H b = some o → H' b = some o
theorem ExtL.refl (p l : Addr) (H : Hp) : ExtL p l H H := fun _ _ _ _ e => e
theorem ExtL.trans {p l : Addr} {H H1 H2 : Hp} (h : ExtL p l H H1) (k : ExtL p l H1 H2) : ExtL p l H H2 := fun b o hb hl e => k b o hb hl (h b o hb hl e)
theorem ExtL.same {p l : Addr} {H H1 : Hp} (h : Same H H1) : ExtL p l H H1 := fun b o _ _ e => h b o e
theorem ML.keep {H H' : Hp} {p c l : Addr} {n : Nat} (M : ML H p c l n) (e : Same H H') : ML H' p c l n := by
  obtain ⟨zs, ds, k, h1, h2, h3, r⟩ := M.ex
  exact ⟨⟨zs, ds, k, e _ _ h1, e _ _ h2, e _ _ h3, r⟩, M.ne, M.nn⟩
theorem ML.lt {H : Hp} {p c l : Addr} {n k : Nat} (M : ML H p c l n) (h : n ≤ k) (hk : k ≤ 1000000) : ML H p c l k := by
  obtain ⟨zs, ds, q, h1, h2, h3, h4, h5, h6, h7, h8, h9⟩ := M.ex
  exact ⟨⟨zs, ds, q, h1, h2, h3, h4, h5, h6, h7, h8, by omega⟩, M.ne, hk⟩
theorem tupL {H H' : Hp} {p c l : Addr} {n : Nat} (M : ML H p c l n) (e : ExtL p l H H') : ∀ b xs, H b = some (.tup xs) → H' b = some (.tup xs) := fun b xs h => by
  obtain ⟨zs, ds, k, h1, h2, h3, _⟩ := M.ex
  exact e b _ (ne_of h h1 (by intro z; cases z)) (ne_of h h3 (by intro z; cases z)) h
abbrev sMX : Stmt := top 40
abbrev sDR : Stmt := top 42
abbrev nMX : List Str := ["cell", "k"]
abbrev nDR : List Str := ["state", "many", "at", "place", "left", "number"]
theorem scMX : FnScope nMX ["cell", "k"] (defScope sMX) := ⟨rfl, rfl, rfl, by decide +kernel, rfl, by decide +kernel, by decide +kernel⟩
theorem scDR : FnScope nDR ["state", "many"] (defScope sDR) := ⟨rfl, rfl, rfl, by decide +kernel, rfl, by decide +kernel, by decide +kernel⟩
def spMX : Sp := fun vs H Q _ => ∃ z k : Int, vs = [.int z, .int k] ∧ 0 ≤ k ∧ k ≤ 2000000 ∧ ∀ r : Int, 0 ≤ r → r < 2147483629 → Q (.int r) H
def spDR : Sp := fun vs H Q _ => ∃ (p c l : Addr) (n : Nat) (many : Int), vs = [.ref p, .int many] ∧ ML H p c l n ∧ n < 1000000 ∧ 0 < many ∧ many < 1073741824 ∧
  ∀ (H' : Hp) (r : Int), ML H' p c l (n + 1) → ExtL p l H H' → 0 ≤ r → r < many → Q (.int r) H'
theorem int_at {zs : List Int} {i : Int} (h0 : 0 ≤ i) (h1 : i < (zs.length : Int)) : ∃ (j : Nat) (z : Int), i = (j : Nat) ∧ j < zs.length ∧ zs[j]? = some z ∧ atI (zs.map V.int) i = some (V.int z) := by
  have hj : i.toNat < zs.length := by omega
  refine ⟨i.toNat, zs[i.toNat], by omega, hj, List.getElem?_eq_getElem hj, at_of (j := i.toNat) (by omega) ?_⟩
  rw [List.getElem?_map, List.getElem?_eq_getElem hj]
  rfl
section
variable {P : Program} {w : World} {K : PySem.W.Frag} {mg : Str → Option Value} {base : Heap}
theorem ok_mixed {f : Addr} {fd : FuncData} (F : Fun K "_law_mixed" "_law_mixed" sMX f fd) : FnOk P w K mg base CX0 1 f fd ["cell", "k"] spMX := by
  refine F.ok scMX (fun vs H Q E h => ?_) (fun cdv A outer s H vs Q E hr h => ?_)
  · obtain ⟨z, k, rfl, _⟩ := h
    rfl
  · obtain ⟨z, k, rfl, h0, h1, q⟩ := h
    have nd := scMX.nd
    refine ⟨_, pss_cons (ps_set (i := 0) nd rfl (Or.inl rfl) (pe_op op_mod (pv 0) pe_int))
      (pss_one (ps_ret (pe_op op_mod (pe_op op_mul (pe_op op_mod (pe_op op_add (pe_op op_add (pe_op op_mul (pv 0) (pe_op op_add pe_int (pe_op op_mul (pe_op op_mul pe_int (pv 1)) (pv 1)))) (pe_op op_mul pe_int (pv 1))) pe_int) pe_int) pe_int) pe_int))), ?_⟩
    have kk0 : 0 ≤ 2 * k * k := Int.mul_nonneg (by omega) h0
    have kk1 : 2 * k * k ≤ 4000000 * 2000000 := Int.mul_le_mul (by omega) h1 h0 (by decide)
    have m0 : 0 ≤ z % 2147483647 := Int.emod_nonneg _ (by decide)
    have m1 : z % 2147483647 < 2147483647 := Int.emod_lt_of_pos _ (by decide)
    refine ⟨_, rfl, _, _, rfl, rfl, (by show (0 : Int) < 2147483647; decide), ?_⟩
    refine ⟨_, rfl, _, rfl, _, _, rfl, rfl, .inl ⟨by decide, by decide⟩, _, rfl, _, _, rfl, rfl, .inr ⟨by omega, by omega⟩, _, _, rfl, rfl, _, _, rfl, rfl, .inl ⟨by show -(2 ^ 64) < z % 2147483647; omega, by show z % 2147483647 < 2 ^ 64; omega⟩, ?_⟩
    refine ⟨_, rfl, _, _, rfl, rfl, .inl ⟨by decide, by decide⟩, _, _, rfl, rfl, _, _, rfl, rfl, _, _, rfl, rfl, (by show (0 : Int) < 2147483647; decide), _, _, rfl, rfl, .inr ⟨by decide, by decide⟩, _, _, rfl, rfl, (by show (0 : Int) < 2147483629; decide), ?_⟩
    exact q _ (Int.emod_nonneg _ (by decide)) (Int.emod_lt_of_pos _ (by decide))
theorem ok_draw {f fM : Addr} {fd fdM : FuncData} (F : Fun K "_law_draw" "_law_draw" sDR f fd) (T : TB mg) (Mx : Cal K mg "_law_mixed" fM fdM ["cell", "k"]) (GM : FnOk P w K mg base CX0 1 fM fdM ["cell", "k"] spMX) : FnOk P w K mg base CX0 2 f fd ["state", "many"] spDR := by
  refine F.ok scDR (fun vs H Q E h => ?_) (fun cdv A outer s H vs Q E hr h => ?_)
  · obtain ⟨p, c, l, n, many, rfl, _⟩ := h
    rfl
  · obtain ⟨p, c, l, n, many, rfl, M, hn, h0, h1, kk⟩ := h
    obtain ⟨zs, ds, k, hp, hc, hl, hzd, hz0, hz63, hd0, hk0, hkn⟩ := M.ex
    have nd := scDR.nd
    have hu := hu_of hr
    have hr1 : Room 1 _ := hr
    refine ⟨_, pss_cons (ps_set (i := 2) nd rfl (Or.inl rfl) (pe_dget hu (pv 0) pe_str (fun _ _ => rfl)))
      (pss_cons (ps_dput hu (pv 0) pe_str (pe_op op_add (pv 2) pe_int) rfl)
      (pss_cons (ps_set (i := 3) nd rfl (Or.inl rfl) (pe_op op_mod (pv 2) (pe_callB call_len_seq (by rfl) T.len PySem.boot_len (pa_cons (pe_dget hu (pv 0) pe_str (fun _ _ => rfl)) pa_nil))))
      (pss_cons (ps_set (i := 4) nd rfl (Or.inl rfl) (pe_ix ix_list (pe_dget hu (pv 0) pe_str (fun _ _ => rfl)) (pv 3) (fun _ _ => rfl)))
      (pss_cons (ps_if (pt_cmpR op_gt (pv 4) pe_int (nomark _)) (pss_cons (ps_asg (pe_op op_fdiv (pv 4) (pv 1)) (pg_sub (pe_dget hu (pv 0) pe_str (fun _ _ => rfl)) (pv 3) set_list))
      (pss_one (ps_ret (pe_op op_mod (pv 4) (pv 1))))) pss_nil)
      (pss_cons (ps_set (i := 5) nd rfl (Or.inl rfl) (pe_call GM hr1 rfl Mx.g Mx.kp Mx.b .nil pass0 (pa_cons (pe_call GM hr1 rfl Mx.g Mx.kp Mx.b .nil pass0 (pa_cons (pe_ix ix_list (pe_dget hu (pv 0) pe_str (fun _ _ => rfl)) (pv 3) (fun _ _ => rfl)) (pa_cons (pv 2) pa_nil))) (pa_cons (pe_op op_add pe_int (pv 2)) pa_nil))))
      (pss_one (ps_ret (pe_op op_mod (pe_op op_fdiv (pe_op op_add (pe_op op_mul (pv 5) pe_int) (pe_call GM hr1 rfl Mx.g Mx.kp Mx.b .nil pass0 (pa_cons (pv 5) (pa_cons (pe_op op_add pe_int (pv 2)) pa_nil)))) pe_int) (pv 1))))))))), ?_⟩
    have npc : p ≠ c := ne_of hp hc (by intro z; cases z)
    have npl : p ≠ l := ne_of hp hl (by intro z; cases z)
    refine ⟨_, rfl, p, _, rfl, gTL hp, ?_⟩
    refine ⟨_, rfl, _, _, rfl, rfl, _, rfl, p, _, rfl, pTL hp, ?_⟩
    have hp1 : (upd H p (.dK (mkL c l (k + 1)))) p = some (.dK (mkL c l (k + 1))) := upd_same
    have hc1 : (upd H p (.dK (mkL c l (k + 1)))) c = some (.lst (zs.map V.int)) := (upd_ne (Ne.symm npc)).trans hc
    have hl1 : (upd H p (.dK (mkL c l (k + 1)))) l = some (.lst (ds.map V.int)) := (upd_ne (Ne.symm npl)).trans hl
    have e1 : ExtL p l H (upd H p (.dK (mkL c l (k + 1)))) := fun b o hb _ e => (upd_ne hb).trans e
    generalize upd H p (.dK (mkL c l (k + 1))) = H1 at hp1 hc1 hl1 e1
    have zl : (zs.map V.int).length = zs.length := List.length_map _
    refine ⟨_, rfl, _, rfl, p, _, rfl, gCL hp1, c, _, rfl, .inl (SqL.of hc1), _, _, rfl, rfl, (by show (0 : Int) < ((zs.map V.int).length : Nat); rw [zl]; omega), ?_⟩
    dsimp only
    rw [zl]
    have i0 : 0 ≤ k % ((zs.length : Nat) : Int) := Int.emod_nonneg _ (by omega)
    have i1 : k % ((zs.length : Nat) : Int) < ((zs.length : Nat) : Int) := Int.emod_lt_of_pos _ (by omega)
    generalize k % ((zs.length : Nat) : Int) = i at i0 i1
    obtain ⟨j, d, ej, hj, hd, ad⟩ := int_at (zs := ds) i0 (by rw [← hzd]; exact i1)
    obtain ⟨_, z, _, _, _, az⟩ := int_at (zs := zs) i0 i1
    subst ej
    refine ⟨_, rfl, p, _, rfl, gFL hp1, _, rfl, l, _, _, _, rfl, rfl, SqL.of hl1, ad, ?_⟩
    have fin : ∀ {H' : Hp} {ds' : List Int}, H' p = some (.dK (mkL c l (k + 1))) → H' c = some (.lst (zs.map V.int)) → H' l = some (.lst (ds'.map V.int)) → zs.length = ds'.length → (∀ d ∈ ds', 0 ≤ d) → ML H' p c l (n + 1) := fun {H' ds'} a1 a2 a3 a4 a5 => ⟨⟨zs, ds', k + 1, a1, a2, a3, a4, hz0, hz63, a5, by omega, by omega⟩, M.ne, by omega⟩
    have dn := hd0 d (List.mem_of_getElem? hd)
    refine ⟨_, rfl, _, _, rfl, rfl, _, rfl, ite2 (fun hb => ?_) (fun _ => ?_)⟩
    · have ix : ixN (ds.map V.int).length ((j : Nat) : Int) = some j := ix_nat (by rw [List.length_map]; exact hj)
      refine ⟨_, rfl, _, rfl, _, _, rfl, rfl, ⟨h0, h1⟩, _, rfl, p, _, rfl, gFL hp1, _, rfl, l, _, _, j, rfl, rfl, hl1, ix, ?_⟩
      have es : (ds.map V.int).set j (V.int (d / many)) = (ds.set j (d / many)).map V.int := (List.map_set).symm
      rw [es]
      have e2 : ExtL p l H (upd H1 l (.lst ((ds.set j (d / many)).map V.int))) := fun b o hb hl' e => (upd_ne hl').trans (e1 b o hb hl' e)
      refine ⟨_, rfl, _, rfl, _, _, rfl, rfl, h0, ?_⟩
      refine kk _ _ (fin (ds' := ds.set j (d / many)) ((upd_ne npl).trans hp1) ((upd_ne M.ne).trans hc1) upd_same (by rw [List.length_set]; exact hzd) fun x hx => ?_) e2 (Int.emod_nonneg _ (by omega)) (Int.emod_lt_of_pos _ h0)
      rcases List.mem_or_eq_of_mem_set hx with h | h
      · exact hd0 x h
      · rw [h]
        exact Int.ediv_nonneg dn (Int.le_of_lt h0)
    · refine ⟨_, rfl, p, _, rfl, gCL hp1, _, rfl, c, _, _, _, rfl, rfl, SqL.of hc1, az, _, rfl, z, k, rfl, hk0, by omega, fun r r0 r1 => ?_⟩
      refine ⟨_, rfl, _, _, rfl, rfl, r, 40 + k, rfl, by omega, by omega, fun g g0 g1 => ?_⟩
      refine ⟨_, rfl, _, _, rfl, rfl, .inr ⟨by decide, by decide⟩, _, rfl, _, rfl, _, _, rfl, rfl, g, 7 + k, rfl, by omega, by omega, fun q q0 q1 => ?_⟩
      refine ⟨_, _, rfl, rfl, _, _, rfl, rfl, ⟨by decide, by decide⟩, _, rfl, _, _, rfl, rfl, h0, ?_⟩
      exact kk _ _ (fin hp1 hc1 hl1 hzd hd0) e1 (Int.emod_nonneg _ (by omega)) (Int.emod_lt_of_pos _ h0)
end
end One
end P_S1

section P_S2
set_option linter.all false
set_option maxRecDepth 100000
set_option maxHeartbeats 8000000
namespace One
open PySem PySem.Spec PyProof.Rows L2
theorem dp_ints {K : PySem.W.Frag} {H : Hp} : ∀ ns : List Int, DpAll K H (ns.map V.int) (ns.map PyData.int)
  | [] => .nil
  | x :: r => .cons (.int x) (dp_ints r)
theorem ints_depth : ∀ ns : List Int, PyData.depthAll (ns.map PyData.int) = 0
  | [] => rfl
  | x :: r => by
    show max 0 (PyData.depthAll (r.map PyData.int)) = 0
    rw [ints_depth r]
    rfl
theorem ints_lay : ∀ ns : List Int, PyData.canLayAll0 (ns.map PyData.int) = true
  | [] => rfl
  | x :: r => by
    show (PyData.canLay0 (.int x) && PyData.canLayAll0 (r.map PyData.int)) = true
    rw [ints_lay r]
    rfl
theorem ints_shaped (ns : List Int) : SeqAt.shaped (.list (ns.map PyData.int)) = true := by
  unfold SeqAt.shaped
  have h1 : PyData.canLay0 (.list (ns.map PyData.int)) = true := ints_lay ns
  have h2 : PyData.depth (.list (ns.map PyData.int)) ≤ 64 := by
    show PyData.depthAll (ns.map PyData.int) + 1 ≤ 64
    rw [ints_depth]
    decide
  rw [h1, decide_eq_true h2]
  rfl
theorem nats_ne (ns : List Nat) : PyData.eqv (.list ((ns.map fun x => ((x : Nat) : Int)).map PyData.int)) (.list []) = ns.isEmpty := by
  cases ns <;> rfl
theorem ML.apart {H : Hp} {p a l q : Addr} {n : Nat} (M : ML H p a l n) (h : H q = none) : q ≠ p ∧ q ≠ l := by
  obtain ⟨zs, ds, k, h1, h2, h3, _⟩ := M.ex
  exact ⟨fun z => (by rw [z, h1] at h; cases h), fun z => (by rw [z, h3] at h; cases h)⟩
/-- a list made since is written -/
theorem ML.wrN {H0 H : Hp} {p a l q : Addr} {n0 n : Nat} {o : HO} (M0 : ML H0 p a l n0) (h0 : H0 q = none) (M : ML H p a l n) : ML (upd H q o) p a l n := by
  obtain ⟨zs, ds, k, g1, g2, g3, _⟩ := M0.ex
  obtain ⟨zs', ds', k', h1, h2, h3, r⟩ := M.ex
  exact ⟨⟨zs', ds', k', (upd_ne (ne_of_none g1 h0)).trans h1, (upd_ne (ne_of_none g2 h0)).trans h2, (upd_ne (ne_of_none g3 h0)).trans h3, r⟩, M.ne, M.nn⟩
theorem ExtL.wr {p l q : Addr} {H H' : Hp} {o : HO} (e : ExtL p l H H') (h : H q = none) : ExtL p l H (upd H' q o) := fun b u hb hl hu => by
  rw [upd_ne (ne_of_none hu h)]
  exact e b u hb hl hu
abbrev sOR : Stmt := top 43
abbrev nOR : List Str := ["state", "size", "left", "found"]
theorem scOR : FnScope nOR ["state", "size"] (defScope sOR) := ⟨rfl, rfl, rfl, by decide +kernel, rfl, by decide +kernel, by decide +kernel⟩
def spOR : Sp := fun vs H Q _ => ∃ (p a l : Addr) (n size : Nat), vs = [.ref p, .int (size : Nat)] ∧ ML H p a l n ∧ size ≤ 1000 ∧ n + size ≤ 1000000 ∧
  ∀ (H' : Hp) (b : Addr) (ms : List Nat), ML H' p a l (n + size) → ExtL p l H H' → H b = none → H' b = some (.lst (nats ms)) → ms.Perm (List.range size) → Q (.ref b) H'
section
variable {P : Program} {w : World} {K : PySem.W.Frag} {mg : Str → Option Value} {base : Heap}
theorem ok_order {f fN : Addr} {fd fdN : FuncData} (F : Fun K "_law_order" "_law_order" sOR f fd) (T : TB mg) (N : Cal K mg "_law_draw" fN fdN ["state", "many"]) (GN : FnOk P w K mg base CX0 2 fN fdN ["state", "many"] spDR) : FnOk P w K mg base CX0 3 f fd ["state", "size"] (spOR) := by
  refine F.ok scOR (fun vs H Q E h => ?_) (fun cdv A outer s H vs Q E hr h => ?_)
  · obtain ⟨p, a, l, n, size, rfl, _⟩ := h
    rfl
  · obtain ⟨p, a, l, n, size, rfl, M, h1000, hn, k⟩ := h
    obtain ⟨ns, ens, lns⟩ : ∃ ns, ns = List.range size ∧ ns.length = size := ⟨_, rfl, List.length_range⟩
    have nd := scOR.nd
    have hu2 : (A.deeper (envOfC "_law_order" (defScope sOR) s.heap.objs.size f cdv)).units + 64 < cLine := hr.units
    refine ⟨_, C8.pss_cut (ps_par (i := 2) (j := 3) (by rfl) nd rfl rfl (by decide) rfl rfl (pa_cons (pe_listRg (by rfl) (by rfl) T.list (prg_1 (by rfl) T.range (pv 1))) (pa_cons (pe_lst pa_nil) pa_nil)) (by rfl))
      (pss_cons (ps_while PassesOwn.never (pt_cmpR (op_neD (by exact hu2)) (pv 2) (pe_lst pa_nil) (nomark _))
        (pss_one (ps_expr (pe_bm PySem.F.plainAttrs_list PySem.F.slot_list_append PySem.F.type_list_append mt_append (pv 3) (pa_cons (pe_bm PySem.F.plainAttrs_list PySem.F.slot_list_pop PySem.F.type_list_pop mt_popAt (pv 2) (pa_cons (pe_call GN hr rfl N.g N.kp N.b .nil pass0 (pa_cons (pv 0) (pa_cons (pe_callB call_len_seq (by rfl) T.len PySem.boot_len (pa_cons (pv 2) pa_nil)) pa_nil))) pa_nil)) pa_nil)))))
      (pss_one (ps_ret (pv 3)))), ?_⟩
    refine ⟨fun σ H2 => ∃ (b c : Addr) (left done : List Nat) (n' : Nat), σ = [some (.ref p), some (.int (size : Nat)), some (.ref b), some (.ref c)] ∧ H b = none ∧ H c = none ∧ b ≠ c ∧ H2 b = some (.lst (nats left)) ∧ H2 c = some (.lst (nats done)) ∧ (left ++ done).Perm ns ∧ ML H2 p a l n' ∧ n' + left.length = n + ns.length ∧ ExtL p l H H2, ?_, ?_⟩
    · refine ⟨_, rfl, _, rfl, RgOk.of_le (by omega) (by omega) (by omega) (by omega), ?_⟩
      rw [nats_range, ← ens]
      refine fun b hb => ⟨Nat.zero_le _, fun c hc => ⟨_, _, rfl, ?_⟩⟩
      have s1 := Same.new (o := .lst (nats ns)) hb
      have s2 := Same.new (o := .lst []) hc
      have hbc : b ≠ c := ne_of_none upd_same hc
      exact ⟨b, c, ns, [], n, rfl, hb, s1.free hc, hbc, s2 _ _ upd_same, upd_same, by rw [List.append_nil], M.keep (s1.trans s2), rfl, ExtL.same (s1.trans s2)⟩
    · rintro σ0 H0 ⟨b, c, left0, done0, n0, rfl, hb, hc, hbc, hb0, hc0, hp0, M0, hn0, e0⟩
      unfold tSeq
      refine while_by (fun σ H2 => ∃ (left done : List Nat) (n' : Nat), σ = [some (.ref p), some (.int (size : Nat)), some (.ref b), some (.ref c)] ∧ H2 b = some (.lst (nats left)) ∧ H2 c = some (.lst (nats done)) ∧ (left ++ done).Perm ns ∧ ML H2 p a l n' ∧ n' + left.length = n + ns.length ∧ ExtL p l H H2)
        (fun σ H2 => match H2 b with
          | some (.lst xs) => xs.length
          | _ => 0) ⟨left0, done0, n0, rfl, hb0, hc0, hp0, M0, hn0, e0⟩ ?_ ?_
      · rintro σ H2 ⟨left, done, n', rfl, hb2, hc2, hp2, M2, hn2, e2⟩
        refine ⟨_, rfl, Nat.zero_le _, fun z hz => ?_⟩
        have sz := Same.new (o := .lst []) hz
        have hb3 := sz _ _ hb2
        have hc3 := sz _ _ hc2
        have M3 := M2.keep sz
        have e3 := e2.trans (ExtL.same sz)
        have ll : (left ++ done).length = ns.length := hp2.length_eq
        rw [List.length_append] at ll
        refine ⟨.list ((left.map fun x => ((x : Nat) : Int)).map PyData.int), .list [], (by
          refine .lst (SqL.of hb3) ?_
          rw [nats_ints]
          exact dp_ints _), .lst (SqL.of upd_same) .nil, ints_shaped _, rfl, _, rfl, ?_⟩
        rw [nats_ne]
        generalize hH3 : upd H2 z (.lst []) = H3 at hb3 hc3 M3 e3
        have mu : (match H2 b with
          | some (.lst xs) => xs.length
          | _ => 0) = left.length := by
          rw [hb2]
          exact List.length_map _
        cases left with
        | nil =>
          refine iteF ⟨_, rfl, k _ c done (M3.lt (by
            have : n' + ([] : List Nat).length = n + ns.length := hn2
            rw [List.length_nil] at this
            omega) (by omega)) e3 hc hc3 (ens ▸ hp2)⟩
        | cons x0 r0 =>
          have nlen : (nats (x0 :: r0)).length = (x0 :: r0).length := List.length_map _
          have hpos : 0 < (x0 :: r0).length := Nat.succ_pos _
          have nn : n' + (x0 :: r0).length = n + ns.length := hn2
          refine iteT ⟨_, rfl, .inl ⟨rfl, _, SqL.of hc3⟩, _, rfl, .inl ⟨rfl, _, SqL.of hb3⟩, _, rfl, _, rfl, b, _, rfl, .inl (SqL.of hb3), p, a, l, n', _, rfl, M3, by omega, by omega, by omega, fun H4 r M4 e4 q0 q1 => ?_⟩
          obtain ⟨j, rfl⟩ : ∃ j : Nat, r = (j : Nat) := ⟨r.toNat, by omega⟩
          rw [nlen] at q1
          have hj : j < (x0 :: r0).length := by omega
          obtain ⟨nbp, nbl⟩ := M.apart hb
          obtain ⟨ncp, ncl⟩ := M.apart hc
          have hb4 := e4 _ _ nbp nbl hb3
          have hc4 := e4 _ _ ncp ncl hc3
          obtain ⟨x, hx⟩ : ∃ x, (x0 :: r0)[j]? = some x := ⟨_, List.getElem?_eq_getElem hj⟩
          have hj' : seqIndex? ((j : Nat) : Int) (nats (x0 :: r0)).length = some j := seq_ix (by rw [nlen]; exact hj)
          refine ⟨b, _, _, j, _, rfl, rfl, hb4, by omega, by omega, hj', nats_at hx, ?_⟩
          rw [nats_erase]
          have M5 : ML (upd H4 b (.lst (nats ((x0 :: r0).eraseIdx j)))) p a l (n' + 1) := ML.wrN M hb M4
          have hc5 : (upd H4 b (.lst (nats ((x0 :: r0).eraseIdx j)))) c = some (.lst (nats done)) := (upd_ne (Ne.symm hbc)).trans hc4
          have e5 : ExtL p l H (upd H4 b (.lst (nats ((x0 :: r0).eraseIdx j)))) := (e3.trans e4).wr hb
          have hb5 : (upd H4 b (.lst (nats ((x0 :: r0).eraseIdx j)))) b = some (.lst (nats ((x0 :: r0).eraseIdx j))) := upd_same
          generalize upd H4 b (.lst (nats ((x0 :: r0).eraseIdx j))) = H5 at M5 hc5 e5 hb5
          refine ⟨c, _, _, rfl, rfl, hc5, small1000 (by rw [List.length_map]; omega), ?_⟩
          have hper := erase_perm hx
          have hle : ((x0 :: r0).eraseIdx j).length + 1 = (x0 :: r0).length := by
            have : (x0 :: r0).length = ((x0 :: r0).eraseIdx j).length + 1 := hper.length_eq
            omega
          refine ⟨⟨(x0 :: r0).eraseIdx j, done ++ [x], n' + 1, rfl, (upd_ne hbc).trans hb5, ?_, ?_, ML.wrN M hc M5, by omega, e5.wr hc⟩, ?_⟩
          · rw [upd_same, nats_app]
            rfl
          · refine List.Perm.trans ?_ hp2
            refine List.Perm.trans ?_ (List.Perm.append_right _ hper.symm)
            show ((x0 :: r0).eraseIdx j ++ (done ++ [x])).Perm (x :: ((x0 :: r0).eraseIdx j ++ done))
            rw [← List.append_assoc]
            exact List.perm_append_comm
          · rw [mu]
            show (match (upd H5 c (.lst (nats done ++ [V.int (x : Nat)]))) b with
              | some (.lst xs) => xs.length
              | _ => 0) < _
            rw [upd_ne hbc, hb5]
            show (nats ((x0 :: r0).eraseIdx j)).length < _
            rw [List.length_map]
            omega
      · intro σ H1 Q1 Q2 hq h
        obtain ⟨v, e1, e2, h⟩ := h
        refine ⟨v, e1, e2, fun z hz => ?_⟩
        obtain ⟨d, e, h1, h2, h3, h4, kk, h5, q⟩ := h z hz
        exact ⟨d, e, h1, h2, h3, h4, kk, h5, hq _ _ q⟩
end
end One
end P_S2

section P_S3
set_option linter.all false
set_option maxRecDepth 100000
set_option maxHeartbeats 8000000
namespace One
open PySem PySem.Spec PyProof.Rows L2
abbrev sBG : Stmt := top 41
abbrev nBG : List Str := ["script", "cells", "cell"]
theorem scBG : FnScope nBG ["script"] (defScope sBG) := ⟨rfl, rfl, rfl, by decide +kernel, rfl, by decide +kernel, by decide +kernel⟩
def spBG (K : PySem.W.Frag) : Sp := fun vs H Q _ => ∃ (a : Addr) (ns : List Int), vs = [.ref a] ∧ SqL K H a (ns.map V.int) ∧ ns.length ≤ 63 ∧
  ∀ (H' : Hp) (p c l : Addr), Same H H' → H p = none → H c = none → H l = none → ML H' p c l 0 → Q (.ref p) H'
def tIfI : TE := tIf (tTest (tOp (rI0 fun i j => .bl (decide (j ≤ i))) (tVar 2) (tOp (rI CPow fun i j => .int (i ^ j.toNat)) (tC (.int 10)) (tC (.int 18))))) (tVar 2) (tC (.int 0))
section
variable {P : Program} {w : World} {K : PySem.W.Frag} {mg : Str → Option Value} {base : Heap}
theorem ok_begin {f : Addr} {fd : FuncData} (F : Fun K "_law_begin" "_law_begin" sBG f fd) (T : TB mg) : FnOk P w K mg base CX0 1 f fd ["script"] (spBG K) := by
  refine F.ok scBG (fun vs H Q E h => ?_) (fun cdv A outer s H vs Q E hr h => ?_)
  · obtain ⟨a, ns, rfl, _⟩ := h
    rfl
  · obtain ⟨a, ns, rfl, hS, hl, k⟩ := h
    have nd := scBG.nd
    have hu : (A.deeper (envOfC "_law_begin" (defScope sBG) s.heap.objs.size f cdv)).units + 64 < cLine := hr.units
    refine ⟨_, pss_cons (ps_set (i := 1) nd rfl (Or.inl rfl) (pe_mid (pe_ifExp (pt_cmpR (op_neD (by exact hu)) (pv 0) (pe_lst pa_nil) (nomark _)) (pe_callTy call_list_of (by rfl) T.list (by decide +kernel) (pa_cons (pv 0) pa_nil) (by decide)) (pe_lst (pa_cons pe_int pa_nil)))))
      (pss_one (ps_ret (pe_disp (pps_cons pe_str (pv 1) (pps_cons pe_str (pe_lc (own := [("cell", 2)]) (g := (gName 2)) (tt := tYes) (te := (tIf (tTest (tOp (rI0 fun i j => .bl (decide (j ≤ i))) (tVar 2) (tOp (rI CPow fun i j => .int (i ^ j.toNat)) (tC (.int 10)) (tC (.int 18))))) (tVar 2) (tC (.int 0)))) rfl nd (pi_list (pv 1)) (blkOk_by (N := nBG) (sc := defScope sBG) (by decide +kernel)) (fun _ _ _ _ _ => pg_name (i := 2) nd rfl (Or.inl rfl)) (fun _ _ _ _ _ => pts_nil) (fun _ _ _ _ _ => by exact (pe_ifExp (pt_cmpR op_ge (pv 2) (pe_op op_pow pe_int pe_int) (nomark _)) (pv 2) pe_int))) (pps_cons pe_str pe_int pps_nil))) (by rfl) (by rfl) (fun z => by cases z) (by decide)))), ?_⟩
    refine ⟨fun v H1 => ∃ (c : Addr) (zs : List Int), v = .ref c ∧ H c = none ∧ H1 c = some (.lst (zs.map V.int)) ∧ 0 < zs.length ∧ zs.length ≤ 63 ∧ Same H H1, ?_, ?_⟩
    · refine ⟨_, rfl, Nat.zero_le _, fun l0 hl0 => ?_⟩
      have s0 := Same.new (o := .lst []) hl0
      have hS0 := s0.seq hS
      refine ⟨.list (ns.map PyData.int), .list [], .lst hS0 (dp_ints ns), .lst (SqL.of upd_same) .nil, ints_shaped ns, rfl, _, rfl, ?_⟩
      cases ns with
      | nil =>
        refine iteF ⟨by show 1 ≤ sizeLine; decide, fun c hc => ⟨c, [0], rfl, s0.free hc, upd_same, Nat.one_pos, by show 1 ≤ 63; decide, s0.trans (Same.new hc)⟩⟩
      | cons x r =>
        refine iteT ⟨_, rfl, a, _, rfl, .inl hS0, fun c hc => ⟨c, x :: r, rfl, s0.free hc, upd_same, Nat.succ_pos _, hl, s0.trans (Same.new hc)⟩⟩
    · rintro v H1 ⟨c, zs, rfl, hc0, hc, hz0, hz63, s1⟩
      refine fun p hp => ?_
      have sp := Same.new (o := .dK []) hp
      have hp1 : (upd H1 p (.dK [])) p = some (.dK []) := upd_same
      have hc1 := sp _ _ hc
      have s1p := s1.trans sp
      have hp0 := s1.free hp
      generalize upd H1 p (.dK []) = H2 at hp1 hc1 s1p
      refine ⟨_, rfl, _, rfl, c, rfl, ⟨_, SqL.of hc1⟩, fun D hD => ?_⟩
      have sD := Same.new (o := .lst []) hD
      refine lc_it (walk_list (K := K) (a := c) (xs := zs.map V.int)) (fun i H6 => ∃ ds : List Int, ds.length = i ∧ H6 D = some (.lst (ds.map V.int)) ∧ (∀ d ∈ ds, 0 ≤ d) ∧ Same H2 H6) ⟨[], rfl, upd_same, fun d h => absurd h (by simp), sD⟩ (fun i H6 _ ⟨_, _, _, _, s'⟩ => SqL.of (s' _ _ hc1)) ?_ ?_
      · rintro i x H6 H7 hi ⟨ds, ld, h6, d6, s6⟩ ⟨rfl, hx⟩
        have hx : (zs.map V.int)[i]? = some x := hx
        rw [List.length_map] at hi
        rw [List.getElem?_map, List.getElem?_eq_getElem hi] at hx
        cases hx
        generalize zs[i] = z
        have fin : ∀ d : Int, 0 ≤ d → ∃ acc, H7 D = some (.lst acc) ∧ acc.length < sizeLine ∧ ∃ ds' : List Int, ds'.length = i + 1 ∧ (upd H7 D (.lst (acc ++ [V.int d]))) D = some (.lst (ds'.map V.int)) ∧ (∀ d ∈ ds', 0 ≤ d) ∧ Same H2 (upd H7 D (.lst (acc ++ [V.int d]))) := fun d hd => by
          refine ⟨_, h6, small1000 (by rw [List.length_map]; omega), ds ++ [d], by rw [List.length_append, ld]; rfl, ?_, fun q hq => ?_, fun b o e => ?_⟩
          · rw [upd_same, List.map_append]
            rfl
          · rcases List.mem_append.mp hq with h | h
            · exact d6 q h
            · rw [List.mem_singleton.mp h]
              exact hd
          · rw [upd_ne (ne_of_none e hD)]
            exact s6 _ _ e
        refine ⟨rfl, yes ⟨_, rfl, _, _, rfl, rfl, ⟨by decide, by decide, by decide⟩, _, _, rfl, rfl, _, rfl, ite2 (fun hb => ?_) (fun _ => ?_)⟩⟩
        · have hz : (10 : Int) ^ (18 : Int).toNat ≤ z := of_decide_eq_true hb
          exact ⟨_, rfl, fin z (Int.le_trans (by decide) hz)⟩
        · exact fin 0 (Int.le_refl _)
      · rintro H6 ⟨ds, ld, h6, d6, s6⟩
        rw [List.length_map] at ld
        have hp6 := s6 _ _ hp1
        have hc6 := s6 _ _ hc1
        refine ⟨hp6, [(kC, .ref c), (kF, .ref D), (kT, .int 0)], rfl, by show 3 ≤ 15; decide, ?_⟩
        have ncp : c ≠ p := ne_of hc6 hp6 (by intro z; cases z)
        have nDp : D ≠ p := ne_of h6 hp6 (by intro z; cases z)
        have ncD : c ≠ D := ne_of_none hc1 hD
        have s7 : Same H (upd H6 p (.dK (mergeK [] [(kC, V.ref c), (kF, .ref D), (kT, .int 0)]))) := fun b o e => by
          rw [upd_ne (ne_of_none e hp0)]
          exact s6 _ _ (s1p _ _ e)
        exact k _ p c D s7 hp0 hc0 (s1p.free hD) ⟨⟨zs, ds, 0, by rw [upd_same, mkL_make], (upd_ne ncp).trans hc6, (upd_ne nDp).trans h6, ld.symm, hz0, hz63, d6, Int.le_refl _, Int.le_refl _⟩, ncD, by decide⟩
end
end One
end P_S3

section P_S4
set_option linter.all false
set_option maxRecDepth 100000
set_option maxHeartbeats 8000000
namespace One
open PySem PySem.Spec PyProof.Rows L2
abbrev sAC : Stmt := top 44
abbrev nAC : List Str := ["lines", "many", "one", "other", "base", "kept", "begin", "end", "start", "stop", "number", "line"]
theorem scAC : FnScope nAC ["lines", "many", "one", "other"] (defScope sAC) := ⟨rfl, rfl, rfl, by decide +kernel, rfl, by decide +kernel, by decide +kernel⟩
def spAC : Sp := fun vs H Q _ => ∃ (L : Addr) (as : List Addr) (ps : List (Nat × Nat)) (n i j : Nat) (a b : Nat × Nat), vs = [.ref L, .int (n : Nat), .int (i : Nat), .int (j : Nat)] ∧ H L = some (.lst (refs as)) ∧ PL H as ps ∧ ps.length ≤ 200 ∧ ps[i]? = some a ∧ ps[j]? = some b ∧
  ∀ (H' : Hp) (L' : Addr) (bs : List Addr), Same H H' → H L' = none → H' L' = some (.lst (refs bs)) → PL H' bs (putOn n ps i j a b) → Q (.ref L') H'
section
variable {P : Program} {w : World} {K : PySem.W.Frag} {mg : Str → Option Value} {base : Heap}
theorem ok_across {f : Addr} {fd : FuncData} (F : Fun K "_law_across" "_law_across" sAC f fd) (T : TB mg) : FnOk P w K mg base CX0 1 f fd ["lines", "many", "one", "other"] spAC := by
  refine F.ok scAC (fun vs H Q E h => ?_) (fun cdv A outer s H vs Q E hr h => ?_)
  · obtain ⟨L, as, ps, n, i, j, a, b, rfl, _⟩ := h
    rfl
  · obtain ⟨L, as, ps, n, i, j, a, b, rfl, hL, hP, h200, ha, hb, k⟩ := h
    have nd := scAC.nd
    refine ⟨_, pss_cons (ps_set (i := 4) nd rfl (Or.inl rfl) (pe_op op_mul pe_int (pv 1)))
      (pss_cons (ps_setLc (i := 5) (own := [("number", 10), ("line", 11)]) (g := (gTup K 2 (gCons (gName 10) (gCons (gName 11) gNil)))) (tt := (tAnd (tTest (tOp rNe (tVar 10) (tVar 2))) (tTest (tOp rNe (tVar 10) (tVar 3))))) (te := (tVar 11)) rfl nd rfl rfl (sw_true rfl rfl rfl (by decide +kernel)) (pi_enum (by rfl) T.enumerate (pa_cons (pv 0) pa_nil)) (blkOk_by (N := nAC) (sc := defScope sAC) (by decide +kernel)) (fun _ _ _ _ _ => pg_tup rfl (pgs_cons (pg_name (i := 10) nd rfl (Or.inl rfl)) (pgs_cons (pg_name (i := 11) nd rfl (Or.inl rfl)) pgs_nil))) (fun _ _ _ _ _ => pts_one (PW.pt (pw_and (pt_cmpR op_ne (pv 10) (pv 2) (nomark _)) (pw_and1 (pt_cmpR op_ne (pv 10) (pv 3) (nomark _)))))) (fun _ _ _ _ _ => by exact (pv 11)))
      (pss_cons (ps_asg (pe_ix ix_list (pv 0) (pv 2) (fun _ _ => rfl)) (pg_tup rfl (pgs_cons (pg_name (i := 6) nd rfl (Or.inl rfl)) (pgs_cons (pg_name (i := 7) nd rfl (Or.inl rfl)) pgs_nil))))
      (pss_cons (ps_asg (pe_ix ix_list (pv 0) (pv 3) (fun _ _ => rfl)) (pg_tup rfl (pgs_cons (pg_name (i := 8) nd rfl (Or.inl rfl)) (pgs_cons (pg_name (i := 9) nd rfl (Or.inl rfl)) pgs_nil))))
      (pss_cons (ps_if (pt_cmpR op_eq (pv 2) (pv 3) (nomark _)) (pss_one (ps_ret (pe_op op_catS (pv 5) (pe_lst (pa_cons (pe_tup (pa_cons (pv 6) (pa_cons (pv 4) pa_nil))) (pa_cons (pe_tup (pa_cons (pe_op op_add (pv 4) pe_int) (pa_cons (pe_op op_add (pv 4) pe_int) pa_nil))) (pa_cons (pe_tup (pa_cons (pv 7) (pa_cons (pe_op op_add (pv 4) pe_int) pa_nil))) pa_nil))))))) pss_nil)
      (pss_one (ps_ret (pe_op op_catS (pv 5) (pe_lst (pa_cons (pe_tup (pa_cons (pv 6) (pa_cons (pv 4) pa_nil))) (pa_cons (pe_tup (pa_cons (pv 7) (pa_cons (pe_op op_add (pv 4) pe_int) pa_nil))) (pa_cons (pe_tup (pa_cons (pv 8) (pa_cons (pe_op op_add (pv 4) pe_int) pa_nil))) (pa_cons (pe_tup (pa_cons (pv 9) (pa_cons (pe_op op_add (pv 4) pe_int) pa_nil))) pa_nil)))))))))))), ?_⟩
    have hal := hP.len
    refine ⟨_, rfl, _, _, rfl, rfl, .inl ⟨by decide, by decide⟩, ?_⟩
    refine ⟨_, rfl, L, _, rfl, SqL.of hL, fun D hD => ?_⟩
    have sD := Same.new (o := .lst []) hD
    refine lc_it (walk_enum (K := K) (a := L) (xs := refs as)) (fun k H6 => H6 D = some (.lst (refs (keepIx (notIJ i j) 0 (as.take k)))) ∧ Same H H6) ⟨upd_same, sD⟩ (fun k H6 _ h => SqL.of (h.2 _ _ hL)) ?_ ?_
    · rintro q x H6 H7 hk ⟨hD6, s6⟩ ⟨T', x', y', rfl, hT, rfl, ex, ey⟩
      cases ex
      have hk' : q < as.length := by rw [List.length_map] at hk; exact hk
      have ey : (refs as)[q]? = some y' := ey
      rw [List.getElem?_map, List.getElem?_eq_getElem hk'] at ey
      cases ey
      have s7 := Same.new (o := .tup [V.int (q : Nat), V.ref as[q]]) hT
      have hsn : keepIx (notIJ i j) 0 (as.take (q + 1)) = keepIx (notIJ i j) 0 (as.take q) ++ (if notIJ i j q then [as[q]] else []) := by
        rw [List.take_succ, List.getElem?_eq_getElem hk', Option.toList_some, keepIx_snoc, List.length_take, Nat.zero_add, Nat.min_eq_left (Nat.le_of_lt hk')]
      have hD7 := s7 _ _ hD6
      have s17 := s6.trans s7
      have dn : ∀ z : Nat, decide (V.int (q : Nat) = V.int (z : Nat)) = decide (q = z) := fun z => decide_eq_decide.mpr ⟨fun e => by
        have := V.int.inj e
        omega, fun e => by rw [e]⟩
      refine ⟨T', _, rfl, SqT.of upd_same, rfl, _, _, rfl, _, _, rfl, rfl, rfl, _, rfl, _, rfl, rfl, _, rfl, ?_⟩
      rw [dn]
      have yesk : notIJ i j q = true → ∃ acc, (upd H6 T' (.tup [V.int (q : Nat), V.ref as[q]])) D = some (.lst acc) ∧ acc.length < sizeLine ∧ (upd (upd H6 T' (.tup [V.int (q : Nat), V.ref as[q]])) D (.lst (acc ++ [V.ref as[q]]))) D = some (.lst (refs (keepIx (notIJ i j) 0 (as.take (q + 1))))) ∧ Same H (upd (upd H6 T' (.tup [V.int (q : Nat), V.ref as[q]])) D (.lst (acc ++ [V.ref as[q]]))) := fun hb => by
        refine ⟨_, hD7, small1000 ?_, ?_, fun b o e => ?_⟩
        · rw [List.length_map]
          have := keepIx_length_le (notIJ i j) 0 (as.take q)
          rw [List.length_take] at this
          omega
        · rw [upd_same, hsn, if_pos hb, refs_app]
          rfl
        · rw [upd_ne (ne_of_none e hD)]
          exact s17 _ _ e
      have nok : ¬ notIJ i j q = true → (upd H6 T' (.tup [V.int (q : Nat), V.ref as[q]])) D = some (.lst (refs (keepIx (notIJ i j) 0 (as.take (q + 1))))) ∧ Same H (upd H6 T' (.tup [V.int (q : Nat), V.ref as[q]])) := fun hb => by
        refine ⟨?_, s17⟩
        rw [hsn, if_neg hb, List.append_nil]
        exact hD7
      unfold notIJ at yesk nok
      cases h1 : decide (q = i) with
      | true =>
        rw [h1] at nok
        exact iteF (iteF (nok (by simp)))
      | false =>
        refine iteT ⟨_, rfl, _, rfl, rfl, _, rfl, ?_⟩
        rw [dn]
        cases h2 : decide (q = j) with
        | true =>
          rw [h1, h2] at nok
          exact iteF (nok (by simp))
        | false =>
          rw [h1, h2] at yesk
          exact iteT ⟨_, rfl, yesk (by simp)⟩
    · rintro H6 ⟨hD6, s6⟩
      have e6 : as.take (refs as).length = as := by rw [List.length_map, List.take_length]
      rw [e6] at hD6
      have hL6 := s6 _ _ hL
      have hP6 := hP.mono (sameT s6)
      have lk := keepIx_length_le (notIJ i j) 0 as
      obtain ⟨a1, ha1, pa1⟩ := hP6.get ha
      obtain ⟨b1, hb1, pb1⟩ := hP6.get hb
      have hK6 := hP6.keep (notIJ i j) 0
      refine ⟨_, rfl, _, rfl, L, _, _, V.ref a1, rfl, rfl, SqL.of hL6, ref_at ha1, a1, _, rfl, SqT.of pa1, rfl, _, _, rfl, _, _, rfl, rfl, ?_⟩
      refine ⟨_, rfl, _, rfl, L, _, _, V.ref b1, rfl, rfl, SqL.of hL6, ref_at hb1, b1, _, rfl, SqT.of pb1, rfl, _, _, rfl, _, _, rfl, rfl, ?_⟩
      refine ⟨_, rfl, _, rfl, rfl, _, rfl, ?_⟩
      have lK : (refs (keepIx (notIJ i j) 0 as)).length ≤ 200 := by
        rw [List.length_map]
        omega
      by_cases hij : i = j
      · rw [show decide (V.int (i : Nat) = V.int (j : Nat)) = true from decide_eq_true (by rw [hij])]
        refine iteT ⟨_, rfl, _, rfl, _, rfl, two_le, fun t1 ht1 => ?_⟩
        have u1 := Same.new (o := .tup [V.int (a.1 : Nat), V.int (4 * ((n : Nat) : Int))]) ht1
        refine ⟨_, rfl, _, _, rfl, rfl, _, rfl, _, _, rfl, rfl, two_le, fun t2 ht2 => ?_⟩
        have u2 := Same.new (o := .tup [V.int (4 * ((n : Nat) : Int) + 1), V.int (4 * ((n : Nat) : Int) + 2)]) ht2
        refine ⟨_, rfl, _, rfl, _, _, rfl, rfl, two_le, fun t3 ht3 => ?_⟩
        have u3 := Same.new (o := .tup [V.int (a.2 : Nat), V.int (4 * ((n : Nat) : Int) + 3)]) ht3
        refine ⟨(by show 3 ≤ sizeLine; decide), fun l9 hl9 => ?_⟩
        have u9 := Same.new (o := .lst [V.ref t1, V.ref t2, V.ref t3]) hl9
        have uA := u1.trans (u2.trans (u3.trans u9))
        refine ⟨D, l9, _, _, rfl, rfl, SqL.of (uA _ _ hD6), upd_same, Nat.le_of_lt (small1000 (by show _ + 3 ≤ 1000; omega)), fun lA hlA => ?_⟩
        have uB := Same.new (o := .lst (refs (keepIx (notIJ i j) 0 as) ++ [V.ref t1, V.ref t2, V.ref t3])) hlA
        refine k _ lA (keepIx (notIJ i j) 0 as ++ [t1, t2, t3]) (s6.trans (uA.trans uB)) ((s6.trans uA).free hlA) (by rw [upd_same, refs_app]; rfl) ?_
        unfold putOn fresh
        rw [if_pos hij]
        exact (hK6.mono (sameT (uA.trans uB))).app (.cons (PAt.of (uB _ _ (u9 _ _ (u3 _ _ (u2 _ _ upd_same)))) rfl (by omega)) (.cons (PAt.of (uB _ _ (u9 _ _ (u3 _ _ upd_same))) (by omega) (by omega)) (.cons (PAt.of (uB _ _ (u9 _ _ upd_same)) rfl (by omega)) .nil)))
      · rw [show decide (V.int (i : Nat) = V.int (j : Nat)) = false from decide_eq_false (fun z => hij (by
          have z := V.int.inj z
          omega))]
        refine iteF ⟨_, rfl, _, rfl, _, rfl, two_le, fun t1 ht1 => ?_⟩
        have u1 := Same.new (o := .tup [V.int (a.1 : Nat), V.int (4 * ((n : Nat) : Int))]) ht1
        refine ⟨_, rfl, _, rfl, _, _, rfl, rfl, two_le, fun t2 ht2 => ?_⟩
        have u2 := Same.new (o := .tup [V.int (a.2 : Nat), V.int (4 * ((n : Nat) : Int) + 2)]) ht2
        refine ⟨_, rfl, _, rfl, _, _, rfl, rfl, two_le, fun t3 ht3 => ?_⟩
        have u3 := Same.new (o := .tup [V.int (b.1 : Nat), V.int (4 * ((n : Nat) : Int) + 1)]) ht3
        refine ⟨_, rfl, _, rfl, _, _, rfl, rfl, two_le, fun t4 ht4 => ?_⟩
        have u4 := Same.new (o := .tup [V.int (b.2 : Nat), V.int (4 * ((n : Nat) : Int) + 3)]) ht4
        refine ⟨(by show 4 ≤ sizeLine; decide), fun l9 hl9 => ?_⟩
        have u9 := Same.new (o := .lst [V.ref t1, V.ref t2, V.ref t3, V.ref t4]) hl9
        have uA := u1.trans (u2.trans (u3.trans (u4.trans u9)))
        refine ⟨D, l9, _, _, rfl, rfl, SqL.of (uA _ _ hD6), upd_same, Nat.le_of_lt (small1000 (by show _ + 4 ≤ 1000; omega)), fun lA hlA => ?_⟩
        have uB := Same.new (o := .lst (refs (keepIx (notIJ i j) 0 as) ++ [V.ref t1, V.ref t2, V.ref t3, V.ref t4])) hlA
        refine k _ lA (keepIx (notIJ i j) 0 as ++ [t1, t2, t3, t4]) (s6.trans (uA.trans uB)) ((s6.trans uA).free hlA) (by rw [upd_same, refs_app]; rfl) ?_
        unfold putOn fresh
        rw [if_neg hij]
        exact (hK6.mono (sameT (uA.trans uB))).app (.cons (PAt.of (uB _ _ (u9 _ _ (u4 _ _ (u3 _ _ (u2 _ _ upd_same))))) rfl (by omega)) (.cons (PAt.of (uB _ _ (u9 _ _ (u4 _ _ (u3 _ _ upd_same)))) rfl (by omega)) (.cons (PAt.of (uB _ _ (u9 _ _ (u4 _ _ upd_same))) rfl (by omega)) (.cons (PAt.of (uB _ _ (u9 _ _ upd_same)) rfl (by omega)) .nil))))
end
end One
end P_S4

section P_S5
set_option linter.all false
set_option maxRecDepth 100000
set_option maxHeartbeats 8000000
namespace One
open PySem PySem.Spec PyProof.Rows L2
theorem blocks_at : ∀ {l : List (Nat × List Nat)}, (∀ b ∈ l, b.2.length = 4) → ∀ {i r c : Nat} {ps : List Nat}, l[i]? = some (c, ps) → r < 4 → (blocks l).getD (4 * i + r) 0 = 4 * c + ps.getD r 0
  | [], _, i, r, c, ps, h, _ => by simp at h
  | b :: l, hb, 0, r, c, ps, h, hr => by
    cases Option.some.inj h
    have h4 : ps.length = 4 := hb (c, ps) (List.mem_cons_self ..)
    show (ps.map (fun p => 4 * c + p) ++ blocks l).getD (4 * 0 + r) 0 = _
    rw [Nat.mul_zero, Nat.zero_add, List.getD_eq_getElem?_getD, List.getElem?_append_left (by rw [List.length_map]; omega), List.getElem?_map, List.getElem?_eq_getElem (by omega), List.getD_eq_getElem?_getD, List.getElem?_eq_getElem (by omega)]
    rfl
  | b :: l, hb, i + 1, r, c, ps, h, hr => by
    have h4 : b.2.length = 4 := hb b (List.mem_cons_self ..)
    have ih := blocks_at (l := l) (fun x m => hb x (List.mem_cons_of_mem _ m)) (i := i) (r := r) (c := c) (ps := ps) (by simpa using h) hr
    show (b.2.map (fun p => 4 * b.1 + p) ++ blocks l).getD (4 * (i + 1) + r) 0 = _
    rw [List.getD_eq_getElem?_getD, List.getElem?_append_right (by rw [List.length_map]; omega), List.length_map, h4, show 4 * (i + 1) + r - 4 = 4 * i + r by omega, ← List.getD_eq_getElem?_getD]
    exact ih
/-- lists of numbers, none of them the draws' -/
inductive NLs (p l : Addr) (H : Hp) : List Addr → List (List Nat) → Prop
  | nil : NLs p l H [] []
  | cons {a q as qs} : H a = some (.lst (nats q)) → a ≠ p → a ≠ l → NLs p l H as qs → NLs p l H (a :: as) (q :: qs)
theorem NLs.len {p l : Addr} {H : Hp} {as : List Addr} {qs : List (List Nat)} (h : NLs p l H as qs) : as.length = qs.length := by
  induction h with
  | nil => rfl
  | cons _ _ _ _ ih => simp [ih]
theorem NLs.ext {p l : Addr} {H H' : Hp} {as : List Addr} {qs : List (List Nat)} (h : NLs p l H as qs) (e : ExtL p l H H') : NLs p l H' as qs := by
  induction h with
  | nil => exact .nil
  | cons h1 h2 h3 _ ih => exact .cons (e _ _ h2 h3 h1) h2 h3 ih
theorem NLs.keepN {p l D : Addr} {H : Hp} {o : HO} {as : List Addr} {qs : List (List Nat)} (h : NLs p l H as qs) (hD : D ∉ as) : NLs p l (upd H D o) as qs := by
  induction h with
  | nil => exact .nil
  | cons h1 h2 h3 _ ih => exact .cons ((upd_ne fun z => hD (by rw [z]; exact List.mem_cons_self ..)).trans h1) h2 h3 (ih fun m => hD (List.mem_cons_of_mem _ m))
theorem NLs.app {p l : Addr} {H : Hp} {as bs : List Addr} {qs rs : List (List Nat)} (h : NLs p l H as qs) (k : NLs p l H bs rs) : NLs p l H (as ++ bs) (qs ++ rs) := by
  induction h with
  | nil => exact k
  | cons h1 h2 h3 _ ih => exact .cons h1 h2 h3 ih
theorem NLs.get {p l : Addr} {H : Hp} {as : List Addr} {qs : List (List Nat)} (h : NLs p l H as qs) : ∀ {i : Nat} {q : List Nat}, qs[i]? = some q → ∃ a, as[i]? = some a ∧ H a = some (.lst (nats q)) := by
  induction h with
  | nil => intro i q e; simp at e
  | cons h1 _ _ _ ih =>
    intro i q e
    cases i with
    | zero =>
      cases Option.some.inj e
      exact ⟨_, rfl, h1⟩
    | succ i => exact ih (i := i) (by simpa using e)
theorem ends_of : ∀ {ps : List (Nat × Nat)} {q : Nat × Nat}, q ∈ ps → q.1 ∈ ends ps ∧ q.2 ∈ ends ps
  | [], q, h => absurd h (by simp)
  | r :: ps, q, h => by
    rcases List.mem_cons.mp h with rfl | h
    · exact ⟨by simp [ends], by simp [ends]⟩
    · obtain ⟨a, b⟩ := ends_of h
      exact ⟨by simp [ends, a], by simp [ends, b]⟩
abbrev sYD : Stmt := top 45
abbrev nYD : List Str := ["state", "many", "lines", "number", "one", "other", "calls", "places", "found", "line", "both", "end"]
theorem scYD : FnScope nYD ["state", "many"] (defScope sYD) := ⟨rfl, rfl, rfl, by decide +kernel, rfl, by decide +kernel, by decide +kernel⟩
def spYD : Sp := fun vs H Q _ => ∃ (p a l : Addr) (n many : Nat), vs = [.ref p, .int (many : Nat)] ∧ ML H p a l n ∧ n ≤ 900000 ∧ 0 < many ∧ many ≤ 40 ∧
  ∀ (H' : Hp) (t : Addr) (ps : List (Nat × Nat)), ML H' p a l (n + 7 * many) → ExtL p l H H' → YAt H' t many ps → Q (.ref t) H'
theorem min_low {x y : Nat} {m : Int} (hm : m ∈ [((x : Nat) : Int), ((y : Nat) : Int)]) (hle : ∀ z ∈ [((x : Nat) : Int), ((y : Nat) : Int)], m ≤ z) : m = (((low x y).1 : Nat) : Int) := by
  have h1 := hle ((x : Nat) : Int) (by simp)
  have h2 := hle ((y : Nat) : Int) (by simp)
  simp only [List.mem_cons, List.not_mem_nil, or_false] at hm
  unfold low
  split <;> (simp only; omega)
theorem max_low {x y : Nat} {m : Int} (hm : m ∈ [((x : Nat) : Int), ((y : Nat) : Int)]) (hle : ∀ z ∈ [((x : Nat) : Int), ((y : Nat) : Int)], z ≤ m) : m = (((low x y).2 : Nat) : Int) := by
  have h1 := hle ((x : Nat) : Int) (by simp)
  have h2 := hle ((y : Nat) : Int) (by simp)
  simp only [List.mem_cons, List.not_mem_nil, or_false] at hm
  unfold low
  split <;> (simp only; omega)
section
variable {P : Program} {w : World} {K : PySem.W.Frag} {mg : Str → Option Value} {base : Heap}
theorem ok_yard {f fD fO fA : Addr} {fd fdD fdO fdA : FuncData} (F : Fun K "_law_yard" "_law_yard" sYD f fd) (T : TB mg) (hmin : mg "min" = none) (hmax : mg "max" = none) (D : Cal K mg "_law_draw" fD fdD ["state", "many"]) (GD : FnOk P w K mg base CX0 2 fD fdD ["state", "many"] spDR)
    (O : Cal K mg "_law_order" fO fdO ["state", "size"]) (GO : FnOk P w K mg base CX0 3 fO fdO ["state", "size"] spOR) (Ac : Cal K mg "_law_across" fA fdA ["lines", "many", "one", "other"]) (GA : FnOk P w K mg base CX0 1 fA fdA ["lines", "many", "one", "other"] spAC) : FnOk P w K mg base CX0 4 f fd ["state", "many"] spYD := by
  refine F.ok scYD (fun vs H Q E h => ?_) (fun cdv A outer s H vs Q E hr h => ?_)
  · obtain ⟨p, a, l, n, many, rfl, _⟩ := h
    rfl
  · obtain ⟨p, a, l, n, many, rfl, M, hn, h0, h40, k⟩ := h
    have nd := scYD.nd
    have hr3 : Room 3 _ := hr
    have hr2 : Room 2 _ := hr.mono (by decide)
    have hr1 : Room 1 _ := hr.mono (by decide)
    refine ⟨_, pss_cons (ps_set (i := 2) nd rfl (Or.inl rfl) (pe_lst (pa_cons (pe_tup (pa_cons pe_int (pa_cons pe_int pa_nil))) (pa_cons (pe_tup (pa_cons pe_int (pa_cons pe_int pa_nil))) pa_nil))))
      (pss_cons (ps_for PassesOwn.never rfl (pi_range2 (by rfl) T.range (pa_cons pe_int (pa_cons (pv 1) pa_nil))) (pg_name (i := 3) nd rfl (Or.inl rfl))
        (pss_cons (ps_par (i := 4) (j := 5) (by rfl) nd rfl rfl (by decide) rfl rfl (pa_cons (pe_call GD hr2 rfl D.g D.kp D.b .nil pass0 (pa_cons (pv 0) (pa_cons (pe_op op_mul pe_int (pv 3)) pa_nil))) (pa_cons (pe_call GD hr2 rfl D.g D.kp D.b .nil pass0 (pa_cons (pv 0) (pa_cons (pe_op op_mul pe_int (pv 3)) pa_nil))) pa_nil)) (by rfl))
      (pss_one (ps_set (i := 2) nd rfl (Or.inl rfl) (pe_call GA hr1 rfl Ac.g Ac.kp Ac.b .nil pass0 (pa_cons (pv 2) (pa_cons (pv 3) (pa_cons (pv 4) (pa_cons (pv 5) pa_nil)))))))))
      (pss_cons (ps_asg (pe_tup (pa_cons (pe_call GO hr3 rfl O.g O.kp O.b .nil pass0 (pa_cons (pv 0) (pa_cons (pv 1) pa_nil))) (pa_cons (pe_lc (own := [("number", 3)]) (g := (gName 3)) (tt := tYes) (te := (tCall spOR [] E0 (tCons (tVar 0) (tCons (tC (.int 4)) tNil)))) rfl nd (pi_range1 (by rfl) T.range (pa_cons (pv 1) pa_nil)) (blkOk_by (N := nYD) (sc := defScope sYD) (by decide +kernel)) (fun _ _ _ _ _ => pg_name (i := 3) nd rfl (Or.inl rfl)) (fun _ _ _ _ _ => pts_nil) (fun _ _ _ _ _ => by exact (pe_call GO hr3 rfl O.g O.kp O.b .nil pass0 (pa_cons (pv 0) (pa_cons pe_int pa_nil))))) pa_nil))) (pg_tup rfl (pgs_cons (pg_name (i := 6) nd rfl (Or.inr rfl)) (pgs_cons (pg_name (i := 7) nd rfl (Or.inr rfl)) pgs_nil))))
      (pss_cons (ps_set (i := 8) nd rfl (Or.inl rfl) (pe_lst pa_nil))
      (pss_cons (ps_for PassesOwn.never rfl (pi_list (pv 2)) (pg_name (i := 9) nd rfl (Or.inl rfl))
        (pss_cons (ps_setLc (i := 10) (own := [("end", 11)]) (g := (gName 11)) (tt := tYes) (te := (tOp (rI0 fun i j => .int (i + j)) (tOp (rI CMul fun i j => .int (i * j)) (tC (.int 4)) (tOp (rIxL K) (tVar 6) (tOp (rI CDiv fun i j => .int (i / j)) (tVar 11) (tC (.int 4))))) (tOp (rIxL K) (tOp (rIxL K) (tVar 7) (tOp (rI CDiv fun i j => .int (i / j)) (tVar 11) (tC (.int 4)))) (tOp (rI (fun _ j => 0 < j) fun i j => .int (i % j)) (tVar 11) (tC (.int 4)))))) rfl nd rfl rfl (sw_true rfl rfl rfl (by decide +kernel)) (pi_tup (pv 9)) (blkOk_by (N := nYD) (sc := defScope sYD) (by decide +kernel)) (fun _ _ _ _ _ => pg_name (i := 11) nd rfl (Or.inl rfl)) (fun _ _ _ _ _ => pts_nil) (fun _ _ _ _ _ => by exact (pe_op op_add (pe_op op_mul pe_int (pe_ix ix_list (pv 6) (pe_op op_fdiv (pv 11) pe_int) (fun _ _ => rfl))) (pe_ix ix_list (pe_ix ix_list (pv 7) (pe_op op_fdiv (pv 11) pe_int) (fun _ _ => rfl)) (pe_op op_mod (pv 11) pe_int) (fun _ _ => rfl)))))
      (pss_one (ps_expr (pe_bm PySem.F.plainAttrs_list PySem.F.slot_list_append PySem.F.type_list_append mt_append (pv 8) (pa_cons (pe_tup (pa_cons (pe_callB (cr_min rfl) (by rfl) hmin boot_min (pa_cons (pv 10) pa_nil)) (pa_cons (pe_callB (cr_max rfl) (by rfl) hmax boot_max (pa_cons (pv 10) pa_nil)) pa_nil))) pa_nil))))))
      (pss_one (ps_ret (pe_tupleOf (by rfl) T.tuple (pe_callB cr_sortedPO (by rfl) T.sorted boot_sorted (pa_cons (pv 8) pa_nil))))))))), ?_⟩
    refine ⟨two_le, fun t1 ht1 => ⟨two_le, fun t2 ht2 => ⟨two_le, fun L0 hL0 => ?_⟩⟩⟩
    obtain ⟨H1, eH1, s1, a1, b1, c1⟩ := made_two ht1 ht2 hL0
    have fL0 : H L0 = none := ((Same.new ht1).trans (Same.new ht2)).free hL0
    rw [← eH1]
    obtain ⟨nLp, nLl⟩ := M.apart fL0
    refine ⟨_, rfl, 1, _, rfl, ⟨by decide, by decide, by omega, by omega⟩, ?_⟩
    rw [show (((many : Nat) : Int) - 1).toNat = many - 1 by omega]
    refine for_range (lo := 1) (n := many - 1) (fun i σ H' => ∃ (v3 v4 v5 : Option V) (L : Addr) (as : List Addr) (ps : List (Nat × Nat)), σ = [some (.ref p), some (.int (many : Nat)), some (.ref L), v3, v4, v5, none, none, none, none, none, none] ∧ H' L = some (.lst (refs as)) ∧ L ≠ p ∧ L ≠ l ∧ PL H' as ps ∧ Grown (1 + i) ps ∧ ML H' p a l (n + 2 * i) ∧ ExtL p l H H')
      ⟨none, none, none, L0, [t1, t2], [(0, 1), (2, 3)], rfl, a1, nLp, nLl, .cons b1 (.cons c1 .nil), grown_one (by decide), M.keep s1, ExtL.same s1⟩ ?_ ?_
    · rintro i σ H2 hi ⟨v3, v4, v5, L, as, ps, rfl, hL, nLp, nLl, hP, G, M2, e2⟩
      rw [show (1 : Int) + ((i : Nat) : Int) = ((1 + i : Nat) : Int) by omega]
      have lps : ps.length = 2 * (1 + i) := G.lines.len
      refine ⟨_, rfl, _, rfl, _, _, rfl, rfl, .inl ⟨by decide, by decide⟩, p, a, l, _, _, rfl, M2, by omega, by omega, by omega, fun H3 q1 M3 e3 q10 q11 => ?_⟩
      refine ⟨_, rfl, _, rfl, _, _, rfl, rfl, .inl ⟨by decide, by decide⟩, p, a, l, _, _, rfl, M3, by omega, by omega, by omega, fun H4 q2 M4 e4 q20 q21 => ?_⟩
      obtain ⟨i1, rfl⟩ : ∃ j : Nat, q1 = (j : Nat) := ⟨q1.toNat, by omega⟩
      obtain ⟨i2, rfl⟩ : ∃ j : Nat, q2 = (j : Nat) := ⟨q2.toNat, by omega⟩
      have e24 := e3.trans e4
      obtain ⟨A1, hA⟩ : ∃ A1, ps[i1]? = some A1 := ⟨_, List.getElem?_eq_getElem (by omega)⟩
      obtain ⟨B1, hB⟩ : ∃ B1, ps[i2]? = some B1 := ⟨_, List.getElem?_eq_getElem (by omega)⟩
      have hP4 := hP.mono (tupL M2 e24)
      refine ⟨_, _, rfl, _, rfl, _, rfl, _, rfl, _, rfl, L, as, ps, 1 + i, i1, i2, A1, B1, rfl, e24 _ _ nLp nLl hL, hP4, by omega, hA, hB, fun H5 L5 bs s5 nL5 hL5 hP5 => ?_⟩
      obtain ⟨m1, m2⟩ := M4.apart nL5
      exact ⟨_, _, _, L5, bs, _, rfl, hL5, m1, m2, hP5, by rw [show 1 + (i + 1) = (1 + i) + 1 by omega]; exact G.put hA hB, (M4.keep s5).lt (by omega) (by omega), (e2.trans e24).trans (ExtL.same s5)⟩
    · rintro σ H2 ⟨v3, v4, v5, L, as, ps, rfl, hL, nLp, nLl, hP, G, M2, e2⟩
      rw [show 1 + (many - 1) = many by omega] at G
      have M2 := M2.lt (show n + 2 * (many - 1) ≤ n + 2 * many by omega) (by omega)
      refine ⟨_, rfl, _, rfl, p, a, l, _, many, rfl, M2, by omega, by omega, fun H3 cA cs M3 e3 hcn hc hcp => ?_⟩
      obtain ⟨ncp, ncl⟩ := M2.apart hcn
      refine ⟨_, rfl, _, rfl, by omega, by omega, fun Pl hPl => ?_⟩
      rw [show ((many : Nat) : Int).toNat = many by omega]
      have sP := Same.new (o := .lst []) hPl
      obtain ⟨nPp, nPl⟩ := M3.apart hPl
      refine lc_it (walk_range (lo := 0) (n := many)) (fun q H6 => ∃ (bs : List Addr) (qs : List (List Nat)), H6 Pl = some (.lst (refs bs)) ∧ Pl ∉ bs ∧ NLs p l H6 bs qs ∧ qs.length = q ∧ (∀ x ∈ qs, x.Perm [0, 1, 2, 3]) ∧ ML H6 p a l (n + 3 * many + 4 * q) ∧ ExtL p l H3 H6)
        ⟨[], [], upd_same, by simp, .nil, rfl, fun x h => absurd h (by simp), (M3.keep sP).lt (by omega) (by omega), ExtL.same sP⟩ (fun _ _ _ _ => trivial) ?_ ?_
      · rintro q v H6 H7 hq ⟨bs, qs, h6, nin, hLL, lq, hqp, M6, e6⟩ ⟨rfl, rfl⟩
        refine ⟨rfl, yes ⟨_, rfl, p, a, l, _, 4, rfl, M6, by decide, by omega, fun H8 b q8 M8 e8 hbn hb hbp => ?_⟩⟩
        obtain ⟨nbp, nbl⟩ := M6.apart hbn
        have h8 := e8 _ _ nPp nPl h6
        have nbP : b ≠ Pl := fun z => by
          rw [z, h6] at hbn
          cases hbn
        refine ⟨_, h8, small1000 (by rw [List.length_map, hLL.len]; omega), bs ++ [b], qs ++ [q8], ?_, ?_, ?_, ?_, ?_, ?_, ?_⟩
        · rw [upd_same, refs_app]
          rfl
        · intro m
          rcases List.mem_append.mp m with m | m
          · exact nin m
          · exact nbP (List.mem_singleton.mp m).symm
        · exact ((hLL.ext e8).keepN nin).app (.cons ((upd_ne nbP).trans hb) nbp nbl .nil)
        · rw [List.length_append, lq]
          rfl
        · intro x hx
          rcases List.mem_append.mp hx with hx | hx
          · exact hqp x hx
          · rw [List.mem_singleton.mp hx]
            exact hbp
        · exact (ML.wrN M3 hPl M8).lt (by omega) (by omega)
        · exact (e6.trans e8).wr hPl
      · rintro H6 ⟨bs, qs, h6, nin, hLL, lq, hqp, M6, e6⟩
        refine ⟨two_le, fun u hu => ?_⟩
        have su := Same.new (o := .tup [V.ref cA, V.ref Pl]) hu
        have e26 := e3.trans e6
        have hL6 := su _ _ (e26 _ _ nLp nLl hL)
        have hP6 := (hP.mono (tupL M2 e26)).mono (sameT su)
        have hc6 := su _ _ (e6 _ _ ncp ncl hc)
        have hPl6 := su _ _ h6
        have hLL6 := hLL.ext (ExtL.same su)
        have M6' := M6.keep su
        have e06 := (e2.trans e26).trans (ExtL.same su)
        refine ⟨u, _, rfl, SqT.of upd_same, rfl, _, _, rfl, _, _, rfl, rfl, ?_⟩
        generalize upd H6 u (.tup [V.ref cA, V.ref Pl]) = H7 at hL6 hP6 hc6 hPl6 hLL6 M6' e06
        -- the names of the ends
        have lcs : cs.length = many := by rw [hcp.length_eq, List.length_range]
        obtain ⟨bl, ebl⟩ : ∃ bl, bl = cs.zip qs := ⟨_, rfl⟩
        have lbl : bl.length = many := by rw [ebl, List.length_zip]; omega
        have bl2 : ∀ b ∈ bl, b.2.Perm [0, 1, 2, 3] := fun b hb => by
          rw [ebl] at hb
          exact hqp _ (List.of_mem_zip hb).2
        have bl1 : bl.map Prod.fst = cs := by rw [ebl, List.map_fst_zip (by omega)]
        have cal : Called many (blocks bl) := called_of_blocks (by rw [bl1]; exact hcp) bl2
        have name : ∀ e, e < 4 * many → ∃ (c0 : Nat) (q0 : List Nat) (r0 : Nat), cs[e / 4]? = some c0 ∧ qs[e / 4]? = some q0 ∧ q0[e % 4]? = some r0 ∧ (blocks bl).getD e 0 = 4 * c0 + r0 := fun e he => by
          have h1 : e / 4 < cs.length := by omega
          have h2 : e / 4 < qs.length := by omega
          have hz : bl[e / 4]? = some (cs[e / 4], qs[e / 4]) := by
            rw [ebl, List.getElem?_eq_getElem (by rw [List.length_zip]; omega), List.getElem_zip]
          have l4 : ∀ b ∈ bl, b.2.length = 4 := fun b hb => (bl2 b hb).length_eq
          have := blocks_at l4 hz (Nat.mod_lt e (by decide : 0 < 4))
          rw [Nat.div_add_mod] at this
          have q4 : (qs[e / 4]).length = 4 := (hqp _ (List.getElem_mem h2)).length_eq
          have hr4 : e % 4 < (qs[e / 4]).length := by omega
          refine ⟨cs[e / 4], qs[e / 4], (qs[e / 4])[e % 4], List.getElem?_eq_getElem h1, List.getElem?_eq_getElem h2, List.getElem?_eq_getElem hr4, ?_⟩
          rw [this, List.getD_eq_getElem?_getD, List.getElem?_eq_getElem hr4]
          rfl
        refine ⟨Nat.zero_le _, fun Fd hFd => ?_⟩
        have sF := Same.new (o := .lst []) hFd
        refine ⟨_, rfl, L, rfl, ⟨_, SqL.of (sF _ _ hL6)⟩, ?_⟩
        have lps : ps.length = 2 * many := G.lines.len
        refine for_it (walk_list (K := K) (a := L) (xs := refs as)) (fun q σ H' => ∃ (v9 v10 : Option V) (ds : List Addr), σ = [some (.ref p), some (.int (many : Nat)), some (.ref L), v3, v4, v5, some (.ref cA), some (.ref Pl), some (.ref Fd), v9, v10, none] ∧ H' Fd = some (.lst (refs ds)) ∧ PL H' ds ((ps.take q).map (callL (blocks bl))) ∧ Same H7 H')
          ⟨none, none, [], rfl, upd_same, .nil, sF⟩ (fun q σ H' _ ⟨_, _, _, _, _, _, s'⟩ => SqL.of (s' _ _ hL6)) ?_ ?_
        · rintro q v σ H8 H9 hq ⟨v9, v10, ds, rfl, hF8, hD8, s8⟩ ⟨rfl, hv⟩
          have hv : (refs as)[q]? = some v := hv
          have e1 : (refs as).length = ps.length := by rw [List.length_map, hP.len]
          rw [e1] at hq
          obtain ⟨c, hcq⟩ : ∃ c, as[q]? = some c := ⟨_, List.getElem?_eq_getElem (by rw [hP.len]; exact hq)⟩
          rw [List.getElem?_map, hcq] at hv
          cases hv
          obtain ⟨pr, hpr, pc⟩ := hP6.got hcq
          have hmem := List.mem_of_getElem? hpr
          obtain ⟨lx, ly⟩ : pr.1 < 4 * many ∧ pr.2 < 4 * many := ⟨G.lines.lt _ (ends_of hmem).1, G.lines.lt _ (ends_of hmem).2⟩
          have pc9 := s8 _ _ pc
          refine ⟨_, rfl, c, rfl, ⟨_, SqT.of pc9⟩, fun D0 hD0 => ?_⟩
          have sD := Same.new (o := .lst []) hD0
          have nm : ∀ e, e < 4 * many → ∀ H6, Same H9 H6 → ∃ (c0 : Nat) (q0 : List Nat) (r0 : Nat) (b0 : Addr), H6 cA = some (.lst (nats cs)) ∧ cs[e / 4]? = some c0 ∧ H6 Pl = some (.lst (refs bs)) ∧ bs[e / 4]? = some b0 ∧ H6 b0 = some (.lst (nats q0)) ∧ q0[e % 4]? = some r0 ∧ (blocks bl).getD e 0 = 4 * c0 + r0 := fun e he H6 s6 => by
            obtain ⟨c0, q0, r0, g1, g2, g3, g4⟩ := name e he
            obtain ⟨b0, g5, g6⟩ := hLL6.get g2
            exact ⟨c0, q0, r0, b0, s6 _ _ (s8 _ _ hc6), g1, s6 _ _ (s8 _ _ hPl6), g5, s6 _ _ (s8 _ _ g6), g3, g4⟩
          refine lc_it (walk_tup (K := K) (a := c) (xs := [V.int (pr.1 : Nat), V.int (pr.2 : Nat)])) (fun j H6 => H6 D0 = some (.lst (nats (([pr.1, pr.2].take j).map fun e => (blocks bl).getD e 0))) ∧ Same H9 H6) ⟨upd_same, sD⟩ (fun j H6 _ h => SqT.of (h.2 _ _ pc9)) ?_ ?_
          · rintro j x H6 HX hj ⟨h6, s6⟩ ⟨rfl, hx⟩
            have hj : j < 2 := hj
            obtain ⟨e, he, ee, ej⟩ : ∃ e : Nat, e < 4 * many ∧ x = V.int (e : Nat) ∧ [pr.1, pr.2][j]? = some e := by
              have hx : [V.int (pr.1 : Nat), V.int (pr.2 : Nat)][j]? = some x := hx
              have hc : j = 0 ∨ j = 1 := by omega
              rcases hc with rfl | rfl
              · cases hx
                exact ⟨pr.1, lx, rfl, rfl⟩
              · cases hx
                exact ⟨pr.2, ly, rfl, rfl⟩
            subst ee
            obtain ⟨c0, q0, r0, b0, g0, g1, g2, g3, g4, g5, g6⟩ := nm e he _ s6
            have d4 : ((e : Nat) : Int) / 4 = ((e / 4 : Nat) : Int) := by omega
            have m4 : ((e : Nat) : Int) % 4 = ((e % 4 : Nat) : Int) := by omega
            refine ⟨rfl, yes ⟨_, rfl, _, rfl, _, _, rfl, rfl, ⟨by decide, by decide⟩, cA, _, _, V.int (c0 : Nat), rfl, rfl, SqL.of g0, at_of (j := e / 4) d4 (nats_at g1), _, _, rfl, rfl, .inl ⟨by decide, by decide⟩, ?_⟩⟩
            refine ⟨_, rfl, _, rfl, _, _, rfl, rfl, ⟨by decide, by decide⟩, Pl, _, _, V.ref b0, rfl, rfl, SqL.of g2, at_of (j := e / 4) d4 (by rw [List.getElem?_map, g3]; rfl), _, rfl, _, _, rfl, rfl, (by show (0 : Int) < 4; decide), b0, _, _, V.int (r0 : Nat), rfl, rfl, SqL.of g4, at_of (j := e % 4) m4 (nats_at g5), _, _, rfl, rfl, _, h6, small1000 ?_, ?_, fun b o eo => ?_⟩
            · rw [List.length_map, List.length_map, List.length_take]
              show min j 2 ≤ 1000
              omega
            · rw [upd_same, List.take_succ, ej, Option.toList_some, List.map_append, nats_app]
              show some (HO.lst (_ ++ [V.int (4 * ((c0 : Nat) : Int) + ((r0 : Nat) : Int))])) = some (HO.lst (_ ++ [V.int (((blocks bl).getD e 0 : Nat) : Int)]))
              rw [g6, show ((4 * c0 + r0 : Nat) : Int) = 4 * ((c0 : Nat) : Int) + ((r0 : Nat) : Int) by omega]
            · rw [upd_ne (ne_of_none eo hD0)]
              exact s6 _ _ eo
          · rintro H6 ⟨h6, s6⟩
            have h6 : H6 D0 = some (.lst ([(((blocks bl).getD pr.1 0 : Nat) : Int), (((blocks bl).getD pr.2 0 : Nat) : Int)].map V.int)) := h6
            have hF6 := s6 _ _ hF8
            refine ⟨_, rfl, .inl ⟨rfl, _, SqL.of hF6⟩, _, rfl, D0, _, rfl, SqL.of h6, Nat.succ_pos _, fun m1 hm1 hle1 => ⟨_, rfl, D0, _, rfl, SqL.of h6, Nat.succ_pos _, fun m2 hm2 hle2 => ⟨two_le, fun t hT => ?_⟩⟩⟩
            rw [min_low hm1 hle1, max_low hm2 hle2]
            have sT := Same.new (o := .tup [V.int (((low ((blocks bl).getD pr.1 0) ((blocks bl).getD pr.2 0)).1 : Nat) : Int), V.int (((low ((blocks bl).getD pr.1 0) ((blocks bl).getD pr.2 0)).2 : Nat) : Int)]) hT
            have hF7 := sT _ _ hF6
            have ldq : ds.length = q := by
              rw [hD8.len, List.length_map, List.length_take]
              omega
            have s69 := s6.trans sT
            have hD9 := hD8.mono (sameT s69)
            have hFd0 : H7 Fd = none := hFd
            refine ⟨Fd, _, _, rfl, rfl, hF7, small1000 (by rw [List.length_map]; omega), ?_⟩
            have hT7 : (upd H6 t (.tup [V.int (((low ((blocks bl).getD pr.1 0) ((blocks bl).getD pr.2 0)).1 : Nat) : Int), V.int (((low ((blocks bl).getD pr.1 0) ((blocks bl).getD pr.2 0)).2 : Nat) : Int)])) t = some (.tup [V.int (((low ((blocks bl).getD pr.1 0) ((blocks bl).getD pr.2 0)).1 : Nat) : Int), V.int (((low ((blocks bl).getD pr.1 0) ((blocks bl).getD pr.2 0)).2 : Nat) : Int)]) := upd_same
            have sB := s8.trans s69
            generalize upd H6 t (.tup [V.int (((low ((blocks bl).getD pr.1 0) ((blocks bl).getD pr.2 0)).1 : Nat) : Int), V.int (((low ((blocks bl).getD pr.1 0) ((blocks bl).getD pr.2 0)).2 : Nat) : Int)]) = HT at hF7 hD9 hT7 sB
            have k9 : ∀ b xs, HT b = some (.tup xs) → (upd HT Fd (.lst (refs ds ++ [V.ref t]))) b = some (.tup xs) := fun b xs h => (upd_ne (ne_of h hF7 (by intro z; cases z))).trans h
            refine ⟨_, _, ds ++ [t], rfl, by rw [upd_same, refs_app]; rfl, ?_, fun b o eo => ?_⟩
            · rw [List.take_succ, hpr, Option.toList_some, List.map_append]
              exact (hD9.mono k9).app (.cons (k9 _ _ hT7) .nil)
            · rw [upd_ne (ne_of_none eo hFd0)]
              exact sB _ _ eo
        · rintro σ H8 ⟨v9, v10, ds, rfl, hF8, hD8, s8⟩
          have e1 : (refs as).length = ps.length := by rw [List.length_map, hP.len]
          rw [e1, List.take_length] at hD8
          refine ⟨_, rfl, ?_⟩
          show rSortedPO K [V.ref Fd] H8 (fun x H1 => kTup K x H1 Q)
          refine rd_sorted (SqL.of hF8) hD8 fun gs ms l2 hC hperm hle hl2 => ?_
          have s9 := Same.new (o := .lst (refs gs)) hl2
          refine .inl ⟨l2, _, rfl, SqL.of upd_same, fun u2 hu2 => ?_⟩
          have s10 := Same.new (o := .tup (refs gs)) hu2
          have sA := s8.trans (s9.trans s10)
          exact k _ u2 ms ((M6'.keep sA).lt (by omega) (by omega)) (e06.trans (ExtL.same sA)) ⟨called_yard G cal hperm hle, gs, upd_same, hC.mono (sameT (s9.trans s10))⟩
end
end One
end P_S5

section P_S6
set_option linter.all false
set_option maxRecDepth 100000
set_option maxHeartbeats 8000000
namespace One
open PySem PySem.Spec PyProof.Rows L2
abbrev sSZ : Stmt := top 46
abbrev nSZ : List Str := ["state", "most", "some"]
theorem scSZ : FnScope nSZ ["state", "most"] (defScope sSZ) := ⟨rfl, rfl, rfl, by decide +kernel, rfl, by decide +kernel, by decide +kernel⟩
def spSZ : Sp := fun vs H Q _ => ∃ (p a l : Addr) (n most : Nat), vs = [.ref p, .int (most : Nat)] ∧ ML H p a l n ∧ n ≤ 900000 ∧ 3 ≤ most ∧ most ≤ 40 ∧
  ∀ (H' : Hp) (r : Nat), ML H' p a l (n + 4) → ExtL p l H H' → 0 < r → r ≤ most → Q (.int (r : Nat)) H'
section
variable {P : Program} {w : World} {K : PySem.W.Frag} {mg : Str → Option Value} {base : Heap}
theorem ok_size {f fD : Addr} {fd fdD : FuncData} (F : Fun K "_law_size" "_law_size" sSZ f fd) (hmin : mg "min" = none) (D : Cal K mg "_law_draw" fD fdD ["state", "many"]) (GD : FnOk P w K mg base CX0 2 fD fdD ["state", "many"] spDR) : FnOk P w K mg base CX0 3 f fd ["state", "most"] spSZ := by
  refine F.ok scSZ (fun vs H Q E h => ?_) (fun cdv A outer s H vs Q E hr h => ?_)
  · obtain ⟨p, a, l, n, most, rfl, _⟩ := h
    rfl
  · obtain ⟨p, a, l, n, most, rfl, M, hn, h3, h40, k⟩ := h
    have nd := scSZ.nd
    have hr2 : Room 2 _ := hr
    refine ⟨_, pss_cons (ps_set (i := 2) nd rfl (Or.inl rfl) (pe_lst (pa_cons (pe_op op_add pe_int (pe_call GD hr2 rfl D.g D.kp D.b .nil pass0 (pa_cons (pv 0) (pa_cons pe_int pa_nil)))) (pa_cons (pe_callB (call_min2 rfl) (by rfl) hmin boot_min (pa_cons (pv 1) (pa_cons (pe_op op_add pe_int (pe_call GD hr2 rfl D.g D.kp D.b .nil pass0 (pa_cons (pv 0) (pa_cons pe_int pa_nil)))) pa_nil))) (pa_cons (pe_op op_add pe_int (pe_call GD hr2 rfl D.g D.kp D.b .nil pass0 (pa_cons (pv 0) (pa_cons (pv 1) pa_nil)))) pa_nil)))))
      (pss_one (ps_ret (pe_ix ix_list (pv 2) (pe_call GD hr2 rfl D.g D.kp D.b .nil pass0 (pa_cons (pv 0) (pa_cons pe_int pa_nil))) (fun _ _ => rfl)))), ?_⟩
    refine ⟨_, rfl, p, a, l, n, 3, rfl, M, by omega, by decide, by decide, fun H1 q1 M1 e1 a0 a1 => ⟨_, _, rfl, rfl, ?_⟩⟩
    refine ⟨_, rfl, _, rfl, p, a, l, _, 7, rfl, M1, by omega, by decide, by decide, fun H2 q2 M2 e2 b0 b1 => ⟨_, _, rfl, rfl, _, _, rfl, ?_⟩⟩
    refine ⟨_, rfl, _, rfl, p, a, l, _, _, rfl, M2, by omega, by omega, by omega, fun H3 q3 M3 e3 c0 c1 => ⟨_, _, rfl, rfl, (by show 3 ≤ sizeLine; decide), fun L hL => ?_⟩⟩
    obtain ⟨nLp, nLl⟩ := M3.apart hL
    have sL := Same.new (o := .lst [V.int (1 + q1), V.int (if 2 + q2 < ((most : Nat) : Int) then 2 + q2 else ((most : Nat) : Int)), V.int (1 + q3)]) hL
    refine ⟨_, rfl, _, rfl, p, a, l, _, 3, rfl, M3.keep sL, by omega, by decide, by decide, fun H4 q4 M4 e4 d0 d1 => ?_⟩
    have hL4 := e4 _ _ nLp nLl (upd_same (H := H3) (a := L) (o := .lst [V.int (1 + q1), V.int (if 2 + q2 < ((most : Nat) : Int) then 2 + q2 else ((most : Nat) : Int)), V.int (1 + q3)]))
    have eA := e1.trans (e2.trans (e3.trans ((ExtL.same sL).trans e4)))
    have M4 : ML H4 p a l (n + 4) := M4
    have fin : ∀ z : Int, 0 < z → z ≤ (most : Int) → Q (.int z) H4 := fun z z0 z1 => by
      have := k H4 z.toNat M4 eA (by omega) (by omega)
      rw [show ((z.toNat : Nat) : Int) = z by omega] at this
      exact this
    have hc : q4 = 0 ∨ q4 = 1 ∨ q4 = 2 := by omega
    rcases hc with rfl | rfl | rfl
    · exact ⟨L, _, _, _, rfl, rfl, SqL.of hL4, rfl, fin _ (by omega) (by omega)⟩
    · exact ⟨L, _, _, _, rfl, rfl, SqL.of hL4, rfl, fin _ (by split <;> omega) (by split <;> omega)⟩
    · exact ⟨L, _, _, _, rfl, rfl, SqL.of hL4, rfl, fin _ (by omega) (by omega)⟩
end
end One
end P_S6

section P_S7
set_option linter.all false
set_option maxRecDepth 100000
set_option maxHeartbeats 8000000
namespace One
open PySem PySem.Spec PyProof.Rows L2
/-- a dict from ends to ends -/
def fkv (F : Nat → Nat) (es : List Nat) : List (Key × V) := es.map fun e => (Sum.inl ((e : Nat) : Int), V.int (F e : Nat))
theorem fkv_snoc (F : Nat → Nat) (es : List Nat) (e : Nat) : fkv F (es ++ [e]) = fkv F es ++ [(Sum.inl ((e : Nat) : Int), V.int (F e : Nat))] := by
  unfold fkv
  rw [List.map_append]
  rfl
theorem fkv_in {F : Nat → Nat} : ∀ {es : List Nat} {e : Nat}, e ∈ es → valV (fkv F es) (Sum.inl ((e : Nat) : Int)) = some (.int (F e : Nat))
  | [], e, h => absurd h (by simp)
  | x :: es, e, h => by
    by_cases q : x = e
    · subst q
      exact valV_pos rfl
    · have m : e ∈ es := (List.mem_cons.mp h).resolve_left fun z => q z.symm
      have ne : ¬ ((Sum.inl ((x : Nat) : Int) : Key) = Sum.inl ((e : Nat) : Int)) := fun z => q (by have := Sum.inl.inj z; omega)
      exact (valV_neg (p := ((Sum.inl ((x : Nat) : Int) : Key), V.int (F x : Nat))) ne).trans (fkv_in m)
theorem fkv_out {F : Nat → Nat} : ∀ {es : List Nat} {e : Nat}, e ∉ es → valV (fkv F es) (Sum.inl ((e : Nat) : Int)) = none
  | [], e, _ => valV_nil
  | x :: es, e, h => by
    have ne : ¬ ((Sum.inl ((x : Nat) : Int) : Key) = Sum.inl ((e : Nat) : Int)) := fun z => h (by
      have := Sum.inl.inj z
      rw [show x = e by omega]
      exact List.mem_cons_self ..)
    exact (valV_neg (p := ((Sum.inl ((x : Nat) : Int) : Key), V.int (F x : Nat))) ne).trans (fkv_out fun m => h (List.mem_cons_of_mem _ m))
theorem fkv_put {F : Nat → Nat} {es : List Nat} {e y : Nat} (h : e ∉ es) (hy : y = F e) : putK (fkv F es) (Sum.inl ((e : Nat) : Int)) (.int (y : Nat)) = fkv F (es ++ [e]) := by
  rw [putK_new _ (fkv_out h), fkv_snoc, hy]
theorem ends_take {ps : List (Nat × Nat)} {i : Nat} {p : Nat × Nat} (h : ps[i]? = some p) : ends (ps.take (i + 1)) = ends (ps.take i) ++ [p.1, p.2] := by
  rw [List.take_succ, h, Option.toList_some, ends_append]
  rfl
abbrev sFA : Stmt := top 47
abbrev nFA : List Str := ["yard", "found", "one", "other"]
theorem scFA : FnScope nFA ["yard"] (defScope sFA) := ⟨rfl, rfl, rfl, by decide +kernel, rfl, by decide +kernel, by decide +kernel⟩
def spFA : Sp := fun vs H Q _ => ∃ (t : Addr) (n : Nat) (as : List Addr) (ps : List (Nat × Nat)), vs = [.ref t] ∧ H t = some (.tup (refs as)) ∧ PL H as ps ∧ Lines n ps ∧ n ≤ 100 ∧
  ∀ (H' : Hp) (D : Addr), Same H H' → H D = none → H' D = some (.dK (fkv (far ps) (ends ps))) → Q (.ref D) H'
section
variable {P : Program} {w : World} {K : PySem.W.Frag} {mg : Str → Option Value} {base : Heap}
theorem ok_far {f : Addr} {fd : FuncData} (F : Fun K "_law_far" "_law_far" sFA f fd) : FnOk P w K mg base CX0 1 f fd ["yard"] spFA := by
  refine F.ok scFA (fun vs H Q E h => ?_) (fun cdv A outer s H vs Q E hr h => ?_)
  · obtain ⟨t, n, as, ps, rfl, _⟩ := h
    rfl
  · obtain ⟨t, n, as, ps, rfl, ht, hP, L, hn, k⟩ := h
    have nd := scFA.nd
    have hu := hu_of hr
    refine ⟨_, pss_cons (ps_set (i := 1) nd rfl (Or.inl rfl) pe_dnewK)
      (pss_cons (ps_for PassesOwn.never rfl (pi_tup (pv 0)) (pg_tup rfl (pgs_cons (pg_name (i := 2) nd rfl (Or.inl rfl)) (pgs_cons (pg_name (i := 3) nd rfl (Or.inl rfl)) pgs_nil)))
        (pss_cons (ps_dput hu (pv 1) (pv 2) (pv 3) rfl)
      (pss_one (ps_dput hu (pv 1) (pv 3) (pv 2) rfl))))
      (pss_one (ps_ret (pv 1)))), ?_⟩
    refine fun D hD => ?_
    have sD := Same.new (o := .dK []) hD
    refine ⟨_, rfl, t, rfl, ⟨_, SqT.of (sD _ _ ht)⟩, ?_⟩
    refine for_it (walk_tup (K := K) (a := t) (xs := refs as)) (fun i σ H' => ∃ v2 v3 : Option V, σ = [some (.ref t), some (.ref D), v2, v3] ∧ H' D = some (.dK (fkv (far ps) (ends (ps.take i)))) ∧ Same H H') ⟨none, none, rfl, upd_same, sD⟩ (fun i σ H' _ ⟨_, _, _, _, s'⟩ => SqT.of (s' _ _ ht)) ?_ ?_
    · rintro i v σ H6 H7 hi ⟨v2, v3, rfl, h6, s6⟩ ⟨rfl, hv⟩
      have hv : (refs as)[i]? = some v := hv
      rw [List.length_map] at hi
      rw [List.getElem?_map, List.getElem?_eq_getElem hi] at hv
      cases hv
      obtain ⟨p, hp, pc⟩ := hP.got (List.getElem?_eq_getElem hi)
      have et := ends_take hp
      have ndt : (ends (ps.take (i + 1))).Nodup := by
        have e : ends ps = ends (ps.take (i + 1)) ++ ends (ps.drop (i + 1)) := by rw [← ends_append, List.take_append_drop]
        have := L.nd
        rw [e] at this
        exact (List.nodup_append.mp this).1
      rw [et] at ndt
      obtain ⟨_, nd2, nd3⟩ := List.nodup_append.mp ndt
      have n1 : p.1 ∉ ends (ps.take i) := fun m => nd3 _ m _ (by simp) rfl
      have n2 : p.2 ∉ ends (ps.take i) := fun m => nd3 _ m _ (by simp) rfl
      have n12 : p.2 ≠ p.1 := fun z => by
        rw [z] at nd2
        simp at nd2
      obtain ⟨f1, f2⟩ := far_of L.nd (List.mem_of_getElem? hp)
      have len : ∀ es : List Nat, es.length ≤ 500 → (fkv (far ps) es).length < sizeLine := fun es h => by
        unfold fkv
        rw [List.length_map]
        exact small1000 (by omega)
      have le : (ends (ps.take i)).length ≤ 400 := by
        have nd' : (ends (ps.take i)).Nodup := (List.nodup_append.mp ndt).1
        have := pigeon (4 * n) _ nd' fun x hx => L.lt x (by
          have e : ends ps = ends (ps.take i) ++ ends (ps.drop i) := by rw [← ends_append, List.take_append_drop]
          rw [e]
          exact List.mem_append_left _ hx)
        omega
      refine ⟨_, _, rfl, SqT.of (s6 _ _ pc), rfl, _, _, rfl, _, _, rfl, rfl, ?_⟩
      have p1 := DPut.k (k := Sum.inl ((p.1 : Nat) : Int)) (v := .int (p.2 : Nat)) h6 (len _ (by omega))
      rw [fkv_put n1 f1.symm] at p1
      refine ⟨_, rfl, _, rfl, _, rfl, D, _, rfl, p1, ?_⟩
      have h7 : (upd H7 D (.dK (fkv (far ps) (ends (ps.take i) ++ [p.1])))) D = some (.dK (fkv (far ps) (ends (ps.take i) ++ [p.1]))) := upd_same
      have p2 := DPut.k (k := Sum.inl ((p.2 : Nat) : Int)) (v := .int (p.1 : Nat)) h7 (len _ (by rw [List.length_append]; show _ + 1 ≤ 500; omega))
      rw [fkv_put (fun m => by
        rcases List.mem_append.mp m with m | m
        · exact n2 m
        · exact n12 (List.mem_singleton.mp m)) f2.symm] at p2
      refine ⟨_, rfl, _, rfl, _, rfl, D, _, rfl, p2, ?_⟩
      refine ⟨_, _, rfl, ?_, fun b o e => ?_⟩
      · rw [upd_same, et, List.append_assoc]
        rfl
      · rw [upd_ne (ne_of_none e hD), upd_ne (ne_of_none e hD)]
        exact s6 _ _ e
    · rintro σ H6 ⟨v2, v3, rfl, h6, s6⟩
      rw [List.length_map, hP.len, List.take_length] at h6
      exact ⟨_, rfl, k _ D s6 hD h6⟩
end
end One
end P_S7

section P_S8
set_option linter.all false
set_option maxRecDepth 100000
set_option maxHeartbeats 8000000
namespace One
open PySem PySem.Spec PyProof.Rows L2
theorem fkv_get {H : Hp} {D : Addr} {n e : Nat} {ps : List (Nat × Nat)} (L : Lines n ps) (h : H D = some (.dK (fkv (far ps) (ends ps)))) (he : e < 4 * n) : DGet H D (.int ((e : Nat) : Int)) (some (.int (far ps e : Nat))) := by
  have q := DGet.k (k := Sum.inl ((e : Nat) : Int)) h
  rw [fkv_in (ends_full L he)] at q
  exact q
/-- where one comes to behind so many steps from the first end of a crossing -/
def goalK (F W : Nat → Nat) (c k : Nat) : Nat := F (iter (nextE F W) k (4 * c))
theorem goal_next (F W : Nat → Nat) (c k : Nat) : goalK F W c (k + 1) = F (goalK F W c k ^^^ (W (goalK F W c k / 4) + 1)) := rfl
/-- the first of its four ends to which one comes -/
structure OutAt (F W : Nat → Nat) (c j : Nat) : Prop where
  here : goalK F W c j / 4 = c
  first : ∀ i, i < j → goalK F W c i / 4 ≠ c
theorem out_some {F W : Nat → Nat} {n c : Nat} (I : Inv2 F n) (hW : ∀ c, c < n → W c < 3) (hc : c < n) : ∃ j, OutAt F W c j := by
  have G := next_goes I hW
  obtain ⟨kk, per, _⟩ := G.per (s := 4 * c) (by omega)
  have pos := per.pos
  have last : goalK F W c (kk - 1) / 4 = c := by
    have b := per.back
    rw [show kk = (kk - 1) + 1 by omega] at b
    have l := I.lt _ (G.iter_lt (show 4 * c < 4 * n by omega) (kk - 1))
    have blk : (goalK F W c (kk - 1) ^^^ (W (goalK F W c (kk - 1) / 4) + 1)) / 4 = goalK F W c (kk - 1) / 4 := mate_block (hW _ (by show F _ / 4 < n; omega))
    have b : goalK F W c (kk - 1) ^^^ (W (goalK F W c (kk - 1) / 4) + 1) = 4 * c := b
    rw [b] at blk
    omega
  have least : ∀ k, goalK F W c k / 4 = c → ∃ j, OutAt F W c j := by
    intro k
    induction k using Nat.strongRecOn with
    | ind k ih =>
      intro h
      by_cases q : ∃ i, i < k ∧ goalK F W c i / 4 = c
      · obtain ⟨i, hi, e⟩ := q
        exact ih i hi e
      · exact ⟨k, h, fun i hi e => q ⟨i, hi, e⟩⟩
  exact least _ last
theorem goal_ne {F W : Nat → Nat} {n c j : Nat} (I : Inv2 F n) (hW : ∀ c, c < n → W c < 3) (hc : c < n) : goalK F W c j ≠ 4 * c := fun h => by
  have G := next_goes I hW
  have l := G.iter_lt (show 4 * c < 4 * n by omega) j
  have h' : F (iter (nextE F W) j (4 * c)) = 4 * c := h
  have : iter (nextE F W) j (4 * c) = F (4 * c) := by
    have q := I.inv _ l
    rw [h'] at q
    exact q.symm
  exact no_far I hW (by omega) j this
abbrev sOU : Stmt := top 48
abbrev nOU : List Str := ["fars", "setting", "crossing", "goal"]
theorem scOU : FnScope nOU ["fars", "setting", "crossing"] (defScope sOU) := ⟨rfl, rfl, rfl, by decide +kernel, rfl, by decide +kernel, by decide +kernel⟩
def spOU : Sp := fun vs H Q _ => ∃ (D S : Addr) (n c : Nat) (ps : List (Nat × Nat)) (ws : List Nat), vs = [.ref D, .ref S, .int (c : Nat)] ∧ Lines n ps ∧ H D = some (.dK (fkv (far ps) (ends ps))) ∧ H S = some (.lst (nats ws)) ∧ ws.length = n ∧ (∀ x ∈ ws, x < 3) ∧ c < n ∧
  ∀ (j o : Nat), OutAt (far ps) (wayL ws) c j → o < 3 → goalK (far ps) (wayL ws) c j = 4 * c + o + 1 → Q (.int (o : Nat)) H
section
variable {P : Program} {w : World} {K : PySem.W.Frag} {mg : Str → Option Value} {base : Heap}
theorem ok_outer {f : Addr} {fd : FuncData} (F : Fun K "_law_outer" "_law_outer" sOU f fd) : FnOk P w K mg base CX0 1 f fd ["fars", "setting", "crossing"] spOU := by
  refine F.ok scOU (fun vs H Q E h => ?_) (fun cdv A outer s H vs Q E hr h => ?_)
  · obtain ⟨D, S, n, c, ps, ws, rfl, _⟩ := h
    rfl
  · obtain ⟨D, S, n, c, ps, ws, rfl, L, hD, hS, hl, hw, hc, k⟩ := h
    have nd := scOU.nd
    have hu := hu_of hr
    refine ⟨_, C8.pss_cut (ps_set (i := 3) nd rfl (Or.inl rfl) (pe_dget hu (pv 0) (pe_op op_mul pe_int (pv 2)) (fun _ _ => rfl)))
      (pss_cons (ps_while PassesOwn.never (pt_cmpR op_ne (pe_op op_fdiv (pv 3) pe_int) (pv 2) (nomark _))
        (pss_one (ps_set (i := 3) nd rfl (Or.inl rfl) (pe_dget hu (pv 0) (pe_op op_xor (pv 3) (pe_op op_add (pe_ix ix_list (pv 1) (pe_op op_fdiv (pv 3) pe_int) (fun _ _ => rfl)) pe_int)) (fun _ _ => rfl)))))
      (pss_one (ps_ret (pe_op op_sub (pe_op op_mod (pv 3) pe_int) pe_int)))), ?_⟩
    have I := far_inv L
    have hWl : ∀ x, x < n → wayL ws x < 3 ∧ ws[x]? = some (wayL ws x) := fun x hx => by
      have hl' : x < ws.length := by omega
      unfold wayL
      rw [List.getD_eq_getElem?_getD, List.getElem?_eq_getElem hl']
      exact ⟨hw _ (List.getElem_mem hl'), rfl⟩
    have hW : ∀ x, x < n → wayL ws x < 3 := fun x hx => (hWl x hx).1
    have G := next_goes I hW
    obtain ⟨j, O⟩ := out_some I hW hc
    have gl : ∀ i, goalK (far ps) (wayL ws) c i < 4 * n := fun i => I.lt _ (G.iter_lt (by omega) i)
    refine ⟨fun σ H2 => σ = [some (.ref D), some (.ref S), some (.int (c : Nat)), some (.int (goalK (far ps) (wayL ws) c 0 : Nat))] ∧ H2 = H, ?_, ?_⟩
    · have q := fkv_get L hD (show 4 * c < 4 * n by omega)
      rw [show ((4 * c : Nat) : Int) = 4 * ((c : Nat) : Int) by omega] at q
      exact ⟨_, rfl, _, rfl, _, _, rfl, rfl, .inl ⟨by decide, by decide⟩, D, _, rfl, q, rfl, rfl⟩
    · rintro σ0 H0 ⟨rfl, rfl⟩
      unfold tSeq
      refine ⟨fun m σ H2 => ∃ i, i + m = j ∧ σ = [some (.ref D), some (.ref S), some (.int (c : Nat)), some (.int (goalK (far ps) (wayL ws) c i : Nat))] ∧ H2 = H0, ⟨j, 0, Nat.zero_add _, rfl, rfl⟩, ?_⟩
      rintro m σ H2 ⟨i, him, rfl, rfl⟩
      have d4 : ((goalK (far ps) (wayL ws) c i : Nat) : Int) / 4 = ((goalK (far ps) (wayL ws) c i / 4 : Nat) : Int) := by omega
      have hg := gl i
      refine ⟨_, rfl, _, _, rfl, rfl, ⟨by decide, by decide⟩, _, rfl, rfl, _, rfl, ?_⟩
      refine ite2 (fun hb => ?_) (fun hb => ?_)
      rotate_left
      · have hb : ¬ (!decide (V.int (((goalK (far ps) (wayL ws) c i : Nat) : Int) / 4) = V.int (c : Nat))) = true := hb
        rw [d4] at hb
        have hq : goalK (far ps) (wayL ws) c i / 4 = c := Classical.byContradiction fun q => hb (by
          rw [decide_eq_false (fun z => q (by have := V.int.inj z; omega))]
          rfl)
        have ij : i = j := by
          rcases Nat.lt_or_ge i j with h | h
          · exact absurd hq (O.first i h)
          · omega
        subst ij
        refine ⟨_, rfl, _, _, rfl, rfl, (by show (0 : Int) < 4; decide), _, _, rfl, rfl, ?_⟩
        have ne := goal_ne (j := i) I hW hc
        obtain ⟨o, ho, eo⟩ : ∃ o, o < 3 ∧ goalK (far ps) (wayL ws) c i = 4 * c + o + 1 := ⟨goalK (far ps) (wayL ws) c i - 4 * c - 1, by omega, by omega⟩
        have := k i o O ho eo
        show Q (.int (((goalK (far ps) (wayL ws) c i : Nat) : Int) % 4 - 1)) H2
        rw [show ((goalK (far ps) (wayL ws) c i : Nat) : Int) % 4 - 1 = ((o : Nat) : Int) by omega]
        exact this
      · have hb : (!decide (V.int (((goalK (far ps) (wayL ws) c i : Nat) : Int) / 4) = V.int (c : Nat))) = true := hb
        rw [d4] at hb
        have hq : ¬ goalK (far ps) (wayL ws) c i / 4 = c := fun q => by
          rw [q, decide_eq_true rfl] at hb
          cases hb
        have ij : i < j := by
          rcases Nat.lt_or_ge i j with h | h
          · exact h
          · have : i = j := by omega
            subst this
            exact absurd O.here hq
        refine ⟨fun σ' H' => ∃ i', i' + (m - 1) = j ∧ σ' = [some (.ref D), some (.ref S), some (.int (c : Nat)), some (.int (goalK (far ps) (wayL ws) c i' : Nat))] ∧ H' = H2, fun σ' H' h => ⟨m - 1, by omega, h⟩, ?_⟩
        obtain ⟨w3, wat⟩ := hWl (goalK (far ps) (wayL ws) c i / 4) (by omega)
        refine ⟨_, rfl, _, rfl, _, rfl, _, rfl, _, _, rfl, rfl, ⟨by decide, by decide⟩, S, _, _, V.int (wayL ws (goalK (far ps) (wayL ws) c i / 4) : Nat), rfl, rfl, SqL.of hS, at_of (j := goalK (far ps) (wayL ws) c i / 4) d4 (nats_at wat), _, _, rfl, rfl, _, _, rfl, rfl, D, _, rfl, ?_, i + 1, by omega, rfl, rfl⟩
        have q := fkv_get L hD (show (goalK (far ps) (wayL ws) c i ^^^ (wayL ws (goalK (far ps) (wayL ws) c i / 4) + 1)) < 4 * n by
          have := mate_block (e := goalK (far ps) (wayL ws) c i) w3
          omega)
        have ex : Builtin.bitXor ((goalK (far ps) (wayL ws) c i : Nat) : Int) (((wayL ws (goalK (far ps) (wayL ws) c i / 4) : Nat) : Int) + 1) = ((goalK (far ps) (wayL ws) c i ^^^ (wayL ws (goalK (far ps) (wayL ws) c i / 4) + 1) : Nat) : Int) := by
          rw [Bits.bitXor_pp (by omega) (by omega), show (((wayL ws (goalK (far ps) (wayL ws) c i / 4) : Nat) : Int) + 1).toNat = wayL ws (goalK (far ps) (wayL ws) c i / 4) + 1 by omega]
          rfl
        rw [← goal_next (far ps) (wayL ws) c i] at q
        rw [← ex] at q
        exact q
end
end One
end P_S8

section P_S9
set_option linter.all false
set_option maxRecDepth 100000
set_option maxHeartbeats 8000000
namespace One
open PySem PySem.Spec PyProof.Rows L2
/-! ### tuple * 1, len(dict) -/
theorem tuple_mul1 (l : Addr) (items : Array Value) (n : Nat) (dd : Option Addr) (sl : Array (Option Value)) (u : Tok) :
    Meets (Builtin.«tuple.__mul__» ⟨[.ref l, .int 1 u], []⟩) (fun _ R s => s.heap.get? l = some { cls := .type "tuple", dict := dd, data := .seq items n, slots := sl } ∧ R (.ok (.ret (Value.ref l))) s) :=
  .of_wp fun prog w A R s h => by
    obtain ⟨hp, g, d, tk, os⟩ := s
    obtain ⟨hl, h⟩ := h
    have f1 := AutoSeq1.idx_int
    have c0 : (decide ((1 : Int) < -(2 ^ 63)) || decide ((1 : Int) ≥ 2 ^ 63)) = false := by decide
    have c1 : (items.isEmpty || (1 : Int) == 1) = true := by simp
    wp_walk using wpAny_loadPart' hl
    repeat (first
      | (refine wpAny_ite_false (decide_eq_false (by rw [c0]; exact Bool.false_ne_true)) ?_; wp_walk using wpAny_loadPart' hl)
      | (refine wpAny_ite_true (decide_eq_true (by rw [c1])) ?_; wp_walk using wpAny_loadPart' hl))
    exact ⟨_, rfl, h⟩
def rRepX (K : PySem.W.Frag) : R2 := fun x y H Q => ∃ (l : Addr) (k : Nat) (v : V), x = .ref l ∧ y = .int (k : Nat) ∧ H l = some (.tup [v]) ∧ 0 < k ∧ k ≤ 1000 ∧ ∀ (H' : Hp) (p : Addr), Same H H' → H' p = some (.tup (List.replicate k v)) → Q (.ref p) H'
section
variable {X : Cx}
/-- (x,) * k -/
theorem op_repX : OpR X (binaryOp .Mult) (rRepX X.K) := by
  intro pins s σ H x y v u Q I rx ry h
  obtain ⟨l, k, z, rfl, rfl, hl, hk0, hk1, q⟩ := h
  have hT : SqT X.K H l [z] := SqT.of hl
  by_cases h1 : k = 1
  · subst h1
    cases rx
    obtain ⟨t, rfl⟩ := ry
    obtain ⟨its, r, ⟨⟨cls, dd, data, sl⟩, ho, hc, n, hd⟩, hs⟩ := I.tuple hT
    simp only at hc hd
    subst hc hd
    refine wpAny_binaryOp_repeat_ref (T := "tuple") (U := "int") (by decide) ⟨_, ho, rfl⟩ (fun s' => typeIs_int s' 1 t) noFill_tuple_mul F.fills_int_mul F.slot_int_rmul repeat_tuple F.slot_int_index.lookup
      (call_meets F.slot_int_rmul (typeIs_int s 1 t) F.entry_int_rmul (F.args_int_rmul_2 _ _) (int_rmul_tuple 1 t l its.toArray n dd sl)
        ⟨ho, rfl, ⟨_, ho, rfl⟩, call_meets F.slot_tuple_mul ⟨_, ho, rfl⟩ F.entry_tuple_mul (F.args_tuple_mul_2 _ _) (tuple_mul1 l its.toArray n dd sl t) ⟨ho, ?_⟩⟩)
    exact ⟨.ref l, H, I, rfl, q H l (Same.refl H) hl⟩
  · refine op_repT pins s σ H _ _ v u Q I rx ry ⟨l, (k : Nat), [z], rfl, rfl, hT, by simp, by omega, by omega, by show 1 ≤ 1000; decide, fun p hp => ?_⟩
    have e : (List.replicate ((k : Nat) : Int).toNat [z]).flatten = List.replicate k z := by
      rw [show ((k : Nat) : Int).toNat = k by omega]
      clear q hk0 hk1 h1 ry
      induction k with
      | zero => rfl
      | succ k ih => rw [List.replicate_succ, List.flatten_cons, ih, List.replicate_succ]; rfl
    rw [e]
    exact q _ p (Same.new hp) upd_same
theorem cr_len_d : CallR X (.builtin "len") (fun xs H Q => ∃ (p : Addr) (kvs : List (Key × V)), xs = [.ref p] ∧ H p = some (.dK kvs) ∧ Q (.int kvs.length) H) := by
  intro pins s σ H xs us Q I r h
  obtain ⟨p, kvs, rfl, hp, q⟩ := h
  rw [Vals.ref1 r]
  exact d_len I (.inl hp) fun t s' I' => ⟨.int kvs.length, H, I', ⟨_, rfl⟩, q⟩
end
end One
end P_S9

section P_SA
set_option linter.all false
set_option maxRecDepth 100000
set_option maxHeartbeats 8000000
namespace One
open PySem PySem.Spec PyProof.Rows L2
theorem ends_two : ∀ ps : List (Nat × Nat), (ends ps).length = 2 * ps.length
  | [] => rfl
  | p :: r => by
    show (ends r).length + 1 + 1 = 2 * (r.length + 1)
    rw [ends_two r]
    omega
abbrev sST : Stmt := top 49
abbrev nST : List Str := ["state", "fars", "many", "way", "found", "number", "crossing"]
theorem scST : FnScope nST ["state", "fars"] (defScope sST) := ⟨rfl, rfl, rfl, by decide +kernel, rfl, by decide +kernel, by decide +kernel⟩
def spST : Sp := fun vs H Q _ => ∃ (p a l D : Addr) (n m : Nat) (ps : List (Nat × Nat)), vs = [.ref p, .ref D] ∧ ML H p a l n ∧ n ≤ 900000 ∧ Lines m ps ∧ 0 < m ∧ m ≤ 40 ∧ D ≠ p ∧ H D = some (.dK (fkv (far ps) (ends ps))) ∧
  ∀ (H' : Hp) (t : Addr) (ws : List Nat), ML H' p a l (n + 2 + 3 * m) → ExtL p l H H' → SetAt H' t m ws → Q (.ref t) H'
section
variable {P : Program} {w : World} {K : PySem.W.Frag} {mg : Str → Option Value} {base : Heap}
theorem ok_setting {f fD fO fU : Addr} {fd fdD fdO fdU : FuncData} (F : Fun K "_law_setting" "_law_setting" sST f fd) (T : TB mg) (D : Cal K mg "_law_draw" fD fdD ["state", "many"]) (GD : FnOk P w K mg base CX0 2 fD fdD ["state", "many"] spDR)
    (O : Cal K mg "_law_order" fO fdO ["state", "size"]) (GO : FnOk P w K mg base CX0 3 fO fdO ["state", "size"] spOR) (Ou : Cal K mg "_law_outer" fU fdU ["fars", "setting", "crossing"]) (GU : FnOk P w K mg base CX0 1 fU fdU ["fars", "setting", "crossing"] spOU) : FnOk P w K mg base CX0 4 f fd ["state", "fars"] spST := by
  refine F.ok scST (fun vs H Q E h => ?_) (fun cdv A outer s H vs Q E hr h => ?_)
  · obtain ⟨p, a, l, D0, n, m, ps, rfl, _⟩ := h
    rfl
  · obtain ⟨p, a, l, D0, n, m, ps, rfl, M, hn, L, h0, h40, nDp, hD, k⟩ := h
    have nd := scST.nd
    have hr3 : Room 3 _ := hr
    have hr2 : Room 2 _ := hr.mono (by decide)
    have hr1 : Room 1 _ := hr.mono (by decide)
    have nDl : D0 ≠ l := by
      obtain ⟨_, ds, _, _, _, h3, _⟩ := M.ex
      exact ne_of hD h3 (by intro z; cases z)
    refine ⟨_, pss_cons (ps_par (i := 2) (j := 3) (by rfl) nd rfl rfl (by decide) rfl rfl (pa_cons (pe_mid (pe_op op_fdiv (pe_callB cr_len_d (by rfl) T.len PySem.boot_len (pa_cons (pv 1) pa_nil)) pe_int)) (pa_cons (pe_call GD hr2 rfl D.g D.kp D.b .nil pass0 (pa_cons (pv 0) (pa_cons pe_int pa_nil))) pa_nil)) (by rfl))
      (pss_cons (ps_if (pt_cmpR op_eq (pv 3) pe_int (nomark _)) (pss_one (ps_ret (pe_op op_repX (pe_tup (pa_cons (pe_call GD hr2 rfl D.g D.kp D.b .nil pass0 (pa_cons (pv 0) (pa_cons pe_int pa_nil))) pa_nil)) (pv 2)))) pss_nil)
      (pss_cons (ps_setLc (i := 4) (own := [("number", 5)]) (g := (gName 5)) (tt := tYes) (te := (tCall spDR [] E0 (tCons (tVar 0) (tCons (tC (.int 3)) tNil)))) rfl nd rfl rfl (sw_true rfl rfl rfl (by decide +kernel)) (pi_range1 (by rfl) T.range (pa_cons (pv 2) pa_nil)) (blkOk_by (N := nST) (sc := defScope sST) (by decide +kernel)) (fun _ _ _ _ _ => pg_name (i := 5) nd rfl (Or.inl rfl)) (fun _ _ _ _ _ => pts_nil) (fun _ _ _ _ _ => by exact (pe_call GD hr2 rfl D.g D.kp D.b .nil pass0 (pa_cons (pv 0) (pa_cons pe_int pa_nil)))))
      (pss_cons (ps_if (pt_cmpR op_gt (pv 3) pe_int (nomark _)) (pss_one (ps_for PassesOwn.never rfl (pi_list (pe_call GO hr3 rfl O.g O.kp O.b .nil pass0 (pa_cons (pv 0) (pa_cons (pv 2) pa_nil)))) (pg_name (i := 6) nd rfl (Or.inl rfl))
        (pss_one (ps_if (pt_cmpR op_gt (pe_call GD hr2 rfl D.g D.kp D.b .nil pass0 (pa_cons (pv 0) (pa_cons (pe_op op_sub (pe_op op_mul pe_int (pv 3)) pe_int) pa_nil))) pe_int (nomark _)) (pss_one (ps_asg (pe_call GU hr1 rfl Ou.g Ou.kp Ou.b .nil pass0 (pa_cons (pv 1) (pa_cons (pv 4) (pa_cons (pv 6) pa_nil)))) (pg_sub (pv 4) (pv 6) set_list))) pss_nil)))) pss_nil)
      (pss_one (ps_ret (pe_tupleOf (by rfl) T.tuple (pv 4))))))), ?_⟩
    refine ⟨fun v H1 => v = .int (m : Nat) ∧ H1 = H, ?_, ?_⟩
    · refine ⟨_, rfl, D0, _, rfl, hD, _, _, rfl, rfl, ⟨by decide, by decide⟩, ?_, rfl⟩
      have e : (((fkv (far ps) (ends ps)).length : Nat) : Int) / 4 = ((m : Nat) : Int) := by
        unfold fkv
        rw [List.length_map, ends_two, L.len]
        omega
      show V.int ((((fkv (far ps) (ends ps)).length : Nat) : Int) / 4) = _
      rw [e]
    rintro v H1' ⟨rfl, rfl⟩
    refine ⟨_, rfl, p, a, l, n, 4, rfl, M, by omega, by decide, by decide, fun H1 way M1 e1 w0 w4 => ⟨_, _, rfl, ?_⟩⟩
    have hD1 := e1 _ _ nDp nDl hD
    refine ⟨_, rfl, rfl, _, rfl, ite2 (fun _ => ?_) (fun _ => ?_)⟩
    · refine ⟨_, rfl, p, a, l, _, 3, rfl, M1, by omega, by decide, by decide, fun H2 q M2 e2 q0 q3 => ⟨by show 1 ≤ sizeLine; decide, fun t1 ht1 => ?_⟩⟩
      have s3 := Same.new (o := .tup [V.int q]) ht1
      refine ⟨_, rfl, t1, m, V.int q, rfl, rfl, upd_same, h0, by omega, fun H3 t3 s4 ht3 => ?_⟩
      have s34 := s3.trans s4
      refine k H3 t3 (List.replicate m q.toNat) ((M2.keep s34).lt (by omega) (by omega)) ((e1.trans e2).trans (ExtL.same s34)) ⟨List.length_replicate, fun x hx => ?_, ?_⟩
      · rw [(List.mem_replicate.mp hx).2]
        omega
      · rw [ht3]
        unfold nats
        rw [List.map_replicate, show ((q.toNat : Nat) : Int) = q by omega]
    · refine ⟨_, rfl, _, rfl, by omega, by omega, fun Fd hFd => ?_⟩
      rw [show ((m : Nat) : Int).toNat = m by omega]
      have sF := Same.new (o := .lst []) hFd
      obtain ⟨nFp, nFl⟩ := M1.apart hFd
      refine lc_it (walk_range (lo := 0) (n := m)) (fun i H6 => ∃ ws : List Nat, ws.length = i ∧ H6 Fd = some (.lst (nats ws)) ∧ (∀ x ∈ ws, x < 3) ∧ ML H6 p a l (n + 1 + i) ∧ ExtL p l H1 H6)
        ⟨[], rfl, upd_same, fun x h => absurd h (by simp), M1.keep sF, ExtL.same sF⟩ (fun _ _ _ _ => trivial) ?_ ?_
      · rintro i v H6 H7 hi ⟨ws, lw, h6, w6, M6, e6⟩ ⟨rfl, rfl⟩
        refine ⟨rfl, yes ⟨_, rfl, p, a, l, _, 3, rfl, M6, by omega, by decide, by decide, fun H8 q M8 e8 q0 q3 => ?_⟩⟩
        have h8 := e8 _ _ nFp nFl h6
        refine ⟨_, h8, small1000 (by rw [List.length_map]; omega), ws ++ [q.toNat], by rw [List.length_append, lw]; rfl, ?_, fun x hx => ?_, (ML.wrN M1 hFd M8).lt (by omega) (by omega), (e6.trans e8).wr hFd⟩
        · rw [upd_same, nats_app]
          show some (HO.lst (nats ws ++ [V.int q])) = some (HO.lst (nats ws ++ [V.int ((q.toNat : Nat) : Int)]))
          rw [show ((q.toNat : Nat) : Int) = q by omega]
        · rcases List.mem_append.mp hx with h | h
          · exact w6 x h
          · rw [List.mem_singleton.mp h]
            omega
      · rintro H6 ⟨ws, lw, h6, w6, M6, e6⟩
        have fin : ∀ (H' : Hp) (ws' : List Nat), H' Fd = some (.lst (nats ws')) → ws'.length = m → (∀ x ∈ ws', x < 3) → ML H' p a l (n + 1 + 3 * m) → ExtL p l H1 H' → kTup K (.ref Fd) H' Q := fun H' ws' hF hlw hw M' e' => by
          refine .inl ⟨Fd, _, rfl, SqL.of hF, fun u hu => ?_⟩
          have su := Same.new (o := .tup (nats ws')) hu
          exact k _ u ws' ((M'.keep su).lt (by omega) (by omega)) ((e1.trans e').trans (ExtL.same su)) ⟨hlw, hw, upd_same⟩
        refine ⟨_, rfl, _, _, rfl, rfl, _, rfl, ite2 (fun hb => ?_) (fun _ => ?_)⟩
        · have hw1 : (1 : Int) < way := of_decide_eq_true hb
          refine ⟨_, rfl, _, rfl, p, a, l, _, m, rfl, M6, by omega, by omega, fun H7 b cs M7 e7 hbn hb7 hbp => ⟨b, rfl, ⟨_, SqL.of hb7⟩, ?_⟩⟩
          obtain ⟨nbp, nbl⟩ := M6.apart hbn
          have h7 := e7 _ _ nFp nFl h6
          have nFb : Fd ≠ b := ne_of_none h6 hbn
          have lcs : cs.length = m := by rw [hbp.length_eq, List.length_range]
          refine for_it (walk_list (K := K) (a := b) (xs := nats cs)) (fun i σ H' => ∃ (v5 v6 : Option V) (ws' : List Nat), σ = [some (.ref p), some (.ref D0), some (.int (m : Nat)), some (.int way), some (.ref Fd), v5, v6] ∧ ws'.length = m ∧ (∀ x ∈ ws', x < 3) ∧ H' Fd = some (.lst (nats ws')) ∧ H' b = some (.lst (nats cs)) ∧ ML H' p a l (n + 1 + 2 * m + i) ∧ ExtL p l H1 H')
            ⟨_, _, ws, rfl, lw, w6, h7, hb7, M7.lt (by omega) (by omega), e6.trans e7⟩ (fun i σ H' _ ⟨_, _, _, _, _, _, _, h', _⟩ => SqL.of h') ?_ ?_
          · rintro i v σ H8 H9 hi ⟨v5, v6, ws', rfl, lw', w', hF9, hb9, M9, e9⟩ ⟨rfl, hv⟩
            have hv : (nats cs)[i]? = some v := hv
            rw [List.length_map] at hi
            rw [List.getElem?_map, List.getElem?_eq_getElem hi] at hv
            cases hv
            have hcm : cs[i] < m := List.mem_range.mp (hbp.mem_iff.mp (List.getElem_mem hi))
            generalize cs[i] = c at hcm
            refine ⟨_, rfl, _, rfl, _, _, rfl, rfl, .inl ⟨by decide, by decide⟩, _, _, rfl, rfl, p, a, l, _, _, rfl, M9, by omega, by omega, by omega, fun HA q MA eA q0 q1 => ⟨_, _, rfl, rfl, _, rfl, ite2 (fun _ => ?_) (fun _ => ?_)⟩⟩
            · have hFA := eA _ _ nFp nFl hF9
              have hDA := (e9.trans eA) _ _ nDp nDl hD1
              refine ⟨_, rfl, _, rfl, _, rfl, D0, Fd, m, c, ps, ws', rfl, L, hDA, hFA, lw', w', hcm, fun j o OA ho eo => ?_⟩
              refine ⟨_, rfl, _, rfl, Fd, _, _, c, rfl, rfl, hFA, ix_nat (by rw [List.length_map, lw']; exact hcm), ?_⟩
              have es : (nats ws').set c (V.int (o : Nat)) = nats (ws'.set c o) := (List.map_set).symm
              rw [es]
              refine ⟨_, _, ws'.set c o, rfl, by rw [List.length_set]; exact lw', fun x hx => ?_, upd_same, (upd_ne (Ne.symm nFb)).trans (eA _ _ nbp nbl hb9), ML.wrN M1 hFd MA, (e9.trans eA).wr hFd⟩
              rcases List.mem_or_eq_of_mem_set hx with h | h
              · exact w' x h
              · rw [h]
                exact ho
            · exact ⟨_, _, ws', rfl, lw', w', eA _ _ nFp nFl hF9, eA _ _ nbp nbl hb9, MA, e9.trans eA⟩
          · rintro σ H8 ⟨v5, v6, ws', rfl, lw', w', hF9, hb9, M9, e9⟩
            rw [List.length_map, lcs] at M9
            exact ⟨_, rfl, fin _ ws' hF9 lw' w' (M9.lt (by omega) (by omega)) e9⟩
        · exact ⟨_, rfl, fin _ ws h6 lw w6 (M6.lt (by omega) (by omega)) e6⟩
end
end One
end P_SA

section P_U1
set_option linter.all false
set_option maxRecDepth 100000
set_option maxHeartbeats 16000000
namespace One
open PySem PySem.Spec PyProof.Rows L2
theorem cut_whole {xs : List V} {lo hi : Option Int} (h : HT.sIx xs.length 0 lo = 0 ∧ HT.sIx xs.length xs.length hi = xs.length) : cutV xs lo hi = xs := by
  unfold cutV
  rw [h.1, h.2, List.drop_zero, Nat.sub_zero, List.take_length]
theorem rd_slA {K : PySem.W.Frag} {H : Hp} {a : Addr} {xs : List V} {lo hi : Option Int} {Q : VK} (ha : H a = some (.tup xs)) (k : ∀ (H' : Hp) (p : Addr), Same H H' → H' p = some (.tup (cutV xs lo hi)) → Q (.ref p) H') : rSlA K (.ref a) lo hi H Q :=
  ⟨a, xs, rfl, SqT.of ha, fun h => k H a (Same.refl H) (by rw [cut_whole h]; exact ha), fun _ p hp => k _ p (Same.new hp) upd_same⟩
theorem rd_catA {K : PySem.W.Frag} {H : Hp} {a b : Addr} {xs ys : List V} {Q : VK} (ha : H a = some (.tup xs)) (hb : H b = some (.tup ys)) (hl : xs.length + ys.length ≤ sizeLine) (k : ∀ (H' : Hp) (p : Addr), Same H H' → H' p = some (.tup (xs ++ ys)) → Q (.ref p) H') : rCatA K (.ref a) (.ref b) H Q :=
  ⟨a, b, xs, ys, rfl, rfl, SqT.of ha, SqT.of hb, hl, fun e => k H b (Same.refl H) (by rw [e]; exact hb), fun _ e => k H a (Same.refl H) (by rw [e, List.append_nil]; exact ha), fun _ _ p hp => k _ p (Same.new hp) upd_same⟩
theorem cut_take {xs : List V} {i : Nat} (h : i ≤ xs.length) : cutV xs none (some (i : Nat)) = xs.take i := by
  unfold cutV
  rw [HT.sIx_none, HT.sIx_nat, List.drop_zero, Nat.sub_zero, Nat.min_eq_left h]
theorem cut_drop {xs : List V} {i : Nat} (h : i ≤ xs.length) : cutV xs (some (i : Nat)) none = xs.drop i := by
  unfold cutV
  rw [HT.sIx_none, HT.sIx_nat, Nat.min_eq_left h]
  exact List.take_of_length_le (by rw [List.length_drop]; omega)
theorem cut_init {xs : List V} : cutV xs none (some (-1)) = xs.take (xs.length - 1) := by
  unfold cutV
  have e : HT.sIx xs.length xs.length (some (-1)) = xs.length - 1 := by
    show (if (-1 : Int) < 0 then ((-1 : Int) + (xs.length : Int)).toNat else min (-1 : Int).toNat xs.length) = xs.length - 1
    rw [if_pos (by decide)]
    omega
  rw [HT.sIx_none, e, List.drop_zero, Nat.sub_zero]
/-- one put in the place of another -/
def put_ (xs : List V) (i : Nat) (v : V) : List V := (xs.take i ++ [v]) ++ xs.drop (i + 1)
theorem pt_len {xs : List V} {i : Nat} {v : V} (h : i < xs.length) : (put_ xs i v).length = xs.length := by
  unfold put_
  simp only [List.length_append, List.length_take, List.length_drop, List.length_cons, List.length_nil]
  omega
theorem pt_at {xs : List V} {i : Nat} {v : V} (h : i < xs.length) : (put_ xs i v)[i]? = some v := by
  have e : (xs.take i).length = i := by rw [List.length_take]; omega
  unfold put_
  rw [List.append_assoc, List.getElem?_append_right (by omega), e, Nat.sub_self]
  rfl
theorem pt_take {xs : List V} {i : Nat} {v : V} (h : i < xs.length) : (put_ xs i v).take i = xs.take i := by
  have e : (xs.take i).length = i := by rw [List.length_take]; omega
  unfold put_
  rw [List.append_assoc, List.take_append_of_le_length (by omega), List.take_of_length_le (by omega)]
theorem pt_mem {xs : List V} {i : Nat} {v x : V} (h : x ∈ put_ xs i v) : x = v ∨ x ∈ xs := by
  unfold put_ at h
  rcases List.mem_append.mp h with h | h
  · rcases List.mem_append.mp h with h | h
    · exact .inr (List.mem_of_mem_take h)
    · exact .inl (List.mem_singleton.mp h)
  · exact .inr (List.mem_of_mem_drop h)

abbrev nWW : List Str := ["ways", "crossing", "way"]
abbrev nME : List Str := ["ends", "crossing", "end"]
abbrev nRM : List Str := ["rounds", "crossing", "number", "ends"]
def spWW : Sp := fun vs H Q _ => ∃ (u : Addr) (c : Nat) (v : V) (xs : List V), vs = [.ref u, .int (c : Nat), v] ∧ H u = some (.tup xs) ∧ c < xs.length ∧ xs.length ≤ 100 ∧ ∀ (H' : Hp) (q : Addr), Same H H' → H' q = some (.tup (put_ xs c v)) → Q (.ref q) H'
def spME : Sp := fun vs H Q _ => ∃ (t : Addr) (c : Nat) (es : List Nat), vs = [.ref t, .int (c : Nat)] ∧ H t = some (.tup (nats es)) ∧ es.length ≤ 10000 ∧ ∀ H', Same H H' → Q (.bl (es.any fun e => decide (e / 4 = c))) H'
/-- whether the round of that number has an end at the crossing -/
def meetB (f : Nat → Nat) (rs : List (Nat × Nat)) (c i : Nat) : Bool := (rnd f (rs.getD i (0, 0)).1 (rs.getD i (0, 0)).2).any fun e => decide (e / 4 = c)
def spRM : Sp := fun vs H Q _ => ∃ (r : Addr) (c : Nat) (as : List Addr) (f : Nat → Nat) (rs : List (Nat × Nat)), vs = [.ref r, .int (c : Nat)] ∧ H r = some (.tup (refs as)) ∧ RsAt f H as rs ∧ rs.length ≤ 1000 ∧ (∀ p ∈ rs, p.2 ≤ 10000) ∧
  ∀ (H' : Hp) (q : Addr), Same H H' → H' q = some (.tup (nats ((List.range rs.length).filter (meetB f rs c)))) → Q (.ref q) H'
theorem RsAt.got {f : Nat → Nat} {H : Hp} {as : List Addr} {rs : List (Nat × Nat)} (h : RsAt f H as rs) : ∀ {i : Nat} {a : Addr}, as[i]? = some a → ∃ p, rs[i]? = some p ∧ H a = some (.tup (nats (rnd f p.1 p.2))) := by
  induction h with
  | nil => intro i a e; simp at e
  | cons h1 _ ih =>
    intro i a e
    cases i with
    | zero =>
      cases Option.some.inj e
      exact ⟨_, rfl, h1⟩
    | succ i => exact ih (i := i) (by simpa using e)
theorem getD_of {α : Type} {xs : List α} {i : Nat} {x d : α} (h : xs[i]? = some x) : xs.getD i d = x := by
  rw [List.getD_eq_getElem?_getD, h]
  rfl
theorem put_off {xs : List V} {c i : Nat} {v : V} (hc : c < xs.length) (h : i ≠ c) : (put_ xs c v)[i]? = xs[i]? := by
  have e : (xs.take c).length = c := by rw [List.length_take]; omega
  unfold put_
  rw [List.append_assoc]
  rcases Nat.lt_or_ge i c with q | q
  · rw [List.getElem?_append_left (by omega), List.getElem?_take, if_pos q]
  · rw [List.getElem?_append_right (by omega), e]
    obtain ⟨d, rfl⟩ : ∃ d, i = c + (d + 1) := ⟨i - c - 1, by omega⟩
    rw [show c + (d + 1) - c = d + 1 by omega]
    show (xs.drop (c + 1))[d]? = _
    rw [List.getElem?_drop]
    congr 1
    omega
section
variable {P : Program} {w : World} {K : PySem.W.Frag} {mg : Str → Option Value} {base : Heap}
end
theorem up_len : ∀ {rs : List (Nat × Nat)} {a N : Nat}, rs.Pairwise (fun p q => p.1 < q.1) → (∀ p ∈ rs, a ≤ p.1 ∧ p.1 < N) → rs.length ≤ N - a
  | [], _, _, _, _ => Nat.zero_le _
  | p :: rs, a, N, h, hb => by
    obtain ⟨h1, h2⟩ := List.pairwise_cons.mp h
    have hp := hb p (List.mem_cons_self ..)
    have := up_len (a := p.1 + 1) (N := N) h2 fun q hq => ⟨h1 q hq, (hb q (List.mem_cons_of_mem _ hq)).2⟩
    rw [List.length_cons]
    omega
theorem rounds_small {F W : Nat → Nat} {n : Nat} {rs : List (Nat × Nat)} (I : Inv2 F n) (hW : ∀ c, c < n → W c < 3) (R : Rounds F W n rs) : rs.length ≤ 4 * n ∧ ∀ p ∈ rs, p.2 ≤ 4 * n := by
  refine ⟨?_, fun p hp => ?_⟩
  · have := up_len (a := 0) (N := 4 * n) R.up fun p hp => ⟨Nat.zero_le _, (R.per p hp).1⟩
    omega
  · obtain ⟨h1, h2⟩ := R.per p hp
    obtain ⟨k, hk, hl⟩ := (next_goes I hW).per h1
    rw [h2.one hk]
    exact hl
theorem set_ok {H : Hp} {u : Addr} {m : Nat} {ws : List Nat} (h : SetAt H u m ws) : ∀ x ∈ nats ws, okW false x = true ∧ TV H x "int" := fun x hx => by
  obtain ⟨z, hz, rfl⟩ := List.mem_map.mp hx
  refine ⟨?_, .int _⟩
  have := h.lt z hz
  show (((decide (0 ≤ ((z : Nat) : Int)) && decide (((z : Nat) : Int) < 3))) || _) = true
  rw [decide_eq_true (by omega : 0 ≤ ((z : Nat) : Int)), decide_eq_true (by omega : ((z : Nat) : Int) < 3)]
  rfl
theorem look_good {C : Addr} {H : Hp} {u : Addr} {m : Nat} {ws : List Nat} {Q : Hp → Prop} {E : XK} (h : SetAt H u m ws) (k : ∀ H', Same H H' → Q H') : LookW C false (.ref u) m H Q E :=
  .inr ⟨u, _, rfl, h.here, (List.length_map _).trans h.len, fun x hx => ⟨_, (set_ok h x hx).2⟩, fun _ H' s => k H' s, fun i x hx hb _ => by
    have := (set_ok h x (List.mem_of_getElem? hx)).1
    rw [hb] at this
    cases this⟩
/-! ### a tuple of small numbers, as data -/
def nsD (rs : List Nat) : PyData := .tuple (rs.map fun x => PyData.int (x : Nat))
theorem dp_ns {K : PySem.W.Frag} {H : Hp} : ∀ rs : List Nat, DpAll K H (nats rs) (rs.map fun x => PyData.int (x : Nat))
  | [] => .nil
  | _ :: r => .cons (.int _) (dp_ns r)
theorem dp_nsD {K : PySem.W.Frag} {H : Hp} {u : Addr} {rs : List Nat} (h : H u = some (.tup (nats rs))) : Dp K H (.ref u) (nsD rs) := .tup (SqT.of h) (dp_ns rs)
theorem ns_all : ∀ rs : List Nat, (∀ x ∈ rs, x < 1000) → PyData.showableAll (rs.map fun x => PyData.int (x : Nat)) = true ∧ PyData.hasDictAll (rs.map fun x => PyData.int (x : Nat)) = false ∧ PyData.depthAll (rs.map fun x => PyData.int (x : Nat)) ≤ 1 ∧ PyData.leavesShortAll 8 (rs.map fun x => PyData.int (x : Nat)) = true ∧ PyData.bulkAll (rs.map fun x => PyData.int (x : Nat)) = rs.length
  | [], _ => ⟨rfl, rfl, Nat.zero_le _, rfl, rfl⟩
  | x :: r, h => by
    obtain ⟨h1, h2, h3, h4, h5⟩ := ns_all r fun q m => h q (List.mem_cons_of_mem _ m)
    have q1 := h x (List.mem_cons_self ..)
    have a1 : PyData.showable (.int (x : Nat)) = true := by
      show decide (((x : Nat) : Int).natAbs.log2 < 1920) = true
      simp only [Int.natAbs_natCast, decide_eq_true_eq]
      exact log_small q1
    have a4 : PyData.leavesShort 8 (.int (x : Nat)) = true := by
      show decide (_ ≤ 8) = true
      simp only [decide_eq_true_eq]
      exact int_short _ q1
    refine ⟨?_, ?_, ?_, ?_, ?_⟩
    · show (PyData.showable (.int (x : Nat)) && PyData.showableAll _) = true
      rw [a1, h1]; rfl
    · show (false || PyData.hasDictAll _) = false
      rw [h2]; rfl
    · show max 0 (PyData.depthAll _) ≤ 1
      exact Nat.max_le.mpr ⟨Nat.zero_le 1, h3⟩
    · show (PyData.leavesShort 8 (.int (x : Nat)) && PyData.leavesShortAll 8 _) = true
      rw [a4, h4]; rfl
    · show 0 + 1 + PyData.bulkAll _ = _
      rw [h5]
      show 0 + 1 + r.length = r.length + 1
      omega
theorem ns_fine {rs : List Nat} (h : ∀ x ∈ rs, x < 1000) (hl : rs.length ≤ 1000) : (nsD rs).showable = true ∧ (nsD rs).hasDict = false ∧ (nsD rs).depth ≤ 16 ∧ (nsD rs).shown.length ≤ sizeLine := by
  obtain ⟨h1, h2, h3, h4, h5⟩ := ns_all rs h
  refine ⟨h1, h2, ?_, ?_⟩
  · show PyData.depthAll _ + 1 ≤ 16
    omega
  · have q := PyData.shown_le_bulk 8 (Nat.le_refl _) (nsD rs) h4
    have e : (nsD rs).bulk = rs.length := h5
    rw [e] at q
    have : (40000 : Nat) ≤ sizeLine := by decide
    omega
theorem repr_ns {K : PySem.W.Frag} {H : Hp} {u : Addr} {rs : List Nat} {Q : VK} (hu : H u = some (.tup (nats rs))) (h : ∀ x ∈ rs, x < 1000) (hl : rs.length ≤ 1000) (q : Q (.str (nsD rs).shown) H) : rRepr K [.ref u] H Q := by
  obtain ⟨h1, h2, h3, h4⟩ := ns_fine h hl
  exact ⟨u, _, rfl, dp_nsD hu, h1, h2, h3, h4, q⟩

def cntI (F W : Nat → Nat) (rs : List (Nat × Nat)) (c i : Nat) : Nat := cntE F W c (rs.getD i (0, 0))
def metI (F W : Nat → Nat) (rs : List (Nat × Nat)) (c k : Nat) : List (Nat × Nat) := ((List.range k).filter fun i => decide (cntI F W rs c i ≠ 0)).map fun i => (i, cntI F W rs c i)
theorem put_set (ws : List Nat) {c : Nat} (z : Nat) (hc : c < ws.length) : put_ (nats ws) c (.int (z : Nat)) = nats (ws.set c z) := by
  unfold put_ nats
  rw [List.map_set, List.set_eq_take_append_cons_drop, if_pos (by rw [List.length_map]; exact hc), List.append_assoc]
  rfl
theorem way_set {ws : List Nat} {c d z : Nat} (h : d ≠ c) : wayL (ws.set c z) d = wayL ws d := by
  unfold wayL
  rw [List.getD_eq_getElem?_getD, List.getD_eq_getElem?_getD, List.getElem?_set_ne (Ne.symm h)]
theorem map_range (rs : List (Nat × Nat)) : (List.range rs.length).map (fun i => rs.getD i (0, 0)) = rs := by
  refine List.ext_getElem? fun i => ?_
  rw [List.getElem?_map]
  rcases Nat.lt_or_ge i rs.length with h | h
  · rw [List.getElem?_range h, List.getElem?_eq_getElem h]
    show some (rs.getD i (0, 0)) = _
    rw [List.getD_eq_getElem?_getD, List.getElem?_eq_getElem h]
    rfl
  · rw [List.getElem?_eq_none (by rw [List.length_range]; exact h), List.getElem?_eq_none h]
    rfl
theorem met_snd (F W : Nat → Nat) (rs : List (Nat × Nat)) (c : Nat) : (metI F W rs c rs.length).map (·.2) = (rs.filter fun p => decide (cntE F W c p ≠ 0)).map (cntE F W c) := by
  have e : (rs.filter fun p => decide (cntE F W c p ≠ 0)).map (cntE F W c) = (((List.range rs.length).map fun i => rs.getD i (0, 0)).filter fun p => decide (cntE F W c p ≠ 0)).map (cntE F W c) := by rw [map_range]
  rw [e, List.filter_map, List.map_map]
  unfold metI
  rw [List.map_map]
  rfl
theorem met_fst (F W : Nat → Nat) (rs : List (Nat × Nat)) (c : Nat) : (metI F W rs c rs.length).map (·.1) = (List.range rs.length).filter fun i => decide (cntI F W rs c i ≠ 0) := by
  unfold metI
  rw [List.map_map]
  exact List.map_id _
theorem meet_filter {F W : Nat → Nat} {n c : Nat} {rs : List (Nat × Nat)} (I : Inv2 F n) (hW : ∀ c, c < n → W c < 3) (R : Rounds F W n rs) : (List.range rs.length).filter (meetB (nextE F W) rs c) = (List.range rs.length).filter fun i => decide (cntI F W rs c i ≠ 0) := by
  refine List.filter_congr fun i hi => ?_
  have hi := List.mem_range.mp hi
  have hp : rs.getD i (0, 0) ∈ rs := by
    rw [List.getD_eq_getElem?_getD, List.getElem?_eq_getElem hi]
    exact List.getElem_mem hi
  obtain ⟨h1, h2⟩ := R.per _ hp
  have q := meets_iff I hW (c := c) h1 h2
  unfold meetB cntI
  rw [Bool.eq_iff_iff, List.any_eq_true, decide_eq_true_eq, ← q]
  simp only [decide_eq_true_eq]
end One
end P_U1

section P_U2
set_option linter.all false
set_option maxRecDepth 100000
set_option maxHeartbeats 8000000
namespace One
open PySem PySem.Spec PyProof.Rows L2
/-! ### how many rounds, by settings as lists -/
structure Ok3 (n : Nat) (ws : List Nat) : Prop where
  len : ws.length = n
  lt : ∀ x ∈ ws, x < 3
theorem SetAt.ok {H : Hp} {u : Addr} {n : Nat} {ws : List Nat} (h : SetAt H u n ws) : Ok3 n ws := ⟨h.len, h.lt⟩
theorem Ok3.ways {n : Nat} {ws : List Nat} (h : Ok3 n ws) : ∀ c, c < n → wayL ws c < 3 := fun c hc => by
  have hl : c < ws.length := by rw [h.len]; exact hc
  unfold wayL
  rw [List.getD_eq_getElem?_getD, List.getElem?_eq_getElem hl]
  exact h.lt _ (List.getElem_mem hl)
theorem Ok3.set {n : Nat} {ws : List Nat} (h : Ok3 n ws) (c : Nat) {w : Nat} (hw : w < 3) : Ok3 n (ws.set c w) := ⟨by rw [List.length_set]; exact h.len, fun x hx => by
  rcases List.mem_or_eq_of_mem_set hx with hx | rfl
  · exact h.lt x hx
  · exact hw⟩
theorem way_same {ws : List Nat} {c w : Nat} (h : c < ws.length) : wayL (ws.set c w) c = w := by
  unfold wayL
  rw [List.getD_eq_getElem?_getD, List.getElem?_set_self h]
  rfl
open Classical in
noncomputable def Cn (F : Nat → Nat) (n : Nat) (ws : List Nat) : Nat := if h : ∃ rs, Rounds F (wayL ws) n rs then (Classical.choose h).length else 0
section
variable {F : Nat → Nat} {n : Nat} {ws : List Nat}
theorem Cn_eq (I : Inv2 F n) (h : Ok3 n ws) {rs : List (Nat × Nat)} (R : Rounds F (wayL ws) n rs) : Cn F n ws = rs.length := by
  unfold Cn
  have e : ∃ rs, Rounds F (wayL ws) n rs := ⟨rs, R⟩
  rw [dif_pos e]
  rw [(Classical.choose_spec e).eq I h.ways R]
theorem Cn_rs (I : Inv2 F n) (h : Ok3 n ws) : ∃ rs, Rounds F (wayL ws) n rs ∧ Cn F n ws = rs.length := by
  obtain ⟨rs, R⟩ := rounds_some I h.ways
  exact ⟨rs, R, Cn_eq I h R⟩
theorem Cn_pos (I : Inv2 F n) (h : Ok3 n ws) (hn : 0 < n) : 0 < Cn F n ws := by
  obtain ⟨rs, R, e⟩ := Cn_rs I h
  obtain ⟨p, hp, _⟩ := R.all 0 (by omega)
  rw [e]
  exact List.length_pos_of_mem hp
/-- two rounds meet the crossing -/
def Two (F : Nat → Nat) (n : Nat) (ws : List Nat) (c : Nat) : Prop := ∃ o j, o < 3 ∧ FirstAt F (wayL ws) c (4 * c) j (4 * c + o + 1) ∧ wayL ws c = o
theorem two_len (I : Inv2 F n) (h : Ok3 n ws) {rs : List (Nat × Nat)} (R : Rounds F (wayL ws) n rs) {c : Nat} (hc : c < n) : (rs.filter fun p => decide (cntE F (wayL ws) c p ≠ 0)).length = 2 ↔ Two F n ws c := by
  obtain ⟨o, j, ho, a⟩ := outer_some I h.ways hc
  have q := met_len I h.ways R hc ho a
  constructor
  · intro e
    refine ⟨o, j, ho, a, Classical.byContradiction fun z => ?_⟩
    rw [if_neg z] at q
    omega
  · rintro ⟨o', j', ho', a', e⟩
    have : o = o' := by
      have := (a.one a').2
      omega
    subst this
    rw [if_pos e] at q
    exact q
theorem Cn_set (I : Inv2 F n) (h : Ok3 n ws) {c w : Nat} (hc : c < n) (hw : w < 3) : (Two F n ws c ∧ w ≠ wayL ws c → Cn F n (ws.set c w) + 1 = Cn F n ws) ∧ (¬ (Two F n ws c ∧ w ≠ wayL ws c) → Cn F n ws ≤ Cn F n (ws.set c w)) := by
  obtain ⟨o, j, ho, a⟩ := outer_some I h.ways hc
  obtain ⟨rs, R, e1⟩ := Cn_rs I h
  obtain ⟨rs', R', e2⟩ := Cn_rs I (h.set c hw)
  obtain ⟨K, k1, k2⟩ := count_at I h.ways (h.set c hw).ways R R' hc (fun d hd => way_set hd) ho a
  rw [way_same (by rw [h.len]; exact hc)] at k2
  rw [e1, e2, k1, k2]
  constructor
  · rintro ⟨⟨o', j', ho', a', e⟩, ne⟩
    have : o = o' := by
      have := (a.one a').2
      omega
    subst this
    rw [if_pos e, if_neg (fun z => ne (z.trans e.symm))]
  · intro no
    by_cases e : wayL ws c = o
    · have : w = wayL ws c := Classical.byContradiction fun z => no ⟨⟨o, j, ho, a, e⟩, z⟩
      rw [if_pos e, if_pos (this.trans e)]
      exact Nat.le_refl _
    · rw [if_neg e]
      split <;> omega
theorem Cn_less (I : Inv2 F n) (h : Ok3 n ws) {c w : Nat} (hc : c < n) (hw : w < 3) : Cn F n (ws.set c w) < Cn F n ws ↔ Two F n ws c ∧ w ≠ wayL ws c := by
  obtain ⟨a, b⟩ := Cn_set I h hc hw
  constructor
  · intro l
    refine Classical.byContradiction fun no => ?_
    have := b no
    omega
  · intro t
    have := a t
    omega
theorem Cn_one (I : Inv2 F n) (h : Ok3 n ws) {c w : Nat} (hc : c < n) (hw : w < 3) : Cn F n ws ≤ Cn F n (ws.set c w) + 1 := by
  obtain ⟨a, b⟩ := Cn_set I h hc hw
  by_cases t : Two F n ws c ∧ w ≠ wayL ws c
  · have := a t
    omega
  · have := b t
    omega
theorem two_some {ps : List (Nat × Nat)} (L : Lines n ps) (Wh : Whole n ps) (hn : 0 < n) (h : Ok3 n ws) (h2 : 2 ≤ Cn (far ps) n ws) : ∃ c, c < n ∧ Two (far ps) n ws c := by
  obtain ⟨rs, R, e⟩ := Cn_rs (far_inv L) h
  obtain ⟨c, hc, q⟩ := two_met L Wh hn h.ways R (by omega)
  exact ⟨c, hc, (two_len (far_inv L) h R hc).mp q⟩
def otherW (v : Nat) : Nat := if v = 0 then 1 else 0
theorem otherW_lt (v : Nat) : otherW v < 3 := by
  unfold otherW
  split <;> omega
theorem otherW_ne (v : Nat) : otherW v ≠ v := by
  unfold otherW
  split <;> omega
/-- the first lead -/
inductive FL (F : Nat → Nat) (n : Nat) : List Nat → List (Nat × Nat) → Prop
  | nil {ws : List Nat} : Cn F n ws ≤ 1 → FL F n ws []
  | cons {ws : List Nat} {c : Nat} {ts : List (Nat × Nat)} : 2 ≤ Cn F n ws → c < n → Two F n ws c → (∀ d, d < c → ¬ Two F n ws d) → FL F n (ws.set c (otherW (wayL ws c))) ts → FL F n ws ((c, otherW (wayL ws c)) :: ts)
theorem FL.det : ∀ {ts qs : List (Nat × Nat)} {ws : List Nat}, FL F n ws ts → FL F n ws qs → ts = qs
  | [], [], _, _, _ => rfl
  | [], _ :: _, _, .nil a, .cons b _ _ _ _ => by omega
  | _ :: _, [], _, .cons a _ _ _ _, .nil b => by omega
  | _ :: _, _ :: _, ws, .cons (c := c) a1 a2 a3 a4 a5, .cons (c := d) b1 b2 b3 b4 b5 => by
    have : c = d := by
      rcases Nat.lt_trichotomy c d with h | h | h
      · exact absurd a3 (b4 c h)
      · exact h
      · exact absurd b3 (a4 d h)
    subst this
    rw [FL.det a5 b5]
/-- any lead: each turn makes one round less, till there is one -/
inductive LD (F : Nat → Nat) (n : Nat) : List Nat → List (Nat × Nat) → Prop
  | nil {ws : List Nat} : Cn F n ws ≤ 1 → LD F n ws []
  | cons {ws : List Nat} {c w : Nat} {ts : List (Nat × Nat)} : c < n → w < 3 → Two F n ws c → w ≠ wayL ws c → LD F n (ws.set c w) ts → LD F n ws ((c, w) :: ts)
theorem FL.ld : ∀ {ts : List (Nat × Nat)} {ws : List Nat}, FL F n ws ts → LD F n ws ts
  | [], _, .nil a => .nil a
  | _ :: _, _, .cons _ a2 a3 _ a5 => .cons a2 (otherW_lt _) a3 (otherW_ne _) a5.ld
theorem LD.len (I : Inv2 F n) (hn : 0 < n) : ∀ {ts : List (Nat × Nat)} {ws : List Nat}, Ok3 n ws → LD F n ws ts → Cn F n ws = ts.length + 1
  | [], ws, h, .nil a => by
    have := Cn_pos I h hn
    show Cn F n ws = 0 + 1
    omega
  | (c, w) :: ts, ws, h, .cons a1 a2 a3 a4 a5 => by
    have := a5.len I hn (h.set c a2)
    have := (Cn_set I h a1 a2).1 ⟨a3, a4⟩
    rw [List.length_cons]
    omega
theorem LD.small : ∀ {ts : List (Nat × Nat)} {ws : List Nat}, LD F n ws ts → ∀ p ∈ ts, p.1 < n ∧ p.2 < 3
  | [], _, _, p, hp => by simp at hp
  | _ :: _, _, .cons a1 a2 _ _ a5, p, hp => by
    rcases List.mem_cons.mp hp with rfl | hp
    · exact ⟨a1, a2⟩
    · exact a5.small p hp
/-- pairs compared one behind another -/
def ltPs : List (Nat × Nat) → List (Nat × Nat) → Bool
  | [], [] => false
  | [], _ :: _ => true
  | _ :: _, [] => false
  | p :: ps, q :: qs => if p = q then ltPs ps qs else decide (p.1 < q.1 ∨ (p.1 = q.1 ∧ p.2 < q.2))
theorem none_ahead : ∀ {ts qs : List (Nat × Nat)} {ws : List Nat}, FL F n ws ts → LD F n ws qs → ts.length = qs.length → ltPs qs ts = false
  | [], [], _, _, _, _ => rfl
  | [], _ :: _, _, _, _, h => by simp at h
  | _ :: _, [], _, _, _, h => by simp at h
  | _ :: ts, (d, v) :: qs, ws, .cons (c := c) a1 a2 a3 a4 a5, .cons b1 b2 b3 b4 b5, h => by
    have cd : c ≤ d := Nat.le_of_not_lt fun z => a4 d z b3
    show (if (d, v) = (c, otherW (wayL ws c)) then ltPs qs ts else decide (d < c ∨ (d = c ∧ v < otherW (wayL ws c)))) = false
    by_cases e : (d, v) = (c, otherW (wayL ws c))
    · rw [if_pos e]
      cases e
      exact none_ahead a5 b5 (by simpa using h)
    · rw [if_neg e]
      refine decide_eq_false fun z => ?_
      rcases z with z | ⟨rfl, z⟩
      · omega
      · unfold otherW at z
        split at z <;> omega
/-! no setting that differs at fewer crossings has one round -/
def mix (ws vs : List Nat) : Nat → List Nat
  | 0 => ws
  | k + 1 => (mix ws vs k).set k (wayL vs k)
theorem mix_ok {vs : List Nat} (h : Ok3 n ws) (g : Ok3 n vs) : ∀ k, k ≤ n → Ok3 n (mix ws vs k)
  | 0, _ => h
  | k + 1, hk => (mix_ok h g k (by omega)).set k (g.ways k (by omega))
theorem mix_way {vs : List Nat} (h : Ok3 n ws) (g : Ok3 n vs) : ∀ k, k ≤ n → ∀ c, c < n → wayL (mix ws vs k) c = if c < k then wayL vs c else wayL ws c
  | 0, _, c, _ => by rw [if_neg (by omega)]; rfl
  | k + 1, hk, c, hc => by
    show wayL ((mix ws vs k).set k (wayL vs k)) c = _
    by_cases e : c = k
    · subst e
      rw [way_same (by rw [(mix_ok h g c (by omega)).len]; exact hc), if_pos (by omega)]
    · rw [way_set e, mix_way h g k (by omega) c hc]
      by_cases l : c < k
      · rw [if_pos l, if_pos (by omega)]
      · rw [if_neg l, if_neg (by omega)]
def diffs (ws vs : List Nat) (k : Nat) : Nat := ((List.range k).filter fun c => decide (wayL vs c ≠ wayL ws c)).length
theorem mix_cn {vs : List Nat} (I : Inv2 F n) (h : Ok3 n ws) (g : Ok3 n vs) : ∀ k, k ≤ n → Cn F n ws ≤ Cn F n (mix ws vs k) + diffs ws vs k
  | 0, _ => Nat.le_add_right _ _
  | k + 1, hk => by
    have ih := mix_cn I h g k (by omega)
    have ok := mix_ok h g k (by omega)
    have wk := mix_way h g k (by omega) k (by omega)
    rw [if_neg (by omega)] at wk
    have dk : diffs ws vs (k + 1) = diffs ws vs k + if wayL vs k ≠ wayL ws k then 1 else 0 := by
      unfold diffs
      rw [List.range_succ, List.filter_append, List.length_append]
      congr 1
      by_cases e : wayL vs k ≠ wayL ws k
      · rw [if_pos e, List.filter_cons, if_pos (decide_eq_true e)]
        rfl
      · rw [if_neg e, List.filter_cons, if_neg (fun z => e (of_decide_eq_true z))]
        rfl
    rw [dk]
    by_cases e : wayL vs k ≠ wayL ws k
    · rw [if_pos e]
      have := Cn_one I ok (c := k) (w := wayL vs k) (by omega) (g.ways k (by omega))
      show Cn F n ws ≤ Cn F n ((mix ws vs k).set k (wayL vs k)) + (diffs ws vs k + 1)
      omega
    · rw [if_neg e]
      have e' : wayL vs k = wayL (mix ws vs k) k := by
        rw [wk]
        exact Classical.byContradiction e
      have := (Cn_set I ok (c := k) (w := wayL vs k) (by omega) (g.ways k (by omega))).2 (fun z => z.2 e')
      show Cn F n ws ≤ Cn F n ((mix ws vs k).set k (wayL vs k)) + (diffs ws vs k + 0)
      omega
theorem way_ext {vs us : List Nat} (h : Ok3 n us) (g : Ok3 n vs) (e : ∀ c, c < n → wayL us c = wayL vs c) : us = vs := by
  refine List.ext_getElem? fun i => ?_
  rcases Nat.lt_or_ge i n with l | l
  · have h1 : i < us.length := by rw [h.len]; exact l
    have h2 : i < vs.length := by rw [g.len]; exact l
    have := e i l
    unfold wayL at this
    rw [List.getD_eq_getElem?_getD, List.getD_eq_getElem?_getD, List.getElem?_eq_getElem h1, List.getElem?_eq_getElem h2] at this
    rw [List.getElem?_eq_getElem h1, List.getElem?_eq_getElem h2]
    exact congrArg some this
  · rw [List.getElem?_eq_none (by rw [h.len]; exact l), List.getElem?_eq_none (by rw [g.len]; exact l)]
theorem none_sooner {vs : List Nat} (I : Inv2 F n) (h : Ok3 n ws) (g : Ok3 n vs) : Cn F n ws ≤ Cn F n vs + diffs ws vs n := by
  have := mix_cn I h g n (Nat.le_refl _)
  have e : mix ws vs n = vs := way_ext (mix_ok h g n (Nat.le_refl _)) g fun c hc => by
    rw [mix_way h g n (Nat.le_refl _) c hc, if_pos hc]
  rw [e] at this
  exact this
end
/-! ### a tuple of pairs is less -/
def rLtD (K : PySem.W.Frag) : R2 := fun x y H Q => ∃ d e, Dp K H x d ∧ Dp K H y e ∧ PySem.W.alike d e = true ∧ d ≠ .none ∧ min d.depth e.depth ≤ 60 ∧ Q (.bl (PySem.W.dataLt d e)) H
theorem op_ltD {X : Cx} (hu : X.A.units + 64 < cLine) : OpR X (compareOp .Lt) (rLtD X.K) := by
  intro pins s σ H x y v u Q I rx ry h
  obtain ⟨d, e, hd, he, ha, hn, hm, q⟩ := h
  obtain ⟨as, r1⟩ := Dp.reads I d x v hd rx
  obtain ⟨bs, r2⟩ := Dp.reads I e y u he ry
  exact PySem.W.rcLt_alike d e X.A s v u as bs r1 r2 ha hn (by omega) _ _ _ _ ⟨.bl _, H, I, rfl, q⟩
theorem alike_prs : ∀ ps qs : List (Nat × Nat), PySem.W.alikeAll (ps.map prD) (qs.map prD) = true
  | [], _ => by
    show PySem.W.alikeAll [] _ = true
    unfold PySem.W.alikeAll
    rfl
  | p :: ps, [] => by
    show PySem.W.alikeAll (_ :: _) [] = true
    unfold PySem.W.alikeAll
    rfl
  | p :: ps, q :: qs => by
    show (PySem.W.alike (prD p) (prD q) && PySem.W.alikeAll (ps.map prD) (qs.map prD)) = true
    rw [alike_prs ps qs]
    rfl
theorem lt_prs : ∀ ps qs : List (Nat × Nat), PySem.W.dataLt (.tuple (ps.map prD)) (.tuple (qs.map prD)) = ltPs ps qs := by
  have key : ∀ ps qs : List (Nat × Nat), PyProof.Rows.lexLt PyProof.Rows.itemOrd (PySem.W.keyToksAll (ps.map prD)) (PySem.W.keyToksAll (qs.map prD)) = ltPs ps qs := by
    intro ps
    induction ps with
    | nil =>
      intro qs
      cases qs <;> rfl
    | cons p ps ih =>
      intro qs
      cases qs with
      | nil => rfl
      | cons q qs =>
        rw [List.map_cons, List.map_cons, PySem.W.dataLt_cons rfl]
        rw [ih qs]
        have e1 : PyData.eqv (prD p) (prD q) = decide (p = q) := by
          have e0 : PyData.eqv (prD p) (prD q) = (((p.1 : Int) == (q.1 : Int)) && (((p.2 : Int) == (q.2 : Int)) && true)) := rfl
          rw [e0, Bool.and_true]
          by_cases e : p = q
          · subst e
            simp
          · rw [decide_eq_false e]
            simp only [Bool.and_eq_false_iff, beq_eq_false_iff_ne]
            by_cases a : p.1 = q.1
            · exact .inr fun z => e (Prod.ext a (by omega))
            · exact .inl fun z => a (by omega)
        rw [e1]
        show _ = (if p = q then ltPs ps qs else decide (p.1 < q.1 ∨ (p.1 = q.1 ∧ p.2 < q.2)))
        by_cases e : p = q
        · rw [decide_eq_true e, if_pos rfl, if_pos e]
        · rw [decide_eq_false e, if_neg (by decide), if_neg e]
          show PySem.W.dataLt (.tuple [.int (p.1 : Int), .int (p.2 : Int)]) (.tuple [.int (q.1 : Int), .int (q.2 : Int)]) = _
          rw [PySem.W.dataLt_ii]
          refine decide_eq_decide.mpr ?_
          omega
  intro ps qs
  rw [PySem.W.dataLt_tuple]
  exact key ps qs
end One
end P_U2

section P_M52
set_option linter.all false
set_option maxRecDepth 100000
set_option maxHeartbeats 4000000
/-! Crossings sewn out: how many rounds are left. -/
namespace One
section
variable {ps : List (Nat × Nat)} {m c : Nat} {ws : List Nat}
theorem parts_way (L : Lines m ps) (Wh : Whole m ps) (hc : c < m) (h : Ok3 m ws) {P : Nat → Bool} (S : Parts (far ps) m c (wayL ws c) P) : Two (far ps) m ws c := by
  have I := far_inv L
  have hW := h.ways
  obtain ⟨o, j, ho, a⟩ := outer_some I hW hc
  refine ⟨o, j, ho, a, ?_⟩
  refine Classical.byContradiction fun no => ?_
  have lt : ∀ i, goalE (far ps) (wayL ws) (4 * c) i < 4 * m := fun i => goalE_lt I hW (e := 4 * c) (by omega) i
  have run : ∀ i, i ≤ j → P (goalE (far ps) (wayL ws) (4 * c) i) = P (4 * c) := fun i => by
    induction i with
    | zero => exact fun _ => S.far (4 * c) (by omega)
    | succ i ih =>
      intro hi
      have l := lt i
      have nc := a.first i (by omega)
      have hw := hW (goalE (far ps) (wayL ws) (4 * c) i / 4) (by omega)
      have b : (goalE (far ps) (wayL ws) (4 * c) i ^^^ (wayL ws (goalE (far ps) (wayL ws) (4 * c) i / 4) + 1)) / 4 = goalE (far ps) (wayL ws) (4 * c) i / 4 := mate_block hw
      rw [goalE_next, S.far _ (by omega), S.blk _ _ (by omega) l b (by rw [b]; exact nc)]
      exact ih (by omega)
  have e0 := run j (Nat.le_refl _)
  rw [a.is] at e0
  have hw := hW c hc
  have m1 := S.mate (4 * c) (by omega)
  have m2 := S.mate (4 * c + o + 1) (by omega)
  have x1 := xor_blk (c := c) (r := 0) (w := wayL ws c + 1) (by omega) (by omega)
  have x2 := xor_blk (c := c) (r := o + 1) (w := wayL ws c + 1) (by omega) (by omega)
  rw [Nat.add_zero, Nat.zero_xor] at x1
  rw [x1] at m1
  rw [show 4 * c + o + 1 = 4 * c + (o + 1) by omega] at m2 e0
  rw [x2] at m2
  have all : ∀ r, r < 4 → P (4 * c + r) = P (4 * c) := by
    have key : ∀ o w : Nat, o < 3 → w < 3 → w ≠ o → ∀ r, r < 4 → r = 0 ∨ r = w + 1 ∨ r = o + 1 ∨ r = (o + 1) ^^^ (w + 1) := by
      intro o w ho hw
      have : o = 0 ∨ o = 1 ∨ o = 2 := by omega
      have : w = 0 ∨ w = 1 ∨ w = 2 := by omega
      rcases ‹o = 0 ∨ o = 1 ∨ o = 2› with rfl | rfl | rfl <;> rcases ‹w = 0 ∨ w = 1 ∨ w = 2› with rfl | rfl | rfl <;> decide
    intro r hr
    rcases key o _ ho hw no r hr with rfl | rfl | rfl | rfl
    · rfl
    · exact m1
    · exact e0
    · exact m2.trans e0
  have same : ∀ e e', e < 4 * m → e' < 4 * m → e / 4 = e' / 4 → P e = P e' := fun e e' he he' q => by
    by_cases hx : e / 4 = c
    · have a1 := all (e % 4) (by omega)
      have a2 := all (e' % 4) (by omega)
      rw [show 4 * c + e % 4 = e by omega] at a1
      rw [show 4 * c + e' % 4 = e' by omega] at a2
      rw [a1, a2]
    · exact S.blk e e' he he' q hx
  obtain ⟨y, y1, y2⟩ := S.some_
  obtain ⟨n, n1, n2⟩ := S.none_
  have := Wh.from (P := fun d => P (4 * d) = true) (fun p hp => by
    obtain ⟨a1, _⟩ := far_of L.nd hp
    have l1 := L.lt _ (mem_ends.mpr ⟨p, hp, .inl rfl⟩)
    have l2 := L.lt _ (mem_ends.mpr ⟨p, hp, .inr rfl⟩)
    have q := S.far p.1 l1
    rw [a1] at q
    show P (4 * (p.1 / 4)) = true ↔ P (4 * (p.2 / 4)) = true
    rw [same (4 * (p.1 / 4)) p.1 (by omega) l1 (by omega), same (4 * (p.2 / 4)) p.2 (by omega) l2 (by omega), q]) (a := y / 4) (by omega) (by
      show P (4 * (y / 4)) = true
      rw [same (4 * (y / 4)) y (by omega) y1 (by omega)]
      exact y2) (c := n / 4) (by omega)
  have : P (4 * (n / 4)) = true := this
  rw [same (4 * (n / 4)) n (by omega) n1 (by omega), n2] at this
  cases this
theorem bar_count (Y : Yard m ps) (h2 : 2 ≤ m) (hc : c < m) (h : Ok3 m ws) {w' : Nat} (hw' : w' < 3) (ne : w' ≠ wayL ws c) (b : BarW ps m c (wayL ws c)) : ¬ BarW ps m c w' ∧ Cn (far ps) m (ws.set c w') + 1 = Cn (far ps) m ws := by
  have hw := h.ways c hc
  refine ⟨fun b' => ne (bar_one Y h2 hc hw' hw b' b), ?_⟩
  obtain ⟨P, S⟩ := bar_parts Y.lines h2 hc hw b
  exact (Cn_set (far_inv Y.lines) h hc hw').1 ⟨parts_way Y.lines Y.whole hc h S, ne⟩
theorem erase_way (h : Ok3 m ws) (d : Nat) : wayL (ws.eraseIdx c) d = wayL ws (if d < c then d else d + 1) := by
  unfold wayL
  rw [List.getD_eq_getElem?_getD, List.getD_eq_getElem?_getD, List.getElem?_eraseIdx]
  split <;> rfl
theorem erase_ok (h : Ok3 m ws) (hc : c < m) : Ok3 (m - 1) (ws.eraseIdx c) := ⟨by rw [List.length_eraseIdx, if_pos (by rw [h.len]; exact hc), h.len], fun x hx => h.lt x (List.mem_of_mem_eraseIdx hx)⟩
theorem sewn_of (Y : Yard m ps) (h2 : 2 ≤ m) (hc : c < m) (h : Ok3 m ws) (nb : ¬ BarW ps m c (wayL ws c)) : Sewn (far ps) (wayL ws) (far (leftOf (behindF (far ps) c (wayL ws c)) c (4 * m))) (wayL (ws.eraseIdx c)) m c := by
  have hw := h.ways c hc
  have Y' := left_yard Y h2 hc hw nb
  have O : Open (far ps) c (wayL ws c) := open_of (by
    cases q : closesB (far ps) c (wayL ws c) with
    | false => rfl
    | true => exact absurd (.inl q) nb)
  have I := far_inv Y.lines
  refine ⟨I, h.ways, hc, O, far_inv Y'.lines, (erase_ok h hc).ways, fun e he ho => ?_, fun e he ho => ?_⟩
  · refine far_left (fun e he ho => ?_) Y'.lines.nd he ho
    obtain ⟨_, b2, b3⟩ := behind_is I hc hw O he ho
    exact ⟨b2, b3, behind_inv I hc hw O he ho, behind_ne I hc hw O he ho⟩
  · rw [erase_way h]
    congr 1
    unfold upOf
    by_cases q : c < e / 4
    · rw [if_pos q, if_neg (by omega)]
      omega
    · rw [if_neg q, if_pos (by omega)]
theorem outs_of (Y : Yard m ps) (h2 : 2 ≤ m) (hc : c < m) (h : Ok3 m ws) (nb : ¬ BarW ps m c (wayL ws c)) : Outs (far ps) (wayL ws) m c := fun e he ho =>
  thr_some Y.lines Y.whole h2 hc (h.ways c hc) (sewn_of Y h2 hc h nb).O ho
theorem cn_sewn (Y : Yard m ps) (h2 : 2 ≤ m) (hc : c < m) (h : Ok3 m ws) (nb : ¬ BarW ps m c (wayL ws c)) : Cn (far (leftOf (behindF (far ps) c (wayL ws c)) c (4 * m))) (m - 1) (ws.eraseIdx c) = Cn (far ps) m ws := by
  have S := sewn_of Y h2 hc h nb
  obtain ⟨rs, R, e⟩ := Cn_rs S.I h
  obtain ⟨rs', R', e'⟩ := Cn_rs S.J (erase_ok h hc)
  rw [e, e']
  exact (S.count (outs_of Y h2 hc h nb) R R').symm
theorem erase_set : ∀ (ws : List Nat) (c w : Nat), (ws.set c w).eraseIdx c = ws.eraseIdx c
  | [], _, _ => rfl
  | _ :: _, 0, _ => rfl
  | x :: ws, c + 1, w => by
    show x :: (ws.set c w).eraseIdx c = x :: ws.eraseIdx c
    rw [erase_set]
/-- where the way is barred: one round less is left by another way -/
theorem cn_other (Y : Yard m ps) (h2 : 2 ≤ m) (hc : c < m) (h : Ok3 m ws) {w' : Nat} (hw' : w' < 3) (ne : w' ≠ wayL ws c) (b : BarW ps m c (wayL ws c)) : ¬ BarW ps m c w' ∧ Cn (far (leftOf (behindF (far ps) c w') c (4 * m))) (m - 1) (ws.eraseIdx c) + 1 = Cn (far ps) m ws := by
  obtain ⟨nb, e⟩ := bar_count Y h2 hc h hw' ne b
  have ws' := way_same (ws := ws) (c := c) (w := w') (by rw [h.len]; exact hc)
  have := cn_sewn Y h2 hc (h.set c hw') (by rw [ws']; exact nb)
  rw [ws', erase_set] at this
  exact ⟨nb, by rw [this]; exact e⟩
theorem cn_one (Y : Yard 1 ps) {v : Nat} (hv : v < 3) {p : Nat × Nat} (hp : ps[0]? = some p) : Cn (far ps) 1 [v] = 1 + (if p.2 - 1 = v then 1 else 0) ∧ 0 < p.2 ∧ p.2 < 4 := by
  have h : Ok3 1 [v] := ⟨rfl, fun x hx => by rw [List.mem_singleton.mp hx]; exact hv⟩
  have I := far_inv Y.lines
  obtain ⟨rs, R, e⟩ := Cn_rs I h
  have f0 : far ps 0 = p.2 ∧ 0 < p.2 ∧ p.2 < 4 := by
    rcases yard_one Y with rfl | rfl | rfl <;> cases hp <;> exact ⟨rfl, by decide, by decide⟩
  have fa : FirstAt (far ps) (wayL [v]) 0 (4 * 0) 0 (4 * 0 + (p.2 - 1) + 1) := ⟨by
    show far ps 0 = _
    rw [f0.1]
    omega, by omega, fun i hi => by omega⟩
  have ml := met_len I h.ways R (by decide) (by omega) fa
  have all : rs.filter (fun p => decide (cntE (far ps) (wayL [v]) 0 p ≠ 0)) = rs := by
    refine List.filter_eq_self.mpr fun q hq => ?_
    obtain ⟨q1, qp⟩ := R.per q hq
    exact decide_eq_true ((meets_iff I h.ways q1 qp).mp ⟨q.1, self_rnd qp, by omega⟩)
  rw [all] at ml
  refine ⟨?_, f0.2⟩
  rw [e, ml]
  show (if v = p.2 - 1 then 2 else 1) = _
  by_cases q : v = p.2 - 1
  · rw [if_pos q, if_pos q.symm]
  · rw [if_neg q, if_neg (fun z => q z.symm)]
end
end One
end P_M52

section P_M53
set_option linter.all false
set_option maxRecDepth 100000
set_option maxHeartbeats 4000000
/-! A crossing put across: rounds go on, end by end. -/
namespace One
section
variable {ps T : List (Nat × Nat)} {n i j : Nat} {a b : Nat × Nat} {ws : List Nat}
theorem app_way (h : Ok3 n ws) (v d : Nat) : wayL (ws ++ [v]) d = if d < n then wayL ws d else if d = n then v else 0 := by
  unfold wayL
  rw [List.getD_eq_getElem?_getD, List.getD_eq_getElem?_getD]
  by_cases q : d < n
  · rw [if_pos q, List.getElem?_append_left (by rw [h.len]; exact q)]
  · rw [if_neg q, List.getElem?_append_right (by rw [h.len]; omega), h.len]
    by_cases r : d = n
    · rw [if_pos r, r, Nat.sub_self]
      rfl
    · rw [if_neg r, List.getElem?_eq_none (by rw [List.length_singleton]; omega)]
      rfl
theorem app_ok (h : Ok3 n ws) {v : Nat} (hv : v < 3) : Ok3 (n + 1) (ws ++ [v]) := ⟨by rw [List.length_append, h.len]; rfl, fun x hx => by
  rcases List.mem_append.mp hx with hx | hx
  · exact h.lt x hx
  · rw [List.mem_singleton.mp hx]
    exact hv⟩
theorem up_low {n e : Nat} (h : e < 4 * (n + 1)) : upOf n e = e := if_neg (by omega)
theorem across_sewn (Y : Yard n ps) (hn : n < 64) (ha : ps[i]? = some a) (hb : ps[j]? = some b) (hp : T.Perm (putOn n ps i j a b)) (YT : Yard (n + 1) T) (h : Ok3 n ws) :
    Sewn (far T) (wayL (ws ++ [1])) (far ps) (wayL ws) (n + 1) n ∧ Outs (far T) (wayL (ws ++ [1])) (n + 1) n := by
  obtain ⟨bk, o0, o1, o2, o3⟩ := sew_back Y.lines ha hb hp hn
  have w1 : wayL (ws ++ [1]) n = 1 := by rw [app_way h, if_neg (by omega), if_pos rfl]
  have O : Open (far T) n (wayL (ws ++ [1]) n) := by
    rw [w1]
    intro e he
    have : e = 4 * n ∨ e = 4 * n + 1 ∨ e = 4 * n + 2 ∨ e = 4 * n + 3 := by omega
    rcases this with rfl | rfl | rfl | rfl
    · exact o0
    · exact o1
    · exact o2
    · exact o3
  have I := far_inv YT.lines
  have ok := (app_ok h (v := 1) (by decide)).ways
  refine ⟨⟨I, ok, Nat.lt_succ_self n, O, far_inv Y.lines, h.ways, fun e he ho => ?_, fun e he ho => ?_⟩, fun e he ho => ?_⟩
  · have le : e < 4 * n := by omega
    rw [up_low he, w1]
    rw [w1] at O
    have := back_behind I (Nat.lt_succ_self n) (by decide) O (B := far ps) (fun e he ho => ⟨2, bk e (by omega)⟩) he ho
    rw [← this, up_low (by have := far_lt Y.lines le; omega)]
  · rw [up_low he, app_way h, if_pos (by omega)]
  · exact thr_some YT.lines YT.whole (by have := Y.pos; omega) (Nat.lt_succ_self n) (ok n (Nat.lt_succ_self n)) O ho
open Classical in
/-- the rounds behind, but for the new crossing's ends, are those ahead -/
theorem across_rounds (S : Sewn F W G V (n + 1) n) (O : Outs F W (n + 1) n) {rs rs' : List (Nat × Nat)} (R : Rounds F W (n + 1) rs) (R' : Rounds G V n rs') : rs.map (fun p => (rnd (nextE F W) p.1 p.2).filter (outB n)) = rs'.map (fun p => rnd (nextE G V) p.1 p.2) := by
  have ex : ∀ p ∈ rs', ∃ K, Per (nextE F W) p.1 K ∧ ((rnd (nextE F W) p.1 K).filter (outB n)).map (upOf n) = rnd (nextE G V) p.1 p.2 := fun p hp => by
    obtain ⟨p1, pp⟩ := R'.per p hp
    have u : upOf n p.1 = p.1 := up_low (by omega)
    have := S.per (s := p.1) (k := p.2) (by omega) (by omega) (by rw [u]; exact pp)
    rw [u] at this
    exact this
  let kf : Nat × Nat → Nat := fun p => if h : ∃ K, Per (nextE F W) p.1 K ∧ ((rnd (nextE F W) p.1 K).filter (outB n)).map (upOf n) = rnd (nextE G V) p.1 p.2 then Classical.choose h else 0
  have kf1 : ∀ p ∈ rs', Per (nextE F W) p.1 (kf p) ∧ ((rnd (nextE F W) p.1 (kf p)).filter (outB n)).map (upOf n) = rnd (nextE G V) p.1 p.2 := fun p hp => by
    show Per (nextE F W) p.1 (dite _ _ _) ∧ ((rnd (nextE F W) p.1 (dite _ _ _)).filter (outB n)).map (upOf n) = _
    rw [dif_pos (ex p hp)]
    exact Classical.choose_spec (ex p hp)
  have lt : ∀ p ∈ rs', p.1 < 4 * n := fun p hp => (R'.per p hp).1
  have on : ∀ p ∈ rs', ∀ y, y < 4 * n → (On F W (p.1, kf p) y ↔ On G V p y) := fun p hp y hy => by
    have l := lt p hp
    have u : upOf n p.1 = p.1 := up_low (by omega)
    obtain ⟨k1, k2⟩ := kf1 p hp
    have := S.on (s := p.1) (k := p.2) (by omega) (by omega) (by rw [u]; exact (R'.per p hp).2) k1 (by rw [u]; exact k2) (y := y) (by omega) (by omega)
    rw [u, up_low (show y < 4 * (n + 1) by omega)] at this
    exact this
  have go : ∀ e, e < 4 * (n + 1) → ∃ g, g < 4 * n ∧ ∀ p ∈ rs', (On F W (p.1, kf p) e ↔ On F W (p.1, kf p) g) := fun e he => by
    by_cases q : e / 4 = n
    · obtain ⟨g, t, g1, g2⟩ := O e he q
      exact ⟨g, by omega, fun p hp => thr_on S.I S.hW (p := (p.1, kf p)) (by have := lt p hp; show p.1 < _; omega) (kf1 p hp).1 S.hc t he⟩
    · exact ⟨e, by omega, fun p hp => Iff.rfl⟩
  have RR : Rounds F W (n + 1) (rs'.map fun p => (p.1, kf p)) := by
    refine ⟨fun p hp => ?_, fun p hp x hx => ?_, ?_, fun e he => ?_, ?_⟩
    · obtain ⟨q, hq, rfl⟩ := List.mem_map.mp hp
      have := lt q hq
      exact ⟨by show q.1 < _; omega, (kf1 q hq).1⟩
    · obtain ⟨q, hq, rfl⟩ := List.mem_map.mp hp
      have l := lt q hq
      have least : ∀ y, y < 4 * n → On G V q y → q.1 ≤ y := fun y hy h => by
        rcases h with h | h
        · exact (R'.least q hq y h).1
        · have := (R'.least q hq _ h).2
          rw [S.J.inv y hy] at this
          exact this
      have xl : x < 4 * (n + 1) := rnd_lt S.I S.hW (show q.1 < _ by omega) hx
      have fl := S.I.lt x xl
      show q.1 ≤ x ∧ q.1 ≤ F x
      constructor
      · by_cases h : x < 4 * n
        · exact least x h ((on q hq x h).mp (.inl hx))
        · omega
      · by_cases h : F x < 4 * n
        · exact least _ h ((on q hq _ h).mp (.inr (by rw [S.I.inv x xl]; exact hx)))
        · omega
    · rw [List.pairwise_map]
      exact R'.up
    · obtain ⟨g, g1, hg⟩ := go e he
      obtain ⟨q, hq, h⟩ := R'.all g g1
      exact ⟨_, List.mem_map.mpr ⟨q, hq, rfl⟩, (hg q hq).mpr ((on q hq g g1).mpr h)⟩
    · rw [List.pairwise_map]
      refine R'.up.imp_of_mem fun {p q} hp hq h x hx => ?_
      have no : ¬ On F W (q.1, kf q) x := fun z => by
        have xl : x < 4 * (n + 1) := rnd_lt S.I S.hW (show p.1 < _ by have := lt p hp; omega) hx
        obtain ⟨g, g1, hg⟩ := go x xl
        have a1 := (on p hp g g1).mp ((hg p hp).mp (.inl hx))
        have a2 := (on q hq g g1).mp ((hg q hq).mp z)
        have := On.one S.J R' hp hq g1 a1 a2
        rw [this] at h
        omega
      exact ⟨fun z => no (.inl z), fun z => no (.inr z)⟩
  rw [Rounds.eq S.I S.hW R RR, List.map_map]
  refine List.map_congr_left fun p hp => ?_
  obtain ⟨_, k2⟩ := kf1 p hp
  rw [← k2]
  show (rnd (nextE F W) p.1 (kf p)).filter (outB n) = _
  refine ((List.map_congr_left fun x hx => ?_).trans (List.map_id _)).symm
  obtain ⟨h1, h2⟩ := List.mem_filter.mp hx
  have xl : x < 4 * (n + 1) := rnd_lt S.I S.hW (show p.1 < _ by have := lt p hp; omega) h1
  exact up_low xl
theorem across_far (Y : Yard n ps) (ha : ps[i]? = some a) (hb : ps[j]? = some b) (hp : T.Perm (putOn n ps i j a b)) : far T (4 * n) = a.1 ∧ (i = j → far T (4 * n + 1) = 4 * n + 2 ∧ far T (4 * n + 2) = 4 * n + 1 ∧ far T (4 * n + 3) = a.2) ∧ (i ≠ j → far T (4 * n + 2) = a.2 ∧ far T (4 * n + 1) = b.1 ∧ far T (4 * n + 3) = b.2) := by
  have LT : Lines (n + 1) T := (put_lines Y.lines ha hb).perm hp.symm
  have inT : ∀ q ∈ fresh n i j a b, q ∈ T := fun q hq => hp.mem_iff.mpr (List.mem_append.mpr (.inr hq))
  have f := fun q hq => far_of LT.nd (inT q hq)
  by_cases h : i = j
  · have e : fresh n i j a b = [(a.1, 4 * n), (4 * n + 1, 4 * n + 2), (a.2, 4 * n + 3)] := if_pos h
    rw [e] at f
    have a0 := f (a.1, 4 * n) (by simp)
    have a1 := f (4 * n + 1, 4 * n + 2) (by simp)
    have a2 := f (a.2, 4 * n + 3) (by simp)
    exact ⟨a0.2, fun _ => ⟨a1.1, a1.2, a2.2⟩, fun z => absurd h z⟩
  · have e : fresh n i j a b = [(a.1, 4 * n), (a.2, 4 * n + 2), (b.1, 4 * n + 1), (b.2, 4 * n + 3)] := if_neg h
    rw [e] at f
    have a0 := f (a.1, 4 * n) (by simp)
    have a1 := f (a.2, 4 * n + 2) (by simp)
    have a2 := f (b.1, 4 * n + 1) (by simp)
    have a3 := f (b.2, 4 * n + 3) (by simp)
    exact ⟨a0.2, fun z => absurd z h, fun _ => ⟨a1.2, a2.2, a3.2⟩⟩
/-- by the other ways two rounds are one, or one is two by one of them -/
theorem across_counts (Y : Yard n ps) (hn : n < 64) (ha : ps[i]? = some a) (hb : ps[j]? = some b) (hp : T.Perm (putOn n ps i j a b)) (YT : Yard (n + 1) T) (h : Ok3 n ws) {rs : List (Nat × Nat)} (R : Rounds (far ps) (wayL ws) n rs)
    {p q : Nat × Nat} (hp' : p ∈ rs) (hq' : q ∈ rs) (pa : On (far ps) (wayL ws) p a.1) (qb : On (far ps) (wayL ws) q b.1) :
    (p ≠ q → Cn (far T) (n + 1) (ws ++ [0]) + 1 = rs.length ∧ Cn (far T) (n + 1) (ws ++ [2]) + 1 = rs.length) ∧
    (p = q → (Cn (far T) (n + 1) (ws ++ [0]) = rs.length ∧ Cn (far T) (n + 1) (ws ++ [2]) = rs.length + 1) ∨ (Cn (far T) (n + 1) (ws ++ [0]) = rs.length + 1 ∧ Cn (far T) (n + 1) (ws ++ [2]) = rs.length)) := by
  obtain ⟨S, O⟩ := across_sewn Y hn ha hb hp YT h
  obtain ⟨fa, fs, ft⟩ := across_far Y ha hb hp
  have I := S.I
  have ok1 := app_ok h (v := 1) (by decide)
  obtain ⟨rs', R', _⟩ := Cn_rs I ok1
  have cnt := S.count O R' R
  have al : a.1 < 4 * n := Y.lines.lt _ (mem_ends.mpr ⟨a, List.mem_of_getElem? ha, .inl rfl⟩)
  have bl : b.1 < 4 * n := Y.lines.lt _ (mem_ends.mpr ⟨b, List.mem_of_getElem? hb, .inl rfl⟩)
  obtain ⟨o, j0, ho, fo⟩ := outer_some I S.hW (c := n) (by omega)
  have ml := met_len I S.hW R' (by omega) ho fo
  have w1 : wayL (ws ++ [1]) n = 1 := by rw [app_way h, if_neg (by omega), if_pos rfl]
  have diff : ∀ v d, d ≠ n → wayL (ws ++ [v]) d = wayL (ws ++ [1]) d := fun v d hd => by
    rw [app_way h, app_way h, if_neg hd]
    rw [if_neg hd]
  have at_ : ∀ v, v < 3 → ∃ K, rs'.length = K + (if 1 = o then 2 else 1) ∧ Cn (far T) (n + 1) (ws ++ [v]) = K + (if v = o then 2 else 1) := fun v hv => by
    obtain ⟨rv, Rv, ev⟩ := Cn_rs I (app_ok h hv)
    have wv : wayL (ws ++ [v]) n = v := by rw [app_way h, if_neg (by omega), if_pos rfl]
    obtain ⟨K, k1, k2⟩ := count_at I S.hW (app_ok h hv).ways R' Rv (by omega) (diff v) ho fo
    rw [w1] at k1
    rw [wv] at k2
    exact ⟨K, k1, by rw [ev]; exact k2⟩
  obtain ⟨K0, k0, c0⟩ := at_ 0 (by decide)
  obtain ⟨K2, k2, c2⟩ := at_ 2 (by decide)
  rw [w1] at ml
  -- the rounds behind that go over the two lines
  have frn : ∀ {p' : Nat × Nat} {x : Nat}, p' ∈ rs' → x < 4 * (n + 1) → (On (far T) (wayL (ws ++ [1])) p' (far T x) ↔ On (far T) (wayL (ws ++ [1])) p' x) := fun {p' x} hp' hx => ⟨fun z => by
    have := z.far I (I.lt x hx)
    rw [I.inv x hx] at this
    exact this, fun z => z.far I hx⟩
  have mtn : ∀ {p' : Nat × Nat} {x : Nat}, p' ∈ rs' → x / 4 = n → (On (far T) (wayL (ws ++ [1])) p' (x ^^^ 2) ↔ On (far T) (wayL (ws ++ [1])) p' x) := fun {p' x} hp' hx => by
    obtain ⟨q1, qp⟩ := R'.per p' hp'
    have b : (x ^^^ (wayL (ws ++ [1]) (x / 4) + 1)) / 4 = x / 4 := mate_block (S.hW _ (by omega))
    constructor
    · intro z
      have e2 : x ^^^ 2 = x ^^^ (wayL (ws ++ [1]) (x / 4) + 1) := by rw [hx, w1]
      rw [e2] at z
      have := z.mate I S.hW q1 qp (by omega)
      rw [b, mate_mate] at this
      exact this
    · intro z
      have := z.mate I S.hW q1 qp (by omega)
      rw [hx, w1] at this
      exact this
  obtain ⟨m0, m1, _⟩ := mates n
  have m2 : (4 * n + 1) ^^^ 2 = 4 * n + 3 := (xor2 n).2
  have m0' : (4 * n) ^^^ 2 = 4 * n + 2 := (xor2 n).1
  obtain ⟨qa, hqa, oa⟩ := R'.all (4 * n) (by omega)
  obtain ⟨qb', hqb, ob⟩ := R'.all (4 * n + 1) (by omega)
  have oa : On (far T) (wayL (ws ++ [1])) qa (4 * n) := oa
  have ob : On (far T) (wayL (ws ++ [1])) qb' (4 * n + 1) := ob
  have oaa : On (far T) (wayL (ws ++ [1])) qa a.1 := by
    have := (frn hqa (show 4 * n < 4 * (n + 1) by omega)).mpr oa
    rw [fa] at this
    exact this
  have obb : On (far T) (wayL (ws ++ [1])) qb' b.1 := by
    by_cases e : i = j
    · have := (frn hqb (show 4 * n + 1 < 4 * (n + 1) by omega)).mpr ob
      rw [(fs e).1, ← m0'] at this
      have := (mtn hqb (show 4 * n / 4 = n by omega)).mp this
      have := (frn hqb (show 4 * n < 4 * (n + 1) by omega)).mpr this
      rw [fa] at this
      have : a = b := Option.some.inj (ha.symm.trans (by rw [e]; exact hb))
      rw [← this]
      assumption
    · have := (frn hqb (show 4 * n + 1 < 4 * (n + 1) by omega)).mpr ob
      rw [(ft e).2.1] at this
      exact this
  have same : ∀ {p : Nat × Nat} {p' : Nat × Nat} {e y : Nat}, p ∈ rs → p' ∈ rs' → e < 4 * n → y < 4 * n → On (far T) (wayL (ws ++ [1])) p' e → On (far ps) (wayL ws) p e → (On (far T) (wayL (ws ++ [1])) p' y ↔ On (far ps) (wayL ws) p y) := fun {p p' e y} h1 h2 he hy z1 z2 => by
    have := S.same R' R h2 h1 (e := e) (by omega) (by omega) z1 (by rw [up_low (by omega)]; exact z2) (y := y) (by omega) (by omega)
    rw [up_low (show y < 4 * (n + 1) by omega)] at this
    exact this
  have meet : ∀ {p' : Nat × Nat} {x : Nat}, p' ∈ rs' → x / 4 = n → On (far T) (wayL (ws ++ [1])) p' x → p' ∈ rs'.filter fun p => decide (cntE (far T) (wayL (ws ++ [1])) n p ≠ 0) := fun {p' x} h1 hx z => by
    obtain ⟨q1, qp⟩ := R'.per p' h1
    refine List.mem_filter.mpr ⟨h1, decide_eq_true ?_⟩
    unfold cntE
    rw [← Nat.pos_iff_ne_zero, List.length_pos_iff_exists_mem]
    exact ⟨x, List.mem_filter.mpr ⟨(mem_both I S.hW q1 (by omega)).mpr z, decide_eq_true hx⟩⟩
  have len1 : p = q → o ≠ 1 := fun e z => by
    rw [if_pos z.symm] at ml
    have q1 : qa = qb' := by
      have := (same hp' hqa al bl oaa pa).mpr (by rw [e]; exact qb)
      exact On.one I R' hqa hqb (by omega) this obb
    have all : ∀ x, x / 4 = n → On (far T) (wayL (ws ++ [1])) qa x := fun x hx => by
      have : x = 4 * n ∨ x = 4 * n + 1 ∨ x = 4 * n + 2 ∨ x = 4 * n + 3 := by omega
      rcases this with rfl | rfl | rfl | rfl
      · exact oa
      · rw [q1]; exact ob
      · rw [← m0']
        exact (mtn hqa (by omega)).mpr oa
      · rw [← m2, q1]
        exact (mtn hqb (by omega)).mpr ob
    have le : (rs'.filter fun p => decide (cntE (far T) (wayL (ws ++ [1])) n p ≠ 0)).length ≤ [qa].length := len_le (fun x y => x = y) ((rounds_nodup R').filter _) (fun x hx => by
      obtain ⟨h1, h2⟩ := List.mem_filter.mp hx
      obtain ⟨x1, xp⟩ := R'.per x h1
      obtain ⟨y, y1, y2⟩ := (meets_iff I S.hW x1 xp).mpr (of_decide_eq_true h2)
      exact ⟨qa, .head _, On.one I R' h1 hqa (by omega) (.inl y1) (all y y2)⟩) (fun x _ y _ z _ e1 e2 => e1.trans e2.symm)
    rw [ml] at le
    exact absurd (show 2 ≤ 1 from le) (by decide)
  have len2 : p ≠ q → o = 1 := fun ne => by
    refine Classical.byContradiction fun z => ?_
    rw [if_neg (fun y => z y.symm)] at ml
    obtain ⟨u, hu⟩ := List.length_eq_one_iff.mp ml
    have a1 := meet hqa (show 4 * n / 4 = n by omega) oa
    have a2 := meet hqb (show (4 * n + 1) / 4 = n by omega) ob
    rw [hu, List.mem_singleton] at a1 a2
    rw [a1] at oaa
    rw [a2] at obb
    have hu' : u ∈ rs' := a1 ▸ hqa
    have := (same hp' hu' al bl oaa pa).mp obb
    exact ne (On.one S.J R hp' hq' bl this qb)
  constructor
  · intro ne
    have := len2 ne
    subst this
    rw [if_pos rfl] at k0 k2
    rw [if_neg (by decide)] at c0 c2
    omega
  · intro e
    have z := len1 e
    rw [if_neg (fun y => z y.symm)] at k0 k2
    have : o = 0 ∨ o = 2 := by omega
    rcases this with rfl | rfl
    · rw [if_pos rfl] at c0
      rw [if_neg (by decide)] at c2
      omega
    · rw [if_neg (by decide)] at c0
      rw [if_pos rfl] at c2
      omega
end
end One
end P_M53

section P_U3
set_option linter.all false
set_option maxRecDepth 100000
set_option maxHeartbeats 16000000
namespace One
open PySem PySem.Spec PyProof.Rows L2
abbrev sMR : Stmt := top 38
abbrev nMR : List Str := ["yard", "setting"]
theorem scMR : FnScope nMR ["yard", "setting"] (defScope sMR) := ⟨rfl, rfl, rfl, by decide +kernel, rfl, by decide +kernel, by decide +kernel⟩
/-- a turn at t -/
def spMR : Sp := fun vs H Q _ => ∃ (y u : Addr) (m : Nat) (ps : List (Nat × Nat)) (ws : List Nat), vs = [.ref y, .ref u] ∧ YAt H y m ps ∧ m ≤ 40 ∧ SetAt H u m ws ∧ ∀ H', Same H H' → Q (.int (Cn (far ps) m ws : Nat)) H'
section
variable {P : Program} {w : World} {K : PySem.W.Frag} {mg : Str → Option Value} {base : Heap} {C0 CS : Addr}
theorem ok_mr {f fO : Addr} {fd fdO : FuncData} (F : Fun K "many_rounds" "many_rounds" sMR f fd) (T : TB mg) (O : Cal K mg "rounds_of" fO fdO ["yard", "setting"]) (GO : FnOk P w K mg base (L2.CX P w) 8 fO fdO ["yard", "setting"] (spRO CS)) : FnOk P w K mg base (L2.CX P w) 9 f fd ["yard", "setting"] spMR := by
  refine F.okX scMR (fun vs H Q E h => ?_) (fun cdv A outer s H vs Q E hr h => ?_)
  · obtain ⟨y, u, m, ps, ws, rfl, _⟩ := h
    rfl
  · obtain ⟨y, u, m, ps, ws, rfl, hY, h40, hS, k⟩ := h
    have hr8 : Room 8 _ := hr
    refine ⟨_, pss_one (ps_ret (pe_callB call_len_seq (by rfl) T.len PySem.boot_len (pa_cons (pe_call GO hr8 rfl O.g O.kp O.b .nil (passes_call (takes_of rfl rfl rfl rfl) (fun _ _ _ _ h => h)) (pa_cons (pv 0) (pa_cons (pv 1) pa_nil))) pa_nil))), ?_⟩
    refine ⟨_, rfl, _, rfl, y, .ref u, "tuple", m, ps, rfl, hY, h40, .tup hS.here, look_good hS fun H1 s1 => ⟨u, ws, rfl, hS.mono (sameT s1), fun H2 r as rs s2 hr' hR R => ?_⟩⟩
    refine ⟨r, _, rfl, .inr (SqT.of hr'), ?_⟩
    rw [List.length_map, hR.len, ← Cn_eq (far_inv hY.1.lines) hS.ok R]
    exact k _ (s1.trans s2)
end
end One
end P_U3

section P_F5
set_option linter.all false
set_option maxRecDepth 100000
set_option maxHeartbeats 8000000
namespace One
open PySem PySem.Spec PyProof.Rows L2
abbrev sPut : Stmt := top 25
abbrev nPut : List Str := ["yard", "line", "other", "many", "stay", "new", "low", "high", "come", "other_low", "other_high", "number", "pair"]
theorem scPut : FnScope nPut ["yard", "line", "other"] (defScope sPut) := ⟨rfl, rfl, rfl, by decide +kernel, rfl, by decide +kernel, by decide +kernel⟩
def RPlace (C : Addr) (E : XK) (H : Hp) : Prop := ∀ (H' : Hp) (p d : Addr), Same H H' → H' p = some (.tup []) → H' d = some (.xd [("place", .ref p)]) → E (.ref C) (some d) H'
def spPut (C0 C5 C7 : Addr) : Sp := fun vs H Q E => ∃ (t : Addr) (v1 v2 : V) (T1 T2 : String), vs = [.ref t, v1, v2] ∧ TV H v1 T1 ∧ TV H v2 T2 ∧
  ((∃ xs, H t = some (.tup xs) ∧ canBe (xs.length : Nat) = false ∧ RPlace C0 E H) ∨
    ∃ n ps, YAt H t n ps ∧ n ≤ 40 ∧ (n = 40 → ∀ (H' : Hp) (d : Addr), Same H H' → H' d = some (.xd [("many", .int 41)]) → E (.ref C7) (some d) H') ∧
      (n < 40 → (belowV v1 (2 * n : Nat) && belowV v2 (2 * n : Nat)) = false → RPlace C5 E H) ∧
      (n < 40 → ∀ (i j : Nat) (a b : Nat × Nat), v1 = .int (i : Nat) → v2 = .int (j : Nat) → ps[i]? = some a → ps[j]? = some b →
        ∀ (H' : Hp) (t' : Addr) (as : List Addr) (T : List (Nat × Nat)), Same H H' → H' t' = some (.tup (refs as)) → PL H' as T → T.Perm (putOn n ps i j a b) → T.Pairwise leP → Q (.ref t') H'))
theorem below_nat {v : V} {n : Nat} (h : belowV v (n : Nat) = true) : ∃ i : Nat, v = .int (i : Nat) ∧ i < n := by
  cases v with
  | int i =>
    have h : (decide (0 ≤ i) && decide (i < ((n : Nat) : Int))) = true := h
    simp only [Bool.and_eq_true, decide_eq_true_eq] at h
    obtain ⟨j, rfl⟩ : ∃ j : Nat, i = (j : Nat) := ⟨i.toNat, by omega⟩
    exact ⟨j, rfl, by omega⟩
  | _ => exact nof h
section
variable {P : Program} {w : World} {K : PySem.W.Frag} {mg : Str → Option Value} {base : Heap} {C0 C5 C7 f5 f7 : Addr} {x5 x7 : Stmt}
theorem ok_put {f fC fB : Addr} {fd fdC fdB : FuncData} (F : Fun K "put_across" "put_across" sPut f fd) (T : TB mg) (TCo : TC mg) (T5 : OwnTxt P K x5 "place" C5 f5) (O5 : OwnCls K mg "OutOfPlace" C5 f5) (T7 : OwnTxt P K x7 "many" C7 f7) (O7 : OwnCls K mg "TooMany" C7 f7) (noS : mg "super" = none)
    (C : Cal K mg "crossings" fC fdC ["yard"]) (GC : FnOk P w K mg base (L2.CX P w) 6 fC fdC ["yard"] (spCross C0)) (B : Cal K mg "is_below" fB fdB ["thing", "many"]) (GB : FnOk P w K mg base CX0 2 fB fdB ["thing", "many"] spIsBelow) :
    FnOk P w K mg base (L2.CX P w) 7 f fd ["yard", "line", "other"] (spPut C0 C5 C7) := by
  refine F.okX scPut (fun vs H Q E h => ?_) (fun cdv A outer s H vs Q E hr h => ?_)
  · obtain ⟨t, v1, v2, T1, T2, rfl, _⟩ := h
    rfl
  · obtain ⟨t, v1, v2, T1, T2, rfl, hv1, hv2, h⟩ := h
    have nd := scPut.nd
    have hr2 : Room 2 _ := hr.mono (by decide)
    obtain ⟨u40, ht40⟩ := TCo.most
    obtain ⟨u4, ht4⟩ := TCo.places
    refine ⟨_, pss_cons (ps_set (i := 3) nd rfl (Or.inl rfl) (pe_call GC hr rfl C.g C.kp C.b .nil (passes_call (takes_of rfl rfl rfl rfl) (fun _ _ _ _ h => h)) (pa_cons (pv 0) pa_nil)))
      (pss_cons (ps_if (pt_cmpR op_eq (pv 3) (pe_glob (v := .int 40) rfl ht40 ⟨_, rfl⟩) (nomark _)) (pss_one (ps_raiseX rfl (Or.inr (Or.inr rfl)) T7 O7 noS hr (takes_of rfl rfl rfl rfl) (pa_cons (pe_op op_add (pv 3) pe_int) pa_nil) (by rfl))) pss_nil)
      (pss_cons (ps_if (PW.pt (pw_or (pt_not (pt_val (pe_call GB hr2 rfl B.g B.kp B.b .nil pass0 (pa_cons (pv 1) (pa_cons (pe_callB call_len_seq (by rfl) T.len PySem.boot_len (pa_cons (pv 0) pa_nil)) pa_nil)))))
          (pw_or1 (pt_not (pt_val (pe_call GB hr2 rfl B.g B.kp B.b .nil pass0 (pa_cons (pv 2) (pa_cons (pe_callB call_len_seq (by rfl) T.len PySem.boot_len (pa_cons (pv 0) pa_nil)) pa_nil)))))))) (pss_one (ps_raiseX rfl (Or.inl rfl) T5 O5 noS hr (takes_of rfl rfl rfl rfl) (pa_cons (pe_tup pa_nil) pa_nil) (by rfl))) pss_nil)
      (pss_cons (ps_setLc (i := 4) (own := [("number", 11), ("pair", 12)]) (g := gTup K 2 (gCons (gName 11) (gCons (gName 12) gNil))) (tt := tAnd (tTest (tOp rNe (tVar 11) (tVar 1))) (tTest (tOp rNe (tVar 11) (tVar 2)))) (te := tVar 12) rfl nd rfl rfl (sw_true rfl rfl rfl (by decide +kernel)) (pi_enumT (by rfl) T.enumerate (pa_cons (pv 0) pa_nil))
          (blkOk_by (N := nPut) (sc := defScope sPut) (by decide +kernel)) (fun _ _ _ _ _ => pg_tup rfl (pgs_cons (pg_name (i := 11) nd rfl (Or.inl rfl)) (pgs_cons (pg_name (i := 12) nd rfl (Or.inl rfl)) pgs_nil)))
          (fun _ _ _ _ _ => pts_one (PW.pt (pw_and (pt_cmpR op_ne (pv 11) (pv 1) (nomark _)) (pw_and1 (pt_cmpR op_ne (pv 11) (pv 2) (nomark _)))))) (fun _ _ _ _ _ => pv 12))
      (pss_cons (ps_set (i := 5) nd rfl (Or.inl rfl) (pe_op op_mul (pe_glob (v := .int 4) rfl ht4 ⟨_, rfl⟩) (pv 3)))
      (pss_cons (ps_asg (pe_ix ix_tup (pv 0) (pv 1) (fun _ _ => rfl)) (pg_tup rfl (pgs_cons (pg_name (i := 6) nd rfl (Or.inl rfl)) (pgs_cons (pg_name (i := 7) nd rfl (Or.inl rfl)) pgs_nil))))
      (C8.pss_cut (ps_if (pt_cmpR op_eq (pv 1) (pv 2) (nomark _))
          (pss_one (ps_set (i := 8) nd rfl (Or.inl rfl) (pe_lst (pa_cons (pe_tup (pa_cons (pv 6) (pa_cons (pv 5) pa_nil))) (pa_cons (pe_tup (pa_cons (pe_op op_add (pv 5) pe_int) (pa_cons (pe_op op_add (pv 5) pe_int) pa_nil))) (pa_cons (pe_tup (pa_cons (pv 7) (pa_cons (pe_op op_add (pv 5) pe_int) pa_nil))) pa_nil))))))
          (pss_cons (ps_asg (pe_ix ix_tup (pv 0) (pv 2) (fun _ _ => rfl)) (pg_tup rfl (pgs_cons (pg_name (i := 9) nd rfl (Or.inl rfl)) (pgs_cons (pg_name (i := 10) nd rfl (Or.inl rfl)) pgs_nil))))
            (pss_one (ps_set (i := 8) nd rfl (Or.inl rfl) (pe_lst (pa_cons (pe_tup (pa_cons (pv 6) (pa_cons (pv 5) pa_nil))) (pa_cons (pe_tup (pa_cons (pv 7) (pa_cons (pe_op op_add (pv 5) pe_int) pa_nil))) (pa_cons (pe_tup (pa_cons (pv 9) (pa_cons (pe_op op_add (pv 5) pe_int) pa_nil))) (pa_cons (pe_tup (pa_cons (pv 10) (pa_cons (pe_op op_add (pv 5) pe_int) pa_nil))) pa_nil)))))))))
      (pss_one (ps_ret (pe_tupleOf (by rfl) T.tuple (pe_callB cr_sortedPO (by rfl) T.sorted boot_sorted (pa_cons (pe_op op_catS (pv 4) (pv 8)) pa_nil))))))))))), ?_⟩
    refine ⟨_, rfl, ?_⟩
    unfold tNil
    rcases h with ⟨xs, ht, hc, hR⟩ | ⟨n, ps, hY, hn, k40, kbad, kgood⟩
    · exact ⟨_, rfl, fault_len ht hc fun H' p s' hp => .inr ⟨p, [], rfl, hp, by simp, by simp, fun d hd => hR _ p d (s'.trans (Same.new hd)) ((Same.new hd) _ _ hp) upd_same⟩⟩
    · obtain ⟨Y, as, ht, hP⟩ := id hY
      have hl : (refs as).length = 2 * n := by rw [List.length_map, hP.len, Y.lines.len]
      refine ⟨_, rfl, fault_good hY hn fun H1 s1 => .inl ⟨rfl, t, refs as, rfl, s1 _ _ ht, ?_⟩⟩
      rw [show (refs as).length / 2 = n by omega]
      have ht1 := s1 _ _ ht
      have hP1 := hP.mono (sameT s1)
      refine ⟨_, rfl, rfl, _, rfl, ?_⟩
      by_cases h40 : n = 40
      · subst h40
        refine iteT ⟨_, rfl, _, _, rfl, rfl, _, rfl, .int 41 (by decide), fun d hd => k40 rfl _ d (s1.trans (Same.new hd)) upd_same⟩
      · have hn40 : n < 40 := by omega
        have e1 : decide (V.int (n : Nat) = V.int 40) = false := decide_eq_false (fun z => h40 (by
          have z := V.int.inj z
          omega))
        show if decide (V.int (n : Nat) = V.int 40) = true then _ else _
        rw [e1]
        have bad : ∀ H2, Same H H2 → (belowV v1 (2 * n : Nat) && belowV v2 (2 * n : Nat)) = false → ∀ p d, H2 p = some (.tup []) → H2 d = some (.xd [("place", .ref p)]) → E (.ref C5) (some d) H2 := fun H2 s2 hb p d => kbad hn40 hb H2 p d s2
        refine iteF ?_
        have el : (((refs as).length : Nat) : Int) = ((2 * n : Nat) : Int) := by rw [hl]
        refine ⟨_, rfl, _, rfl, t, _, rfl, .inr (SqT.of ht1), v1, ((2 * n : Nat) : Int), T1, (by rw [el]; rfl), hv1.mono s1, _, rfl, ?_⟩
        cases hb1 : belowV v1 ((2 * n : Nat) : Int) with
        | false =>
          refine iteT ⟨Nat.zero_le _, fun p hp => ⟨_, rfl, .tup [] (SqT.of upd_same) (by simp) (by simp), fun d hd => bad _ (s1.trans ((Same.new hp).trans (Same.new hd))) (by rw [hb1]; rfl) p d ((Same.new hd) _ _ upd_same) upd_same⟩⟩
        | true =>
          refine iteF ⟨_, rfl, _, rfl, t, _, rfl, .inr (SqT.of ht1), v2, ((2 * n : Nat) : Int), T2, (by rw [el]; rfl), hv2.mono s1, _, rfl, ?_⟩
          cases hb2 : belowV v2 ((2 * n : Nat) : Int) with
          | false => exact iteT ⟨Nat.zero_le _, fun p hp => ⟨_, rfl, .tup [] (SqT.of upd_same) (by simp) (by simp), fun d hd => bad _ (s1.trans ((Same.new hp).trans (Same.new hd))) (by rw [hb1, hb2]; rfl) p d ((Same.new hd) _ _ upd_same) upd_same⟩⟩
          | true =>
            refine iteF ?_
            obtain ⟨i, rfl, hi⟩ := below_nat hb1
            obtain ⟨j, rfl, hj⟩ := below_nat hb2
            obtain ⟨a, ha⟩ : ∃ a, ps[i]? = some a := ⟨_, List.getElem?_eq_getElem (by rw [Y.lines.len]; exact hi)⟩
            obtain ⟨b, hb⟩ : ∃ b, ps[j]? = some b := ⟨_, List.getElem?_eq_getElem (by rw [Y.lines.len]; exact hj)⟩
            have hq := kgood hn40 i j a b rfl rfl ha hb
            have hal : as.length = 2 * n := by rw [← hl, List.length_map]
            refine ⟨_, rfl, t, _, rfl, SqT.of ht1, fun D hD => ?_⟩
            have sD := Same.new (o := .lst []) hD
            refine lc_it (walk_enumT (K := K) (a := t) (xs := refs as)) (fun k H6 => H6 D = some (.lst (refs (keepIx (notIJ i j) 0 (as.take k)))) ∧ Same H1 H6) ⟨upd_same, sD⟩ (fun k H6 _ h => SqT.of (h.2 _ _ ht1)) ?_ ?_
            · rintro k x H6 H7 hk ⟨hD6, s6⟩ ⟨T, x', y', rfl, hT, rfl, ex, ey⟩
              cases ex
              have hk' : k < as.length := by rw [List.length_map] at hk; exact hk
              have ey : (refs as)[k]? = some y' := ey
              rw [List.getElem?_map, List.getElem?_eq_getElem hk'] at ey
              cases ey
              have s7 := Same.new (o := .tup [V.int (k : Nat), V.ref as[k]]) hT
              refine ⟨T, _, rfl, SqT.of upd_same, rfl, _, _, rfl, _, _, rfl, rfl, rfl, ?_⟩
              refine ⟨_, rfl, _, rfl, rfl, _, rfl, ?_⟩
              have hsn : keepIx (notIJ i j) 0 (as.take (k + 1)) = keepIx (notIJ i j) 0 (as.take k) ++ (if notIJ i j k then [as[k]] else []) := by
                rw [List.take_succ, List.getElem?_eq_getElem hk', Option.toList_some, keepIx_snoc, List.length_take, Nat.zero_add, Nat.min_eq_left (Nat.le_of_lt hk')]
              have hD7 := s7 _ _ hD6
              have s17 := s6.trans s7
              have dN : ∀ x y : Nat, (!decide (V.int (x : Nat) = V.int (y : Nat))) = !decide (x = y) := fun x y => by
                congr 1
                refine decide_eq_decide.mpr ⟨fun z => ?_, fun z => by rw [z]⟩
                have z := V.int.inj z
                omega
              have skip : notIJ i j k = false → (upd H6 T (.tup [V.int (k : Nat), V.ref as[k]])) D = some (.lst (refs (keepIx (notIJ i j) 0 (as.take (k + 1))))) ∧ Same H1 (upd H6 T (.tup [V.int (k : Nat), V.ref as[k]])) := fun z => by
                rw [hsn, z]
                simp only [Bool.false_eq_true, if_false, List.append_nil]
                exact ⟨hD7, s17⟩
              show if (!decide (V.int (k : Nat) = V.int (i : Nat))) = true then _ else _
              rw [dN]
              refine ite2 (fun h1 => ⟨_, rfl, _, rfl, rfl, _, rfl, ?_⟩) (fun h1 => iteF (skip ?_))
              · show if (!decide (V.int (k : Nat) = V.int (j : Nat))) = true then _ else _
                rw [dN]
                refine ite2 (fun h2 => ⟨_, rfl, _, hD7, small1000 ?_, ?_, fun b o e => ?_⟩) (fun h2 => skip ?_)
                · rw [List.length_map]
                  exact Nat.le_trans (keepIx_length_le _ _ _) (by rw [List.length_take]; omega)
                · have hn : notIJ i j k = true := by
                    unfold notIJ
                    rw [h1, h2]
                    rfl
                  rw [upd_same, hsn, if_pos hn, refs_app]
                  rfl
                · rw [upd_ne (ne_of_none e hD)]
                  exact s17 _ _ e
                · unfold notIJ
                  rw [Bool.eq_false_iff.mpr h2, Bool.and_false]
              · unfold notIJ
                rw [Bool.eq_false_iff.mpr h1, Bool.false_and]
            · rintro H6 ⟨hD6, s6⟩
              have e6 : as.take (refs as).length = as := by rw [List.length_map, List.take_length]
              rw [e6] at hD6
              have ht6 := s6 _ _ ht1
              have hP6 := hP1.mono (sameT s6)
              obtain ⟨a1, ha1, pa1⟩ := hP6.get ha
              obtain ⟨b1, hb1', pb1⟩ := hP6.get hb
              have e4 : (4 : Int) * (n : Nat) = ((4 * n : Nat) : Int) := by omega
              refine ⟨_, rfl, _, _, rfl, rfl, .inl ⟨by decide, by decide⟩, ?_⟩
              refine ⟨_, rfl, _, rfl, t, _, _, _, rfl, rfl, SqT.of ht6, ref_at ha1, a1, _, rfl, SqT.of pa1, rfl, _, _, rfl, _, _, rfl, rfl, ?_⟩
              refine ⟨fun σ H9 => ∃ (l : Addr) (fa : List Addr) (w9 w10 : Option V), σ = [some (.ref t), some (.int (i : Nat)), some (.int (j : Nat)), some (.int (n : Nat)), some (.ref D), some (.int (4 * (n : Nat))), some (.int (a.1 : Nat)), some (.int (a.2 : Nat)), some (.ref l), w9, w10, none, none] ∧ Same H6 H9 ∧ H9 l = some (.lst (refs fa)) ∧ PL H9 fa (fresh n i j a b), ?_, ?_⟩
              · refine ⟨_, rfl, _, rfl, rfl, _, rfl, ?_⟩
                by_cases hij : i = j
                · have e1 : decide (V.int (i : Nat) = V.int (j : Nat)) = true := decide_eq_true (by rw [hij])
                  show if decide (V.int (i : Nat) = V.int (j : Nat)) = true then _ else _
                  rw [e1]
                  refine iteT ⟨_, rfl, _, rfl, two_le, fun t1 ht1 => ⟨_, rfl, _, _, rfl, rfl, _, rfl, _, _, rfl, rfl, two_le, fun t2 ht2 => ⟨_, rfl, _, rfl, _, _, rfl, rfl, two_le, fun t3 ht3 => ⟨(by show 3 ≤ sizeLine; decide), fun l9 hl9 => ?_⟩⟩⟩⟩
                  have u1 := Same.new (o := .tup [V.int (a.1 : Nat), V.int (4 * (n : Nat))]) ht1
                  have u2 := Same.new (o := .tup [V.int (4 * (n : Nat) + 1), V.int (4 * (n : Nat) + 2)]) ht2
                  have u3 := Same.new (o := .tup [V.int (a.2 : Nat), V.int (4 * (n : Nat) + 3)]) ht3
                  have u9 := Same.new (o := .lst [V.ref t1, V.ref t2, V.ref t3]) hl9
                  refine ⟨l9, [t1, t2, t3], _, _, rfl, u1.trans (u2.trans (u3.trans u9)), upd_same, ?_⟩
                  unfold fresh
                  rw [if_pos hij]
                  exact .cons (PAt.of (u9 _ _ (u3 _ _ (u2 _ _ upd_same))) rfl (by omega)) (.cons (PAt.of (u9 _ _ (u3 _ _ upd_same)) (by omega) (by omega)) (.cons (PAt.of (u9 _ _ upd_same) rfl (by omega)) .nil))
                · have e1 : decide (V.int (i : Nat) = V.int (j : Nat)) = false := decide_eq_false (fun z => hij (by
                    have z := V.int.inj z
                    omega))
                  show if decide (V.int (i : Nat) = V.int (j : Nat)) = true then _ else _
                  rw [e1]
                  refine iteF ⟨_, rfl, _, rfl, t, _, _, _, rfl, rfl, SqT.of ht6, ref_at hb1', b1, _, rfl, SqT.of pb1, rfl, _, _, rfl, _, _, rfl, rfl, ?_⟩
                  refine ⟨_, rfl, _, rfl, two_le, fun t4 ht4 => ⟨_, rfl, _, rfl, _, _, rfl, rfl, two_le, fun t5 ht5 => ⟨_, rfl, _, rfl, _, _, rfl, rfl, two_le, fun t6 ht6 => ⟨_, rfl, _, rfl, _, _, rfl, rfl, two_le, fun t7 ht7 => ⟨(by show 4 ≤ sizeLine; decide), fun l8 hl8 => ?_⟩⟩⟩⟩⟩
                  have w4 := Same.new (o := .tup [V.int (a.1 : Nat), V.int (4 * (n : Nat))]) ht4
                  have w5 := Same.new (o := .tup [V.int (a.2 : Nat), V.int (4 * (n : Nat) + 2)]) ht5
                  have w6 := Same.new (o := .tup [V.int (b.1 : Nat), V.int (4 * (n : Nat) + 1)]) ht6
                  have w7 := Same.new (o := .tup [V.int (b.2 : Nat), V.int (4 * (n : Nat) + 3)]) ht7
                  have w8 := Same.new (o := .lst [V.ref t4, V.ref t5, V.ref t6, V.ref t7]) hl8
                  refine ⟨l8, [t4, t5, t6, t7], _, _, rfl, w4.trans (w5.trans (w6.trans (w7.trans w8))), upd_same, ?_⟩
                  unfold fresh
                  rw [if_neg hij]
                  exact .cons (PAt.of (w8 _ _ (w7 _ _ (w6 _ _ (w5 _ _ upd_same)))) rfl (by omega)) (.cons (PAt.of (w8 _ _ (w7 _ _ (w6 _ _ upd_same))) rfl (by omega)) (.cons (PAt.of (w8 _ _ (w7 _ _ upd_same)) rfl (by omega)) (.cons (PAt.of (w8 _ _ upd_same) rfl (by omega)) .nil)))
              · rintro σ H9 ⟨l, fa, w9, w10, rfl, s9, hl9, hF9⟩
                have hD9 := s9 _ _ hD6
                have hK9 := (hP6.mono (sameT s9)).keep (notIJ i j) 0
                have lk := keepIx_length_le (notIJ i j) 0 as
                have lf : fa.length ≤ 4 := by
                  rw [hF9.len]
                  unfold fresh
                  split <;> simp
                refine ⟨_, rfl, _, rfl, D, l, _, _, rfl, rfl, SqL.of hD9, hl9, ?_, fun q hq0 => ?_⟩
                · rw [List.length_map, List.length_map]
                  exact Nat.le_of_lt (small1000 (by omega))
                have sq := Same.new (o := .lst (refs (keepIx (notIJ i j) 0 as) ++ refs fa)) hq0
                rw [← refs_app] at sq ⊢
                show rSortedPO K [V.ref q] _ (fun x H1 => kTup K x H1 Q)
                refine rd_sorted (SqL.of upd_same) ((hK9.app hF9).mono (sameT sq)) fun cs qs l2 hC hperm hle hl2 => ?_
                have s10 := Same.new (o := .lst (refs cs)) hl2
                refine .inl ⟨l2, _, rfl, SqL.of upd_same, fun u hu => ?_⟩
                have s11 := Same.new (o := .tup (refs cs)) hu
                exact hq _ u cs qs (s1.trans (s6.trans (s9.trans (sq.trans (s10.trans s11))))) upd_same (hC.mono (sameT (s10.trans s11))) hperm hle
end
end One
end P_F5

section P_F6
set_option linter.all false
set_option maxRecDepth 100000
set_option maxHeartbeats 8000000
namespace One
open PySem PySem.Spec PyProof.Rows L2
abbrev sSewn : Stmt := top 26
abbrev nSewn : List Str := ["yard", "crossing", "way", "many", "fars", "left"]
theorem scSewn : FnScope nSewn ["yard", "crossing", "way"] (defScope sSewn) := ⟨rfl, rfl, rfl, by decide +kernel, rfl, by decide +kernel, by decide +kernel⟩
def RWay (C : Addr) (w : Nat) (E : XK) (H : Hp) : Prop := ∀ (H' : Hp) (d : Addr), Same H H' → H' d = some (.xd [("way", .int (w : Nat))]) → E (.ref C) (some d) H'
def spSewn (C5 C6 : Addr) : Sp := fun vs H Q E => ∃ (t : Addr) (v1 v2 : V) (T1 T2 : String) (m : Nat) (ps : List (Nat × Nat)), vs = [.ref t, v1, v2] ∧ TV H v1 T1 ∧ TV H v2 T2 ∧ YAt H t m ps ∧ m ≤ 40 ∧
  ((m = 1 ∨ belowV v1 (m : Nat) = false ∨ belowV v2 (3 : Nat) = false) → RPlace C5 E H) ∧
  (m ≠ 1 → ∀ c w : Nat, v1 = .int (c : Nat) → v2 = .int (w : Nat) → c < m → w < 3 →
    (closesB (far ps) c w = true → RWay C6 w E H) ∧
    (closesB (far ps) c w = false → ∃ B : Nat → Nat, (∀ e, e < 4 * m → e / 4 ≠ c → ∃ k, backK (far ps) c w k (far ps e) = some (B e)) ∧ Asked (m - 1) (leftOf B c (4 * m)) ∧
      (Whole (m - 1) (leftOf B c (4 * m)) → ∀ (H' : Hp) (t' : Addr) (as : List Addr), Same H H' → H' t' = some (.tup (refs as)) → PL H' as (leftOf B c (4 * m)) → Q (.ref t') H') ∧
      (¬ Whole (m - 1) (leftOf B c (4 * m)) → RWay C6 w E H)))
section
variable {P : Program} {w : World} {K : PySem.W.Frag} {mg : Str → Option Value} {base : Heap} {C0 C5 C6 f5 f6 : Addr} {x5 x6 : Stmt}
theorem ok_sewn {f fC fB fF fL fX fW : Addr} {fd fdC fdB fdF fdL fdX fdW : FuncData} (F : Fun K "sewn_out" "sewn_out" sSewn f fd) (ways : ∃ t, mg "MANY_WAYS" = some (.int 3 t)) (T5 : OwnTxt P K x5 "place" C5 f5) (O5 : OwnCls K mg "OutOfPlace" C5 f5) (T6 : OwnTxt P K x6 "way" C6 f6) (O6 : OwnCls K mg "Barred" C6 f6) (noS : mg "super" = none)
    (C : Cal K mg "crossings" fC fdC ["yard"]) (GC : FnOk P w K mg base (L2.CX P w) 6 fC fdC ["yard"] (spCross C0)) (B : Cal K mg "is_below" fB fdB ["thing", "many"]) (GB : FnOk P w K mg base CX0 2 fB fdB ["thing", "many"] spIsBelow)
    (A : Cal K mg "fars_of_lines" fF fdF ["lines"]) (GA : FnOk P w K mg base CX0 1 fF fdF ["lines"] spFars) (D : Cal K mg "closes" fX fdX ["fars", "crossing", "way"]) (GD : FnOk P w K mg base CX0 2 fX fdX ["fars", "crossing", "way"] spCloses)
    (L : Cal K mg "lines_left" fL fdL ["fars", "crossing", "way"]) (GL : FnOk P w K mg base CX0 3 fL fdL ["fars", "crossing", "way"] spLeft) (W : Cal K mg "is_whole" fW fdW ["lines"]) (GW : FnOk P w K mg base CX0 2 fW fdW ["lines"] spIsWhole) :
    FnOk P w K mg base (L2.CX P w) 7 f fd ["yard", "crossing", "way"] (spSewn C5 C6) := by
  refine F.okX scSewn (fun vs H Q E h => ?_) (fun cdv A' outer s H vs Q E hr h => ?_)
  · obtain ⟨t, v1, v2, T1, T2, m, ps, rfl, _⟩ := h
    rfl
  · obtain ⟨t, v1, v2, T1, T2, m, ps, rfl, hv1, hv2, hY, hm, kbad, kgood⟩ := h
    have nd := scSewn.nd
    have hr1 : Room 1 _ := hr.mono (by decide)
    have hr2 : Room 2 _ := hr.mono (by decide)
    have hr3 : Room 3 _ := hr.mono (by decide)
    obtain ⟨u3, ht3⟩ := ways
    refine ⟨_, pss_cons (ps_set (i := 3) nd rfl (Or.inl rfl) (pe_call GC hr rfl C.g C.kp C.b .nil (passes_call (takes_of rfl rfl rfl rfl) (fun _ _ _ _ h => h)) (pa_cons (pv 0) pa_nil)))
      (pss_cons (ps_if (PW.pt (pw_or (pt_cmpR op_eq (pv 3) pe_int (nomark _)) (pw_or (pt_not (pt_val (pe_call GB hr2 rfl B.g B.kp B.b .nil pass0 (pa_cons (pv 1) (pa_cons (pv 3) pa_nil)))))
          (pw_or1 (pt_not (pt_val (pe_call GB hr2 rfl B.g B.kp B.b .nil pass0 (pa_cons (pv 2) (pa_cons (pe_glob (v := .int 3) rfl ht3 ⟨_, rfl⟩) pa_nil)))))))))
          (pss_one (ps_raiseX rfl (Or.inl rfl) T5 O5 noS hr (takes_of rfl rfl rfl rfl) (pa_cons (pe_tup pa_nil) pa_nil) (by rfl))) pss_nil)
      (pss_cons (ps_set (i := 4) nd rfl (Or.inl rfl) (pe_call GA hr1 rfl A.g A.kp A.b .nil pass0 (pa_cons (pv 0) pa_nil)))
      (pss_cons (ps_if (pt_val (pe_call GD hr2 rfl D.g D.kp D.b .nil pass0 (pa_cons (pv 4) (pa_cons (pv 1) (pa_cons (pv 2) pa_nil))))) (pss_one (ps_raiseX rfl (Or.inr (Or.inl rfl)) T6 O6 noS hr (takes_of rfl rfl rfl rfl) (pa_cons (pv 2) pa_nil) (by rfl))) pss_nil)
      (pss_cons (ps_set (i := 5) nd rfl (Or.inl rfl) (pe_call GL hr3 rfl L.g L.kp L.b .nil pass0 (pa_cons (pv 4) (pa_cons (pv 1) (pa_cons (pv 2) pa_nil)))))
      (pss_cons (ps_if (pt_not (pt_val (pe_call GW hr2 rfl W.g W.kp W.b .nil pass0 (pa_cons (pv 5) pa_nil)))) (pss_one (ps_raiseX rfl (Or.inr (Or.inl rfl)) T6 O6 noS hr (takes_of rfl rfl rfl rfl) (pa_cons (pv 2) pa_nil) (by rfl))) pss_nil)
      (pss_one (ps_ret (pv 5)))))))), ?_⟩
    refine ⟨_, rfl, ?_⟩
    unfold tNil
    obtain ⟨Y, as, ht, hP⟩ := id hY
    have hl : (refs as).length = 2 * m := by rw [List.length_map, hP.len, Y.lines.len]
    refine ⟨_, rfl, fault_good hY hm fun H1 s1 => .inl ⟨rfl, t, refs as, rfl, s1 _ _ ht, ?_⟩⟩
    rw [show (refs as).length / 2 = m by omega]
    have ht1 := s1 _ _ ht
    have hP1 := hP.mono (sameT s1)
    have bad : (m = 1 ∨ belowV v1 (m : Nat) = false ∨ belowV v2 (3 : Nat) = false) → ∀ H2, Same H H2 → ∀ p d, H2 p = some (.tup []) → H2 d = some (.xd [("place", .ref p)]) → E (.ref C5) (some d) H2 := fun z H2 s2 p d => kbad z H2 p d s2
    refine ⟨_, rfl, rfl, _, rfl, ?_⟩
    by_cases h1 : m = 1
    · have e1 : decide (V.int (m : Nat) = V.int 1) = true := decide_eq_true (by rw [h1]; rfl)
      show if decide (V.int (m : Nat) = V.int 1) = true then _ else _
      rw [e1]
      refine iteT ⟨Nat.zero_le _, fun p hp => ⟨_, rfl, .tup [] (SqT.of upd_same) (by simp) (by simp), fun d hd => bad (.inl h1) _ (s1.trans ((Same.new hp).trans (Same.new hd))) p d ((Same.new hd) _ _ upd_same) upd_same⟩⟩
    · have e1 : decide (V.int (m : Nat) = V.int 1) = false := decide_eq_false (fun z => h1 (by
        have z := V.int.inj z
        omega))
      show if decide (V.int (m : Nat) = V.int 1) = true then _ else _
      rw [e1]
      refine iteF ⟨_, rfl, _, rfl, v1, ((m : Nat) : Int), T1, rfl, hv1.mono s1, _, rfl, ?_⟩
      cases hb1 : belowV v1 ((m : Nat) : Int) with
      | false => exact iteT ⟨Nat.zero_le _, fun p hp => ⟨_, rfl, .tup [] (SqT.of upd_same) (by simp) (by simp), fun d hd => bad (.inr (.inl hb1)) _ (s1.trans ((Same.new hp).trans (Same.new hd))) p d ((Same.new hd) _ _ upd_same) upd_same⟩⟩
      | true =>
        refine iteF ⟨_, rfl, v2, ((3 : Nat) : Int), T2, rfl, hv2.mono s1, _, rfl, ?_⟩
        cases hb2 : belowV v2 ((3 : Nat) : Int) with
        | false => exact iteT ⟨Nat.zero_le _, fun p hp => ⟨_, rfl, .tup [] (SqT.of upd_same) (by simp) (by simp), fun d hd => bad (.inr (.inr hb2)) _ (s1.trans ((Same.new hp).trans (Same.new hd))) p d ((Same.new hd) _ _ upd_same) upd_same⟩⟩
        | true =>
          refine iteF ?_
          obtain ⟨c, rfl, hc⟩ := below_nat hb1
          obtain ⟨w', rfl, hw⟩ := below_nat hb2
          obtain ⟨kc, kn⟩ := kgood h1 c w' rfl rfl hc hw
          refine ⟨_, rfl, t, m, as, ps, rfl, ht1, hP1, Y.lines, by omega, fun H2 G s2 hG0 hG => ?_⟩
          have s12 := s1.trans s2
          refine ⟨_, rfl, _, rfl, _, rfl, G, m, far ps, c, w', rfl, hG, hc, by omega, _, rfl, ?_⟩
          cases hcl : closesB (far ps) c w' with
          | true =>
            exact iteT ⟨_, rfl, _, rfl, .int w' (by omega), fun d hd => kc hcl _ d (s12.trans (Same.new hd)) upd_same⟩
          | false =>
            obtain ⟨Bk, hB, hA, kw, kno⟩ := kn hcl
            refine iteF ⟨_, rfl, _, rfl, _, rfl, G, m, far ps, Bk, c, w', rfl, hG, hc, by omega, hw, hB, fun H3 t3 as3 s3 ht3' hP3 => ?_⟩
            have s123 := s12.trans s3
            refine ⟨_, rfl, t3, m - 1, as3, _, rfl, ht3', hP3, hA, by omega, fun H4 b s4 hb => ⟨b, rfl, ?_⟩⟩
            cases b with
            | true => exact iteF ⟨_, rfl, kw (hb.mp rfl) _ t3 as3 (s123.trans s4) (s4 _ _ ht3') (hP3.mono (sameT s4))⟩
            | false => exact iteT ⟨_, rfl, _, rfl, .int w' (by omega), fun d hd => kno (fun z => nomatch hb.mpr z) _ d (s123.trans (s4.trans (Same.new hd))) upd_same⟩
end
end One
end P_F6

section P_X3
set_option linter.all false
set_option maxRecDepth 100000
set_option maxHeartbeats 4000000
namespace One
open PySem PySem.Spec PyProof.Rows L2
/-! ### try: .. except x as n: m = n / rest, where the rest may look at the exception that m holds -/
/-- slot i is n's, slot j is m's -/
def wHold (K : PySem.W.Frag) (c : Value) (i j : Nat) (tE : Addr → Value → Option Addr → TS) (Wout : WX) (D : Ends) : WX := fun cls d σ H =>
  ∃ b, PySem.W.exmOne K cls c = some b ∧ (b = true → ∀ a, H a = none → tE a cls d D (((σ.set i (some (.ref a))).set j (some (.ref a))).set i none) H) ∧ (b = false → Wout cls d σ H)
theorem tr_tr {X : Cx} {pins : List (Addr × Obj)} {σ : L2.St} {H : Hp} {s : Shared} {q : Addr × Obj} {xe : Value → Shared → Prop} (I : Inv (X.suite q.1 (q :: (X.pn ++ pins))) [] σ H s) (ok : X.Ok) : Inv (X.tr (q :: (X.pn ++ pins)) xe) [] σ H s :=
  ⟨ok.toTry _ _, I.os, I.bare, I.base, I.loc, I.cell, I.free, I.freeC, I.pin, I.hok, I.len⟩
theorem of_tr {X : Cx} {pins pn' : List (Addr × Obj)} {σ : L2.St} {H : Hp} {s : Shared} {q : Addr × Obj} {xe : Value → Shared → Prop} (I : Inv (X.tr (q :: (X.pn ++ pins)) xe) pn' σ H s) (ok : X.Ok) : Inv X pins σ H s :=
  ⟨ok, I.os, I.bare, I.base, I.loc, I.cell, I.free, I.freeC, fun y hy => I.pin y (List.mem_append_left _ (List.mem_cons_of_mem _ hy)), I.hok, I.len⟩
theorem sp_tr {X : Cx} {pins : List (Addr × Obj)} {q : Addr × Obj} {xe : Value → Shared → Prop} {D : Ends} {f : Flow} {s : Shared} (ok : X.Ok) (h : SP (X.tr (q :: (X.pn ++ pins)) xe) [] D f s) : SP X pins D f s := by
  match f, h with
  | .next, ⟨σ', H', J, z⟩ => exact ⟨σ', H', of_tr J ok, z⟩
  | .brk, ⟨σ', H', J, z⟩ => exact ⟨σ', H', of_tr J ok, z⟩
  | .cont, ⟨σ', H', J, z⟩ => exact ⟨σ', H', of_tr J ok, z⟩
  | .ret u, ⟨v, σ', H', J, r, z⟩ => exact ⟨v, σ', H', of_tr J ok, r, z⟩
section
variable {X : Cx} {x n m : Str} {c : Value} {i j : Nat} {body rest : List Stmt} {np mp mp2 ap pos pos' : Pos} {tb : WX → TS} {t0 : TS} {tE : Addr → Value → Option Addr → TS} {Wout : WX}
theorem pss_hold (hs : X.stack = X.env :: X.outer) (hf : X.env.frame = some X.env.locals) (nd : X.N.Nodup) (hi : X.N[i]? = some n) (hln : X.env.kindOf n = some .local) (hj : X.N[j]? = some m) (hlm : X.env.kindOf m = some .local) (hc : Names X x c) (tk : Takes X Wout)
    (hdb : (n == ("__debug__" : Str)) = false) (hdc : (n == ("__classdict__" : Str)) = false)
    (hb : ∀ (W : WX) (pn : List (Addr × Obj)) (xe : Value → Shared → Prop), Takes (X.tr pn xe) W → PassesOwn (model X.prog X.w) X.A X.env xe → PSs (X.tr pn xe) body (tb W)) (h0 : PSs X rest t0)
    (hE : ∀ (a : Addr) (oe : Obj) (cls : Value) (d : Option Addr) (pn : List (Addr × Obj)), Zc cls d oe → (∃ vs, oe.data = .fields vs) → PSs (X.tr ((a, oe) :: pn) X.xe) rest (tE a cls d)) :
    PSs X (.Try body [.ExceptHandler (some (.Name x np)) (some n) [.Assign [.Name m mp] (.Name n mp2) ap] pos'] [] [] pos :: rest) (fun D σ H => tb (wHold X.K c i j tE Wout D) { D with nx := t0 D } σ H) := by
  refine ⟨fun pins s σ H D I h => ?_⟩
  have ok := I.ok
  have frs0 : X.A.frames = some (X.env :: X.outer) := ok.frames.trans (by rw [hs])
  refine wpAny_execs_cons (wpAny_Try_except ?_)
  let Q2 : Flow → Shared → Prop := fun f s' => match f with
    | .next => wpAny (model X.prog X.w) X.A (execs rest X.env) (SP X pins D) X.xe s'
    | f => SP X pins D f s'
  refine wpAny_mono ((hb (wHold X.K c i j tE Wout D) (X.pn ++ pins) (fun e s1 => wpAny (model X.prog X.w) X.A (noteFrame e X.env) (fun _ s2 => wpAny (model X.prog X.w) X.A (setFlight e none) (fun _ s3 =>
    wpAny (model X.prog X.w) X.A (handleBy e X.env [.ExceptHandler (some (.Name x np)) (some n) [.Assign [.Name m mp] (.Name n mp2) ap] pos']) Q2 X.xe s3) X.xe s2) X.xe s1) (fun u s' air => ?_) PassesOwn.looking).run [] s σ H { D with nx := t0 D } (I.toTry _) h) (fun f s1 hsp => ?_) (fun e s1 he => he)
  · obtain ⟨a, B, sI, pins', σ', H', cls, d, rfl, Jx, nb, up, sky, na, os, ag, b, hb1, yes, no⟩ := air
    have Jo : Inv X pins σ' H' sI := Jx.ofTry ok
    refine (show wpAny (model X.prog X.w) X.A (noteFrame (.ref a) X.env) _ _ _ from ?_)
    refine Sky.land Zc.steady frs0 hf (hs ▸ sky : Sky B (X.env :: X.outer) a (Zc cls d) X.env.locals s'.heap) fun hpl fll upl => ?_
    have Jl : Inv X pins σ' H' { s' with heap := hpl } := Jo.landed nb fll.1 (up.trans upl) os ag
    obtain ⟨oel, vsl, hel, hzl, hdl⟩ := fll.there
    have away : a ∉ frs (X.env :: X.outer) := fun hm => by
      obtain ⟨_, o', e', hnf⟩ := fll.2.2.1.mem hm
      cases hel.symm.trans e'
      exact hnf _ hdl
    have nL : a ≠ X.env.locals := fun z => away (List.mem_filterMap.mpr ⟨X.env, List.mem_cons_self, hf.trans (congrArg some z.symm)⟩)
    have nS : a ∉ X.fs := fun hm => by
      obtain ⟨e, he, q⟩ := List.mem_filterMap.mp hm
      exact away (List.mem_filterMap.mpr ⟨e, List.mem_cons_of_mem _ he, q⟩)
    have Sl := Jl.suite hel hdl na nL nS
    refine wpAny_handleBy_cons (codeAny_handlers_test ?_) (by intro q; cases q)
    have Lty : PySem.W.Looks (model X.prog X.w) hpl (typeOf (.ref a)) cls := fun A Q E s k q => wpAny_typeOf_ref (k _ _ hel) (by rw [hzl.1]; exact q)
    have look : ∀ {Q : Value → Shared → Prop} {E : Value → Shared → Prop}, Q c { s' with heap := hpl } → wpAny (model X.prog X.w) (X.A.mark (some (.ref a))) (eval (.Name x np) X.env) Q E { s' with heap := hpl } := fun {Q E} q => by
      obtain ⟨g1, g2, g3 | ⟨g3, g4, g5⟩⟩ := hc
      · exact ld_glob (X := X.suite a ((a, oel) :: (X.pn ++ pins))) Sl g1 g3 q g2
      · exact ld_blt (X := X.suite a ((a, oel) :: (X.pn ++ pins))) Sl g1 g3 g4 q g5 g2
    refine look ((PySem.W.exm_one (M := model X.prog X.w) Jl.kIn Lty hb1).here ?_)
    cases b with
    | true =>
      refine codeAny_handlers_suite_as (HandSPX.lands_againZ fll fun hpm flm upm => ?_)
      have Jm : Inv X pins σ' H' { s' with heap := hpm } := Jo.landed nb flm.1 ((up.trans upl).trans upm) os ag
      obtain ⟨oem, vsm, hem, hzm, hdm⟩ := flm.there
      have Sm := Jm.suite hem hdm na nL nS
      refine store_ok (X := X.suite a ((a, oem) :: (X.pn ++ pins))) (v := .ref a) Sm nd hi (.inl hln) rfl (fun s5 S5 => ?_) (.inr hln)
      have one : PSs (X.suite a ((a, oem) :: (X.pn ++ pins))) [.Assign [.Name m mp] (.Name n mp2) ap] _ := pss_one (ps_set (i := j) nd hj (.inl hlm) (pe_var (i := i) hi (.inl hln) hdb hdc) (hf := .inr hlm))
      have li : i < σ'.length := by
        rw [Jo.len]
        exact (List.getElem?_eq_some_iff.mp hi).1
      refine wpAny_mono (one.run [] s5 _ H' { nx := fun σ6 H6 => σ6 = (σ'.set i (some (.ref a))).set j (some (.ref a)) ∧ H6 = H', rt := fun _ _ => False } S5 ⟨.ref a, List.getElem?_set_self li, rfl, rfl⟩) (fun f s6 hsp => ?_) (fun _ _ z => False.elim z)
      match f, hsp with
      | .next, ⟨σ6, H6, S6, e1, e2⟩ =>
        subst e1 e2
        refine gone_ok (X := X.suite a ((a, oem) :: (X.pn ++ pins))) S6 nd hi hln fun s7 S7 => ?_
        exact wpAny_mono ((hE a oem cls d (X.pn ++ pins) hzm ⟨_, hdm⟩).run [] s7 _ _ D (tr_tr (q := (a, oem)) S7 ok) (yes rfl a na)) (fun f s8 h8 => sp_tr (q := (a, oem)) ok h8) fun _ _ z => z
      | .brk, ⟨_, _, _, z⟩ => exact z.elim
      | .cont, ⟨_, _, _, z⟩ => exact z.elim
      | .ret u, ⟨_, _, _, _, _, z⟩ => exact z.elim
    | false =>
      refine (show wpAny _ X.A (handleBy (.ref a) X.env []) _ _ _ from wpAny_handleBy_nil ?_)
      obtain ⟨_, _, _, oe, vs, T, oT, ts', he, hz, hd, h1, hr⟩ := id fll
      unfold PySem.passOn
      refine wpAny_bind (wpAny_field he hd h1 ?_); rw [if_neg (show ¬ ((Value.ref T == Value.none) = true) from by simp)]
      have last : wpAny (model X.prog X.w) X.A (setFlight (.ref a) X.env.frame) (fun _ s4 => wpAny (model X.prog X.w) X.A (throw (.ref a) : Sem Flow) Q2 X.xe s4) X.xe { s' with heap := hpl } := by
        rw [hf]
        exact HandSPX.setFlight_upZ fll fun hpm hh4 upm => wpAny_throw (tk _ _ ⟨a, B, sI, pins, σ', H', cls, d, rfl, Jo, nb, (up.trans upl).trans upm, .inr (.inr (by rw [hs]; exact hh4)), na, os, ag, no rfl⟩)
      first
        | exact wpAny_bind (wpAny_pure (wpAny_bind last))
        | exact wpAny_bind last
  · match f, hsp with
    | .next, ⟨σ', H', Jx, q⟩ => exact wpAny_execs_nil (h0.run pins s1 σ' H' D (Jx.ofTry ok) q)
    | .brk, ⟨σ', H', Jx, q⟩ => exact ⟨σ', H', Jx.ofTry ok, q⟩
    | .cont, ⟨σ', H', Jx, q⟩ => exact ⟨σ', H', Jx.ofTry ok, q⟩
    | .ret u, ⟨v, σ', H', Jx, r, q⟩ => exact ⟨v, σ', H', Jx.ofTry ok, r, q⟩
end
end One
end P_X3

section P_X4
set_option linter.all false
set_option maxRecDepth 100000
set_option maxHeartbeats 4000000
namespace One
open PySem PySem.Spec PyProof.Rows L2
/-! ### a held exception is looked at: its class, its fields -/
theorem held_at {X : Cx} {a D dd : Addr} {oe : Obj} {pn pins : List (Addr × Obj)} {xe : Value → Shared → Prop} {σ : L2.St} {H : Hp} {s : Shared} {fs : List (Str × V)} (I : Inv (X.tr ((a, oe) :: pn) xe) pins σ H s) (hz : Zc (.ref D) (some dd) oe) (hf : ∃ vs, oe.data = .fields vs) (hd : H dd = some (.xd fs)) :
    ∃ (od : Obj) (mA : Str → Option Value), PySem.W.InstAt s.heap a oe D (some od) ∧ s.heap.Ns1 dd mA ∧ s.heap.get? dd = some od ∧ ∀ g, RelO (fs.lookup g) (mA g) := by
  obtain ⟨hat, _⟩ := I.pin (a, oe) (List.mem_append.mpr (.inl List.mem_cons_self))
  obtain ⟨vs, hv⟩ := hf
  obtain ⟨mA, hns, hr⟩ := (show ObjOk X.prog X.w H s.heap dd (.xd fs) from I.hok dd _ hd)
  obtain ⟨od, es, ep, ho, _⟩ := id hns
  exact ⟨od, mA, ⟨hat, hz.1, by unfold PySem.W.notCls; rw [hv] <;> rfl, by rw [hz.2]; exact ho⟩, hns, ho, hr⟩
def rIsX (K : PySem.W.Frag) (a : Addr) (cls : Value) (d : Option Addr) : List V → Hp → VK → Prop := fun xs H Q => ∃ (D dd : Addr) (c : V) (cv : Value) (b : Bool) (fs : List (Str × V)), xs = [.ref a, c] ∧ cls = .ref D ∧ d = some dd ∧ ExcC K D ∧
  (∀ u, RelV c u → u = cv) ∧ PySem.W.kitOne K (.ref D) cv = some b ∧ H dd = some (.xd fs) ∧ Q (.bl b) H
section
variable {X : Cx} {a : Addr} {oe : Obj} {cls : Value} {d : Option Addr} {pn : List (Addr × Obj)} {xe : Value → Shared → Prop}
theorem cr_isX (hz : Zc cls d oe) (hf : ∃ vs, oe.data = .fields vs) : CallR (X.tr ((a, oe) :: pn) xe) (.builtin "isinstance") (rIsX X.K a cls d) := by
  intro pins s σ H xs us Q I r h
  obtain ⟨D, dd, c, cv, b, fs, rfl, rfl, rfl, C, hcv, e, hd, q⟩ := h
  cases r with
  | cons rx rr =>
    cases rr with
    | cons rt rr =>
      cases rr
      cases rx
      have ec := hcv _ rt
      subst ec
      obtain ⟨od, mA, J, _, _, _⟩ := held_at I hz hf hd
      have hcl : (PySem.W.clsIn X.K D).isSome = true := by
        obtain ⟨cd, hc, _⟩ := PySem.W.any_some C.hd
        rw [hc]; rfl
      exact PySem.W.kia_one (PySem.W.kitx_exc hcl C.hg C.hk C.hs C.ha C.hn C.ht C.hm) I.kIn J e (fun z => nomatch z) fun tk => ⟨.bl b, H, I.kept (t' := tk) fun _ _ z => z, rfl, q⟩
/-- x.n, x the held exception -/
def tFld (K : PySem.W.Frag) (a : Addr) (cls : Value) (d : Option Addr) (n : Str) (te : TE) : TE := fun σ H Q => te σ H fun x H1 => ∃ (C dd : Addr) (fs : List (Str × V)) (v : V), x = .ref a ∧ cls = .ref C ∧ d = some dd ∧ XfC K C ∧ PySem.W.findIn K (.ref C) n = some none ∧ H1 dd = some (.xd fs) ∧ fs.lookup n = some v ∧ Q v H1
theorem pe_fld {e : Expr} {te : TE} {pos : Pos} {n : Str} (hz : Zc cls d oe) (hf : ∃ vs, oe.data = .fields vs) (he : PE (X.tr ((a, oe) :: pn) xe) e te) (hb : attributeBase e n X.env (eval e X.env) = eval e X.env := by rfl) :
    PE (X.tr ((a, oe) :: pn) xe) (.Attribute e n pos) (tFld X.K a cls d n te) := by
  refine ⟨fun pins s σ H Q I h => attr_of hb (thn (he.run pins s σ H _ I h) fun u s1 ⟨x, H1, I1, rx, C, dd, fs, v, ex, e1, e2, T, hno, hd, l, q⟩ => ?_)⟩
  subst ex e1 e2
  obtain rfl : u = Value.ref a := rx
  obtain ⟨od, mA, J, hns, ho, hr⟩ := held_at I1 hz hf hd
  obtain ⟨od', ho', hl⟩ := lookIn_ns hns
  obtain rfl : od' = od := Option.some.inj (ho'.symm.trans ho)
  obtain ⟨uv, huv, ruv⟩ := RelO.some_of (v := v) (o := mA n) (by rw [← l]; exact hr n)
  exact HandSPX.exc_get I1.kIn J T.ga T.gg T.exC (PySem.W.findObj_own T.hdC hno rfl (by rw [hl, huv])) (handed_of ruv) ⟨v, H1, I1.tok _, ruv, q⟩
end
end One
end P_X4

section P_N1
set_option linter.all false
set_option maxRecDepth 100000
set_option maxHeartbeats 16000000
namespace One
open PySem PySem.Spec PyProof.Rows L2
/-! ### which rounds have a line; the ends of a round that are lower -/
abbrev sHo : Stmt := top 50
abbrev nHo : List Str := ["told", "line", "number", "some"]
theorem scHo : FnScope nHo ["told", "line"] (defScope sHo) := ⟨rfl, rfl, rfl, by decide +kernel, rfl, by decide +kernel, by decide +kernel⟩
abbrev sBe : Stmt := top 51
abbrev nBe : List Str := ["some", "first", "end"]
theorem scBe : FnScope nBe ["some", "first"] (defScope sBe) := ⟨rfl, rfl, rfl, by decide +kernel, rfl, by decide +kernel, by decide +kernel⟩
def homeB (f : Nat → Nat) (rs : List (Nat × Nat)) (x y i : Nat) : Bool := decide (x ∈ rnd f (rs.getD i (0, 0)).1 (rs.getD i (0, 0)).2) || decide (y ∈ rnd f (rs.getD i (0, 0)).1 (rs.getD i (0, 0)).2)
def spHo : Sp := fun vs H Q _ => ∃ (r l : Addr) (as : List Addr) (f : Nat → Nat) (rs : List (Nat × Nat)) (x y : Nat), vs = [.ref r, .ref l] ∧ H r = some (.tup (refs as)) ∧ RsAt f H as rs ∧ rs.length ≤ 1000 ∧ H l = some (.tup [.int (x : Nat), .int (y : Nat)]) ∧
  ∀ (H' : Hp) (D : Addr), Same H H' → H' D = some (.lst (nats ((List.range rs.length).filter (homeB f rs x y)))) → Q (.ref D) H'
def spBe : Sp := fun vs H Q _ => ∃ (t : Addr) (F : Nat) (es : List Nat), vs = [.ref t, .int (F : Nat)] ∧ H t = some (.tup (nats es)) ∧ es.length ≤ 1000 ∧ ∀ (H' : Hp) (u : Addr), Same H H' → H' u = some (.tup (nats (es.filter fun e => decide (e < F)))) → Q (.ref u) H'
theorem flat_nats (es : List Nat) : (nats es).all flatV = true := List.all_eq_true.mpr fun v hv => by
  obtain ⟨z, _, rfl⟩ := List.mem_map.mp hv
  rfl
theorem inV_nats (b : Nat) : ∀ xs : List Nat, inV (.int ((b : Nat) : Int)) (nats xs) = decide (b ∈ xs)
  | [] => by simp [inV, nats]
  | x :: xs => by
    show (eqV (.int ((x : Nat) : Int)) (.int ((b : Nat) : Int)) || inV (.int ((b : Nat) : Int)) (nats xs)) = _
    rw [inV_nats b xs]
    by_cases h : x = b
    · subst h
      have e : eqV (.int ((x : Nat) : Int)) (.int ((x : Nat) : Int)) = true := by simp [eqV]
      rw [e]
      simp
    · have e : eqV (.int ((x : Nat) : Int)) (.int ((b : Nat) : Int)) = false := by
        simp only [eqV, beq_eq_false_iff_ne, decide_eq_false_iff_not]
        omega
      rw [e]
      have : ¬ b = x := fun z => h z.symm
      simp [this]
section
variable {P : Program} {w : World} {K : PySem.W.Frag} {mg : Str → Option Value} {base : Heap}
theorem ok_ho {f : Addr} {fd : FuncData} (F : Fun K "_law_home" "_law_home" sHo f fd) (T : TB mg) : FnOk P w K mg base CX0 1 f fd ["told", "line"] spHo := by
  refine F.ok scHo (fun vs H Q E h => ?_) (fun cdv A outer s H vs Q E hr h => ?_)
  · obtain ⟨r, l, as, g, rs, x, y, rfl, _⟩ := h
    rfl
  · obtain ⟨r, l, as, g, rs, x, y, rfl, ht, hR, hk, hl, k⟩ := h
    have nd := scHo.nd
    refine ⟨_, pss_one (ps_ret (pe_lc (own := [("number", 2), ("some", 3)]) (g := (gTup K 2 (gCons (gName 2) (gCons (gName 3) gNil)))) (tt := (tOr (tTest (tOp (rIn K false) (tOp (rIxT K) (tVar 1) (tC (.int 0))) (tVar 3))) (tTest (tOp (rIn K false) (tOp (rIxT K) (tVar 1) (tC (.int 1))) (tVar 3))))) (te := (tVar 2)) rfl nd (pi_enumT (by rfl) T.enumerate (pa_cons (pv 0) pa_nil)) (blkOk_by (N := nHo) (sc := defScope sHo) (by decide +kernel)) (fun _ _ _ _ _ => pg_tup rfl (pgs_cons (pg_name (i := 2) nd rfl (Or.inl rfl)) (pgs_cons (pg_name (i := 3) nd rfl (Or.inl rfl)) pgs_nil))) (fun _ _ _ _ _ => pts_one (PW.pt (pw_or (pt_cmpR op_in_seq (pe_ix ix_tup (pv 1) pe_int (fun _ _ => rfl)) (pv 3) (by rfl)) (pw_or1 (pt_cmpR op_in_seq (pe_ix ix_tup (pv 1) pe_int (fun _ _ => rfl)) (pv 3) (by rfl)))))) (fun _ _ _ _ _ => by exact (pv 2)))), ?_⟩
    have la : (refs as).length = rs.length := (List.length_map _).trans hR.len
    refine ⟨_, rfl, r, _, rfl, SqT.of ht, fun D hD => ?_⟩
    have sD := Same.new (o := .lst []) hD
    refine lc_it (walk_enumT (K := K) (a := r) (xs := refs as)) (fun i H6 => H6 D = some (.lst (nats ((List.range i).filter (homeB g rs x y)))) ∧ Same H H6) ⟨upd_same, sD⟩ (fun i H6 _ ⟨_, s'⟩ => SqT.of (s' _ _ ht)) ?_ ?_
    · rintro i v H6 H7 hi ⟨h6, s6⟩ ⟨q, x', y', rfl, hq, rfl, ex, ey⟩
      cases ex
      rw [la] at hi
      have ey : (refs as)[i]? = some y' := ey
      obtain ⟨a, ha⟩ : ∃ a, as[i]? = some a := ⟨_, List.getElem?_eq_getElem (by rw [hR.len]; exact hi)⟩
      have : (refs as)[i]? = some (V.ref a) := by
        show (as.map _)[i]? = _
        rw [List.getElem?_map, ha]
        rfl
      cases ey.symm.trans this
      obtain ⟨p, hp, hpa⟩ := hR.got ha
      have s7 := Same.new (o := .tup [V.int (i : Nat), V.ref a]) hq
      have sA := s6.trans s7
      refine ⟨q, _, rfl, SqT.of upd_same, rfl, _, _, rfl, _, _, rfl, rfl, rfl, ?_⟩
      have h7 := s7 _ _ h6
      have hl7 := sA _ _ hl
      have hp7 := sA _ _ hpa
      generalize upd H6 q (.tup [V.int (i : Nat), V.ref a]) = H7 at s7 sA h7 hl7 hp7
      have eb : homeB g rs x y i = (decide (x ∈ rnd g p.1 p.2) || decide (y ∈ rnd g p.1 p.2)) := by
        unfold homeB
        rw [getD_of hp]
      have fin : if homeB g rs x y i = true then (∃ acc, H7 D = some (.lst acc) ∧ acc.length < sizeLine ∧ ((upd H7 D (.lst (acc ++ [V.int (i : Nat)]))) D = some (.lst (nats ((List.range (i + 1)).filter (homeB g rs x y)))) ∧ Same H (upd H7 D (.lst (acc ++ [V.int (i : Nat)]))))) else (H7 D = some (.lst (nats ((List.range (i + 1)).filter (homeB g rs x y)))) ∧ Same H H7) := by
        refine ite2 (fun hb => ?_) (fun hb => ?_)
        · refine ⟨_, h7, small1000 ?_, ?_, fun b o eo => ?_⟩
          · rw [List.length_map]
            exact Nat.le_trans (List.length_filter_le _ _) (by rw [List.length_range]; omega)
          · rw [upd_same, List.range_succ, List.filter_append, nats_app]
            have : [i].filter (homeB g rs x y) = [i] := by rw [List.filter_cons, if_pos hb, List.filter_nil]
            rw [this]
            rfl
          · rw [upd_ne (ne_of_none eo hD)]
            exact sA _ _ eo
        · refine ⟨?_, sA⟩
          rw [h7, List.range_succ, List.filter_append]
          have : [i].filter (homeB g rs x y) = [] := by rw [List.filter_cons, if_neg hb, List.filter_nil]
          rw [this, List.append_nil]
      have tail : ∀ b : Bool, homeB g rs x y i = b → (if b = true then (∃ acc, H7 D = some (.lst acc) ∧ acc.length < sizeLine ∧ ((upd H7 D (.lst (acc ++ [V.int (i : Nat)]))) D = some (.lst (nats ((List.range (i + 1)).filter (homeB g rs x y)))) ∧ Same H (upd H7 D (.lst (acc ++ [V.int (i : Nat)]))))) else (H7 D = some (.lst (nats ((List.range (i + 1)).filter (homeB g rs x y)))) ∧ Same H H7)) := fun b e => by
        rw [← e]
        exact fin
      refine ⟨_, rfl, l, _, _, V.int (x : Nat), rfl, rfl, SqT.of hl7, at_of (j := 0) rfl rfl, _, rfl, a, _, rfl, .inr (SqT.of hp7), rfl, flat_nats _, ?_⟩
      rw [if_neg Bool.false_ne_true, inV_nats]
      refine ⟨_, rfl, ?_⟩
      by_cases hx : x ∈ rnd g p.1 p.2
      · rw [decide_eq_true hx]
        refine iteT ?_
        have := tail true (by rw [eb, decide_eq_true hx]; rfl)
        rw [if_pos rfl] at this
        obtain ⟨acc, h1, h2, h3⟩ := this
        exact iteT ⟨_, rfl, acc, h1, h2, h3⟩
      · rw [decide_eq_false hx]
        refine iteF ?_
        refine ⟨_, rfl, l, _, _, V.int (y : Nat), rfl, rfl, SqT.of hl7, at_of (j := 1) rfl rfl, _, rfl, a, _, rfl, .inr (SqT.of hp7), rfl, flat_nats _, ?_⟩
        rw [if_neg Bool.false_ne_true, inV_nats]
        refine ⟨_, rfl, ?_⟩
        by_cases hy : y ∈ rnd g p.1 p.2
        · rw [decide_eq_true hy]
          have := tail true (by rw [eb, decide_eq_true hy, Bool.or_true])
          rw [if_pos rfl] at this
          obtain ⟨acc, h1, h2, h3⟩ := this
          exact iteT ⟨_, rfl, acc, h1, h2, h3⟩
        · rw [decide_eq_false hy]
          have := tail false (by rw [eb, decide_eq_false hx, decide_eq_false hy]; rfl)
          rw [if_neg Bool.false_ne_true] at this
          exact iteF this
    · rintro H6 ⟨h6, s6⟩
      rw [la] at h6
      exact k _ D s6 h6
theorem ok_be {f : Addr} {fd : FuncData} (F : Fun K "_law_below" "_law_below" sBe f fd) (T : TB mg) : FnOk P w K mg base CX0 1 f fd ["some", "first"] spBe := by
  refine F.ok scBe (fun vs H Q E h => ?_) (fun cdv A outer s H vs Q E hr h => ?_)
  · obtain ⟨t, F, es, rfl, _⟩ := h
    rfl
  · obtain ⟨t, F, es, rfl, ht, hl, k⟩ := h
    have nd := scBe.nd
    refine ⟨_, pss_one (ps_ret (pe_tupleOf (by rfl) T.tuple (pe_lc (own := [("end", 2)]) (g := (gName 2)) (tt := (tTest (tOp (rI0 fun i j => .bl (decide (i < j))) (tVar 2) (tVar 1)))) (te := (tVar 2)) rfl nd (pi_tup (pv 0)) (blkOk_by (N := nBe) (sc := defScope sBe) (by decide +kernel)) (fun _ _ _ _ _ => pg_name (i := 2) nd rfl (Or.inl rfl)) (fun _ _ _ _ _ => pts_one (pt_cmpR op_lt (pv 2) (pv 1) (nomark _))) (fun _ _ _ _ _ => by exact (pv 2))))), ?_⟩
    refine ⟨_, rfl, t, rfl, ⟨_, SqT.of ht⟩, fun D hD => ?_⟩
    have sD := Same.new (o := .lst []) hD
    have ln : (nats es).length = es.length := List.length_map _
    refine lc_it (walk_tup (K := K) (a := t) (xs := nats es)) (fun i H6 => H6 D = some (.lst (nats ((es.take i).filter fun e => decide (e < F)))) ∧ Same H H6) ⟨upd_same, sD⟩ (fun i H6 _ ⟨_, s'⟩ => SqT.of (s' _ _ ht)) ?_ ?_
    · rintro i v H6 H7 hi ⟨h6, s6⟩ ⟨rfl, hv⟩
      rw [ln] at hi
      have hv : (nats es)[i]? = some v := hv
      obtain ⟨e, he⟩ : ∃ e, es[i]? = some e := ⟨_, List.getElem?_eq_getElem hi⟩
      have : (nats es)[i]? = some (V.int (e : Nat)) := by
        show (es.map _)[i]? = _
        rw [List.getElem?_map, he]
        rfl
      cases hv.symm.trans this
      refine ⟨rfl, _, rfl, _, rfl, _, _, rfl, rfl, _, rfl, ?_⟩
      have tk : (es.take (i + 1)).filter (fun e => decide (e < F)) = (es.take i).filter (fun e => decide (e < F)) ++ (if e < F then [e] else []) := by
        rw [List.take_succ, he, Option.toList_some, List.filter_append]
        congr 1
        by_cases q : e < F
        · rw [if_pos q]
          simp [q]
        · rw [if_neg q]
          simp [q]
      by_cases q : e < F
      · rw [if_pos q] at tk
        show if decide (((e : Nat) : Int) < ((F : Nat) : Int)) = true then _ else _
        rw [decide_eq_true (by omega : ((e : Nat) : Int) < ((F : Nat) : Int))]
        refine iteT ⟨_, rfl, _, h6, small1000 ?_, ?_, fun b o eo => ?_⟩
        · rw [List.length_map]
          exact Nat.le_trans (List.length_filter_le _ _) (by rw [List.length_take]; omega)
        · rw [upd_same, tk, nats_app]
          rfl
        · rw [upd_ne (ne_of_none eo hD)]
          exact s6 _ _ eo
      · rw [if_neg q, List.append_nil] at tk
        show if decide (((e : Nat) : Int) < ((F : Nat) : Int)) = true then _ else _
        rw [decide_eq_false (by omega : ¬ ((e : Nat) : Int) < ((F : Nat) : Int))]
        exact iteF ⟨by rw [h6, tk], s6⟩
    · rintro H6 ⟨h6, s6⟩
      rw [ln, List.take_length] at h6
      refine .inl ⟨D, _, rfl, SqL.of h6, fun u hu => k _ u (s6.trans (Same.new hu)) upd_same⟩
end
end One
end P_N1

section P_N2
set_option linter.all false
set_option maxRecDepth 100000
set_option maxHeartbeats 16000000
namespace One
open PySem PySem.Spec PyProof.Rows L2
/-! ### a crossing sewn out, or the way that is barred -/
abbrev sWo : Stmt := top 53
abbrev nWo : List Str := ["yard", "crossing", "way", "caught", "found", "e"]
theorem scWo : FnScope nWo ["yard", "crossing", "way"] (defScope sWo) := ⟨rfl, rfl, rfl, by decide +kernel, rfl, by decide +kernel, by decide +kernel⟩
/-- Barred, as this law knows it -/
structure BarC (K : PySem.W.Frag) (mg : Str → Option Value) (C6 : Addr) : Prop where
  name : mg "Barred" = some (.ref C6)
  xf : XfC K C6
  no : PySem.W.findIn K (.ref C6) "way" = some none
  exm : PySem.W.exmOne K (.ref C6) (.ref C6) = some true
def spWo : Sp := fun vs H Q _ => ∃ (y : Addr) (m c w : Nat) (ps : List (Nat × Nat)), vs = [.ref y, .int (c : Nat), .int (w : Nat)] ∧ YAt H y m ps ∧ 2 ≤ m ∧ m ≤ 40 ∧ c < m ∧ w < 3 ∧
  (BarW ps m c w → ∀ (H' : Hp) (t : Addr), Same H H' → H' t = some (.tup [.int (w : Nat)]) → Q (.ref t) H') ∧
  (¬ BarW ps m c w → ∀ (H' : Hp) (D z : Addr), Same H H' → H' D = some (.lst [.ref z]) → YAt H' z (m - 1) (leftOf (behindF (far ps) c w) c (4 * m)) → Q (.ref D) H')
theorem below_yes {i n : Nat} (h : i < n) : belowV (.int (i : Nat)) (n : Nat) = true := by
  show (decide (0 ≤ ((i : Nat) : Int)) && decide (((i : Nat) : Int) < ((n : Nat) : Int))) = true
  simp only [Bool.and_eq_true, decide_eq_true_eq]
  omega
theorem lines_asked {n : Nat} {ps : List (Nat × Nat)} (L : Lines n ps) (h : 0 < n) : Asked n ps := ⟨h, L.len, fun p m => ⟨L.lt _ (mem_ends.mpr ⟨p, m, .inl rfl⟩), L.lt _ (mem_ends.mpr ⟨p, m, .inr rfl⟩)⟩⟩
theorem lookup_one {f : Str} {v : V} : List.lookup f [(f, v)] = some v := by
  rw [List.lookup_cons_self]
/-- sewn out, at a crossing and a way that are there -/
theorem sewn_there {C5 C6 : Addr} {H : Hp} {E : XK} {Q : VK} {y : Addr} {m c v : Nat} {ps : List (Nat × Nat)} (hY : YAt H y m ps) (h2 : 2 ≤ m) (h40 : m ≤ 40) (hc : c < m) (hv : v < 3) (kb : BarW ps m c v → RWay C6 v E H)
    (kg : ¬ BarW ps m c v → ∀ (H' : Hp) (z : Addr), Same H H' → YAt H' z (m - 1) (leftOf (behindF (far ps) c v) c (4 * m)) → Q (.ref z) H') : spSewn C5 C6 [.ref y, .int (c : Nat), .int (v : Nat)] H Q E := by
  have Y := hY.1
  have I := far_inv Y.lines
  refine ⟨y, _, _, "int", "int", m, ps, rfl, .int _, .int _, hY, h40, fun z => ?_, fun _ c' w' e1 e2 hc' hw' => ?_⟩
  · exfalso
    rcases z with z | z | z
    · omega
    · rw [below_yes hc] at z
      cases z
    · have := below_yes hv
      have z : belowV (.int (v : Nat)) ((3 : Nat) : Int) = false := z
      rw [this] at z
      cases z
  · have e1 := V.int.inj e1
    have e2 := V.int.inj e2
    obtain rfl : c = c' := by omega
    obtain rfl : v = w' := by omega
    refine ⟨fun z => kb (.inl z), fun z => ?_⟩
    have O := open_of z
    have L' := left_lines I hc hv O
    refine ⟨behindF (far ps) c v, fun e he ho => ⟨2, (behind_is I hc hv O he ho).1⟩, lines_asked L' (by omega), fun wh H' t' as s ht hP => ?_, fun wh => kb (.inr wh)⟩
    have nb : ¬ BarW ps m c v := fun b => b.elim (fun q => by rw [z] at q; cases q) (fun q => q wh)
    exact kg nb H' t' s ⟨left_yard Y h2 hc hv nb, as, ht, hP⟩
theorem takes_len' {X : Cx} {W : WX} (tk : Takes X W) : Takes X fun cls d σ H => σ.length = X.N.length → W cls d σ H := fun u s' ⟨a, B, sI, pins, σ, H, cls, d, e, I, nb, up, sky, na, os, ag, w⟩ => tk u s' ⟨a, B, sI, pins, σ, H, cls, d, e, I, nb, up, sky, na, os, ag, w I.len⟩
theorem pe_dead {X : Cx} {e : Expr} : PE X e (fun _ _ _ => False) := ⟨fun _ _ _ _ _ _ h => h.elim⟩
section
variable {P : Program} {w : World} {K : PySem.W.Frag} {mg : Str → Option Value} {base : Heap} {C5 C6 : Addr}
theorem ok_wo {f fS : Addr} {fd dS : FuncData} (F : Fun K "_law_without" "_law_without" sWo f fd) (B : BarC K mg C6) (cS : Cal K mg "sewn_out" fS dS ["yard", "crossing", "way"]) (gS : FnOk P w K mg base (L2.CX P w) 7 fS dS ["yard", "crossing", "way"] (spSewn C5 C6)) : FnOk P w K mg base CX0 8 f fd ["yard", "crossing", "way"] spWo := by
  refine F.ok scWo (fun vs H Q E h => ?_) (fun cdv A outer s H vs Q E hr h => ?_)
  · obtain ⟨y, m, c, v, ps, rfl, _⟩ := h
    rfl
  · obtain ⟨y, m, c, v, ps, rfl, hY, h2, h40, hc, hv, kb, kg⟩ := h
    have nd := scWo.nd
    have hr7 : Room 7 _ := hr
    let cx : Cx := (cxOf CX0 P w K mg base nWo "_law_without" (defScope sWo) f cdv A outer s H E).nox
    have gl : ∀ {x : Str}, (defScope sWo).names.lookup x = some .globalImplicit → Gl cx x := fun h => h
    refine ⟨_, pss_cons (ps_par (i := 3) (j := 4) (by rfl) nd rfl rfl (by decide) rfl rfl (pa_cons pe_non (pa_cons (pe_lst pa_nil) pa_nil)) (by rfl))
      (pss_hold (X := cx) (i := 5) (j := 3) (c := .ref C6) (Wout := fun _ _ _ _ => False)
        (tb := fun W D σ H => ∃ Ech : XK, (∀ cls d σ' H', Ech cls d H' → σ'.length = 6 → W cls d σ' H') ∧ tSeq (tAsg (tLst (tCons (tCall (spSewn C5 C6) [] Ech (tCons (tVar 0) (tCons (tVar 1) (tCons (tVar 2) tNil)))) tNil)) (gName 4)) tNext D σ H)
        rfl rfl nd rfl rfl rfl rfl ⟨gl (by decide +kernel), by decide +kernel, .inl B.name⟩ LamX.takes0 (by decide +kernel) (by decide +kernel) (fun W pn xe tk _ => ?_)
        (pss_one (ps_ret (pe_ifExp (pt_cmpR op_isN (pv 3) pe_non (nomark _)) (pv 4) pe_dead)))
        (fun a oe cls d pn hz hf => pss_one (ps_ret (pe_ifExp (pt_cmpR op_isN (pv 3) pe_non (nomark _)) (pv 4) (pe_tup (pa_cons (pe_fld hz hf (pv 3)) pa_nil)))))), ?_⟩
    · exact ⟨fun pins s' σ H' D I ⟨Ech, hW, h3⟩ => (pss_one (ps_set (X := cx.tr pn xe) (i := 4) nd rfl (Or.inl rfl) (pe_lst (pa_cons (pe_call gS hr7 (gl (by decide +kernel)) cS.g cS.kp cS.b .nil (passes_call (takes_len' tk) (fun cls d σ H e => hW cls d σ H e)) (pa_cons (pv 0) (pa_cons (pv 1) (pa_cons (pv 2) pa_nil)))) pa_nil)))).run pins s' σ H' D I h3⟩
    · refine ⟨Nat.zero_le _, fun l0 hl0 => ?_⟩
      have s0 := Same.new (o := .lst []) hl0
      generalize upd H l0 (.lst []) = H0 at s0
      refine ⟨_, _, rfl, ?_⟩
      refine ⟨fun cls d H' => BarW ps m c v ∧ ∃ dd, cls = .ref C6 ∧ d = some dd ∧ Same H H' ∧ H' dd = some (.xd [("way", .int (v : Nat))]), fun cls d σ' H' he hl => ?_, ?_⟩
      · obtain ⟨b, dd, rfl, rfl, s1, hd⟩ := he
        refine ⟨true, B.exm, fun _ a ha => ?_, fun z => nomatch z⟩
        obtain ⟨t0, t1, t2, t3, t4, t5, rfl⟩ : ∃ t0 t1 t2 t3 t4 t5, σ' = [t0, t1, t2, t3, t4, t5] := by
          match σ', hl with
          | [t0, t1, t2, t3, t4, t5], _ => exact ⟨t0, t1, t2, t3, t4, t5, rfl⟩
        refine ⟨_, rfl, rfl, _, rfl, ?_⟩
        refine ⟨_, rfl, C6, dd, _, _, rfl, rfl, rfl, B.xf, B.no, hd, lookup_one, (by show 1 ≤ sizeLine; decide), fun p hp => ?_⟩
        exact kb b _ p (s1.trans (Same.new hp)) upd_same
      · refine ⟨_, rfl, _, rfl, _, rfl, ?_⟩
        unfold tNil
        refine sewn_there (hY.mono (sameT s0)) h2 h40 hc hv (fun b H' d s1 hd => ⟨b, d, rfl, rfl, s0.trans s1, hd⟩) (fun nb H' z s1 hz => ?_)
        refine ⟨(by show 1 ≤ sizeLine; decide), fun p hp => ?_⟩
        have s2 := Same.new (o := .lst [V.ref z]) hp
        refine ⟨_, rfl, rfl, _, rfl, ?_⟩
        exact ⟨_, rfl, kg nb _ p z (s0.trans (s1.trans s2)) upd_same (hz.mono (sameT s2))⟩
end
end One
end P_N2

section P_N2B
set_option linter.all false
set_option maxRecDepth 100000
set_option maxHeartbeats 4000000
namespace One
open PySem PySem.Spec PyProof.Rows L2
/-! ### rows of numbers as data -/
theorem ns_lay : ∀ rs : List Nat, PyData.canLayAll0 (rs.map fun x => PyData.int (x : Nat)) = true
  | [] => by simp [PyData.canLayAll0]
  | x :: r => by
    show (PyData.canLay0 (.int (x : Nat)) && PyData.canLayAll0 (r.map fun x => PyData.int (x : Nat))) = true
    rw [ns_lay r]
    rfl
theorem ns_depth : ∀ rs : List Nat, PyData.depthAll (rs.map fun x => PyData.int (x : Nat)) = 0
  | [] => rfl
  | x :: r => by
    show max (PyData.depth (.int (x : Nat))) (PyData.depthAll (r.map fun x => PyData.int (x : Nat))) = 0
    rw [ns_depth r]
    rfl
theorem nsD_depth (rs : List Nat) : (nsD rs).depth = 1 := by
  show PyData.depthAll _ + 1 = 1
  rw [ns_depth]
theorem nsD_lay (rs : List Nat) : (nsD rs).canLay0 = true := ns_lay rs
theorem nsD_shaped (rs : List Nat) : SeqAt.shaped (nsD rs) = true := by
  show ((nsD rs).canLay0 && decide ((nsD rs).depth ≤ 64)) = true
  rw [nsD_lay, nsD_depth]
  rfl
theorem ns_eqv : ∀ xs ys : List Nat, PyData.eqvAll (xs.map fun x => PyData.int (x : Nat)) (ys.map fun x => PyData.int (x : Nat)) = decide (xs = ys)
  | [], [] => by simp [PyData.eqvAll]
  | [], y :: ys => by simp [PyData.eqvAll]
  | x :: xs, [] => by simp [PyData.eqvAll]
  | x :: xs, y :: ys => by
    show PyData.eqvAll (.int (x : Nat) :: xs.map fun x => PyData.int (x : Nat)) (.int (y : Nat) :: ys.map fun x => PyData.int (x : Nat)) = _
    rw [PyData.eqvAll, ns_eqv xs ys, PyData.eqv]
    by_cases h : x = y
    · subst h
      by_cases k : xs = ys <;> simp [k]
    · have : ¬ ((x : Nat) : Int) = ((y : Nat) : Int) := by omega
      simp [h, this]
theorem nsD_eqv (xs ys : List Nat) : PyData.eqv (nsD xs) (nsD ys) = decide (xs = ys) := by
  unfold nsD
  rw [PyData.eqv]
  exact ns_eqv xs ys
theorem nL_shaped (xs : List Nat) : SeqAt.shaped (.list (xs.map fun x => PyData.int (x : Nat))) = true := by
  show (PyData.canLay0 (.list (xs.map fun x => PyData.int (x : Nat))) && decide (PyData.depth (.list (xs.map fun x => PyData.int (x : Nat))) ≤ 64)) = true
  rw [Bool.and_eq_true]
  refine ⟨by simp only [PyData.canLay0]; exact ns_lay xs, decide_eq_true ?_⟩
  show PyData.depthAll _ + 1 ≤ 64
  rw [ns_depth]
  decide
theorem nL_eqv (xs ys : List Nat) : PyData.eqv (.list (xs.map fun x => PyData.int (x : Nat))) (.list (ys.map fun x => PyData.int (x : Nat))) = decide (xs = ys) := by
  rw [PyData.eqv]
  exact ns_eqv xs ys
inductive NsAt (H : Hp) : List Addr → List (List Nat) → Prop
  | nil : NsAt H [] []
  | cons {a es as ess} : H a = some (.tup (nats es)) → NsAt H as ess → NsAt H (a :: as) (es :: ess)
theorem NsAt.mono {H H' : Hp} {as : List Addr} {ess : List (List Nat)} (h : NsAt H as ess) (k : ∀ b xs, H b = some (.tup xs) → H' b = some (.tup xs)) : NsAt H' as ess := by
  induction h with
  | nil => exact .nil
  | cons h1 _ ih => exact .cons (k _ _ h1) ih
theorem NsAt.snoc {H : Hp} {as : List Addr} {ess : List (List Nat)} (h : NsAt H as ess) {a : Addr} {es : List Nat} (ha : H a = some (.tup (nats es))) : NsAt H (as ++ [a]) (ess ++ [es]) := by
  induction h with
  | nil => exact .cons ha .nil
  | cons h1 _ ih => exact .cons h1 ih
theorem NsAt.len {H : Hp} {as : List Addr} {ess : List (List Nat)} (h : NsAt H as ess) : as.length = ess.length := by
  induction h with
  | nil => rfl
  | cons _ _ ih => simp [ih]
theorem RsAt.ns {f : Nat → Nat} {H : Hp} {as : List Addr} {rs : List (Nat × Nat)} (h : RsAt f H as rs) : NsAt H as (rs.map fun p => rnd f p.1 p.2) := by
  induction h with
  | nil => exact .nil
  | cons h1 _ ih => exact .cons h1 ih
def rowsD (ess : List (List Nat)) : List PyData := ess.map nsD
theorem NsAt.dp {K : PySem.W.Frag} {H : Hp} {as : List Addr} {ess : List (List Nat)} (h : NsAt H as ess) : DpAll K H (refs as) (rowsD ess) := by
  induction h with
  | nil => exact .nil
  | cons e _ ih => exact .cons (dp_nsD e) ih
theorem rows_lay : ∀ ess, PyData.canLayAll0 (rowsD ess) = true
  | [] => by simp [rowsD, PyData.canLayAll0]
  | p :: rs => by
    show (PyData.canLay0 (nsD _) && PyData.canLayAll0 (rowsD rs)) = true
    rw [nsD_lay, rows_lay rs]
    rfl
theorem rows_depth : ∀ ess, PyData.depthAll (rowsD ess) ≤ 1
  | [] => by simp [rowsD, PyData.depthAll]
  | p :: rs => by
    show max (nsD _).depth (PyData.depthAll (rowsD rs)) ≤ 1
    rw [nsD_depth]
    exact Nat.max_le.mpr ⟨Nat.le_refl 1, rows_depth rs⟩
theorem rows_shaped (ess : List (List Nat)) : SeqAt.shaped (.list (rowsD ess)) = true := by
  have h1 := rows_depth ess
  show (PyData.canLay0 (.list (rowsD ess)) && decide (PyData.depth (.list (rowsD ess)) ≤ 64)) = true
  rw [Bool.and_eq_true]
  refine ⟨by simp only [PyData.canLay0]; exact rows_lay ess, decide_eq_true ?_⟩
  show PyData.depthAll _ + 1 ≤ 64
  omega
theorem rows_refl (ess : List (List Nat)) : PyData.eqv (.list (rowsD ess)) (.list (rowsD ess)) = true := by
  rw [PyData.eqv]
  exact SeqAt.eqvAll_refl _ (rows_lay ess)
end One
end P_N2B

section P_N3
set_option linter.all false
set_option maxRecDepth 100000
set_option maxHeartbeats 16000000
namespace One
open PySem PySem.Spec PyProof.Rows L2
/-! ### a crossing put across -/
abbrev sAc : Stmt := top 52
abbrev nAc : List Str := ["state", "yard", "setting", "first", "one", "other", "more", "before", "behind", "some", "homes", "due", "way"]
theorem scAc : FnScope nAc ["state", "yard", "setting"] (defScope sAc) := ⟨rfl, rfl, rfl, by decide +kernel, rfl, by decide +kernel, by decide +kernel⟩
theorem put_ok {C0 C5 C7 : Addr} {H : Hp} {E : XK} {Q : VK} {y : Addr} {n i j : Nat} {ps : List (Nat × Nat)} {a b : Nat × Nat} (hY : YAt H y n ps) (hn : n < 40) (ha : ps[i]? = some a) (hb : ps[j]? = some b)
    (hq : ∀ (H' : Hp) (t' : Addr) (T : List (Nat × Nat)), Same H H' → YAt H' t' (n + 1) T → T.Perm (putOn n ps i j a b) → Q (.ref t') H') : spPut C0 C5 C7 [.ref y, .int (i : Nat), .int (j : Nat)] H Q E := by
  have l1 := (List.getElem?_eq_some_iff.mp ha).1
  have l2 := (List.getElem?_eq_some_iff.mp hb).1
  rw [hY.1.lines.len] at l1 l2
  refine ⟨y, _, _, "int", "int", rfl, .int _, .int _, .inr ⟨n, ps, hY, by omega, fun z => absurd z (by omega), fun _ z => ?_, fun _ i' j' a' b' e1 e2 ha' hb' => ?_⟩⟩
  · rw [below_yes l1, below_yes l2] at z
    cases z
  · have e1 := V.int.inj e1
    have e2 := V.int.inj e2
    obtain rfl : i = i' := by omega
    obtain rfl : j = j' := by omega
    cases ha.symm.trans ha'
    cases hb.symm.trans hb'
    exact fun H' t' as T s h1 h2 h3 h4 => hq H' t' T s ⟨put_yard hY.1 ha hb h3 h4, as, h1, h2⟩ h3
def spAc : Sp := fun vs H Q _ => ∃ (p a l y S : Addr) (n m : Nat) (ps : List (Nat × Nat)) (ws : List Nat), vs = [.ref p, .ref y, .ref S] ∧ ML H p a l n ∧ n ≤ 800000 ∧ YAt H y m ps ∧ m ≤ 30 ∧ SetAt H S m ws ∧
  ∀ H', ML H' p a l (n + 3) → ExtL p l H H' → Q (.bl true) H'
theorem ExtL.tup {p c l : Addr} {H H' : Hp} {n : Nat} (M : ML H p c l n) (e : ExtL p l H H') : ∀ b xs, H b = some (.tup xs) → H' b = some (.tup xs) := fun b xs h => by
  obtain ⟨_, _, _, h1, _, h3, _⟩ := M.ex
  exact e b _ (ne_of h h1 (by intro z; cases z)) (ne_of h h3 (by intro z; cases z)) h
theorem home_one {ps : List (Nat × Nat)} {ws : List Nat} {m : Nat} {rs : List (Nat × Nat)} {q : Nat × Nat} (L : Lines m ps) (ok : Ok3 m ws) (R : Rounds (far ps) (wayL ws) m rs) (hq : q ∈ ps) :
    ∃ (k : Nat) (p : Nat × Nat), rs[k]? = some p ∧ On (far ps) (wayL ws) p q.1 ∧ (List.range rs.length).filter (homeB (nextE (far ps) (wayL ws)) rs q.1 q.2) = [k] := by
  have I := far_inv L
  have l1 := L.lt _ (mem_ends.mpr ⟨q, hq, .inl rfl⟩)
  have f1 := (far_of L.nd hq).1
  obtain ⟨p, hp, h⟩ := R.all q.1 l1
  obtain ⟨k, hk, ek⟩ := List.mem_iff_getElem.mp hp
  have ek' : rs[k]? = some p := by rw [List.getElem?_eq_getElem hk, ek]
  refine ⟨k, p, ek', h, List.perm_singleton.mp ((List.perm_ext_iff_of_nodup (List.nodup_range.filter _) (by simp)).mpr fun i => ?_)⟩
  have hb : ∀ {i : Nat} {r : Nat × Nat}, rs[i]? = some r → (homeB (nextE (far ps) (wayL ws)) rs q.1 q.2 i = true ↔ On (far ps) (wayL ws) r q.1) := fun {i r} e => by
    unfold homeB On
    rw [getD_of e, f1, Bool.or_eq_true, decide_eq_true_iff, decide_eq_true_iff]
  rw [List.mem_filter, List.mem_range, List.mem_singleton]
  constructor
  · rintro ⟨hi, hh⟩
    have ei := List.getElem?_eq_getElem hi
    have := On.one I R (List.getElem_mem hi) hp l1 ((hb ei).mp hh) h
    rw [this] at ei
    exact (List.getElem?_inj hi (rounds_nodup R)).mp (ei.trans ek'.symm)
  · rintro rfl
    exact ⟨hk, (hb ek').mpr h⟩
section
variable {P : Program} {w : World} {K : PySem.W.Frag} {mg : Str → Option Value} {base : Heap} {C0 CS C5 C7 : Addr}
theorem ok_ac {f fD fP fR fB fH fM : Addr} {fd dD dP dR dB dH dM : FuncData} (F : Fun K "_law_across_right" "_law_across_right" sAc f fd) (T : TB mg) (cD : Cal K mg "_law_draw" fD dD ["state", "many"]) (gD : FnOk P w K mg base CX0 2 fD dD ["state", "many"] spDR)
    (cP : Cal K mg "put_across" fP dP ["yard", "line", "other"]) (gP : FnOk P w K mg base (L2.CX P w) 7 fP dP ["yard", "line", "other"] (spPut C0 C5 C7)) (cR : Cal K mg "rounds_of" fR dR ["yard", "setting"]) (gR : FnOk P w K mg base (L2.CX P w) 8 fR dR ["yard", "setting"] (spRO CS))
    (cB : Cal K mg "_law_below" fB dB ["some", "first"]) (gB : FnOk P w K mg base CX0 1 fB dB ["some", "first"] spBe) (cH : Cal K mg "_law_home" fH dH ["told", "line"]) (gH : FnOk P w K mg base CX0 1 fH dH ["told", "line"] spHo)
    (cM : Cal K mg "many_rounds" fM dM ["yard", "setting"]) (gM : FnOk P w K mg base (L2.CX P w) 9 fM dM ["yard", "setting"] spMR) : FnOk P w K mg base CX0 10 f fd ["state", "yard", "setting"] spAc := by
  refine F.ok scAc (fun vs H Q E h => ?_) (fun cdv A outer s H vs Q E hr h => ?_)
  · obtain ⟨p, a, l, y, S, n, m, ps, ws, rfl, _⟩ := h
    rfl
  · obtain ⟨p, a, l, y, S, n, m, ps, ws, rfl, M, hn, hY, h30, hS, k⟩ := h
    have nd := scAc.nd
    have hu : (A.deeper (envOfC "_law_across_right" (defScope sAc) s.heap.objs.size f cdv)).units + 64 < cLine := hr.units
    have rm : ∀ {j : Nat}, j ≤ 9 → Room j (A.deeper (envOfC "_law_across_right" (defScope sAc) s.heap.objs.size f cdv)) := fun h => hr.mono h
    refine ⟨_, pss_cons (ps_set (i := 3) nd rfl (Or.inr rfl) (pe_op op_mul pe_int (pe_callB call_len_seq (by rfl) T.len PySem.boot_len (pa_cons (pv 2) pa_nil))))
      (pss_cons (ps_par (i := 4) (j := 5) (by rfl) nd rfl rfl (by decide) rfl rfl (pa_cons (pe_call gD (rm (by decide)) rfl cD.g cD.kp cD.b .nil pass0 (pa_cons (pv 0) (pa_cons (pe_callB call_len_seq (by rfl) T.len PySem.boot_len (pa_cons (pv 1) pa_nil)) pa_nil))) (pa_cons (pe_call gD (rm (by decide)) rfl cD.g cD.kp cD.b .nil pass0 (pa_cons (pv 0) (pa_cons (pe_callB call_len_seq (by rfl) T.len PySem.boot_len (pa_cons (pv 1) pa_nil)) pa_nil))) pa_nil)) (by rfl))
      (C8.pss_cut (ps_set (i := 5) nd rfl (Or.inl rfl) (pe_ifExp (pt_cmpR op_eq (pe_call gD (rm (by decide)) rfl cD.g cD.kp cD.b .nil pass0 (pa_cons (pv 0) (pa_cons pe_int pa_nil))) pe_int (nomark _)) (pv 4) (pv 5)))
      (pss_cons (ps_asg (pe_tup (pa_cons (pe_call gP (rm (by decide)) rfl cP.g cP.kp cP.b .nil passL (pa_cons (pv 1) (pa_cons (pv 4) (pa_cons (pv 5) pa_nil)))) (pa_cons (pe_call gR (rm (by decide)) rfl cR.g cR.kp cR.b .nil passL (pa_cons (pv 1) (pa_cons (pv 2) pa_nil))) pa_nil))) (pg_tup rfl (pgs_cons (pg_name (i := 6) nd rfl (Or.inr rfl)) (pgs_cons (pg_name (i := 7) nd rfl (Or.inl rfl)) pgs_nil))))
      (C8.pss_cut (ps_set (i := 8) nd rfl (Or.inl rfl) (pe_call gR (rm (by decide)) rfl cR.g cR.kp cR.b .nil passL (pa_cons (pv 6) (pa_cons (pe_op op_catA (pv 2) (pe_tup (pa_cons pe_int pa_nil))) pa_nil))))
      (pss_cons (ps_if (pt_cmpR (op_neD (by exact hu)) (pe_lc (own := [("some", 9)]) (g := (gName 9)) (tt := tYes) (te := (tCall spBe [] E0 (tCons (tVar 9) (tCons (tVar 3) tNil)))) rfl nd (pi_tup (pv 8)) (blkOk_by (N := nAc) (sc := defScope sAc) (by decide +kernel)) (fun _ _ _ _ _ => pg_name (i := 9) nd rfl (Or.inl rfl)) (fun _ _ _ _ _ => pts_nil) (fun _ _ _ _ _ => by exact (pe_call gB (rm (by decide)) rfl cB.g cB.kp cB.b .nil pass0 (pa_cons (pv 9) (pa_cons (pv 3) pa_nil))))) (pe_callTy call_list_of (by rfl) T.list (by decide +kernel) (pa_cons (pv 7) pa_nil) (by decide)) (nomark _)) (pss_one (ps_ret pe_bl)) pss_nil)
      (C8.pss_cut (ps_set (i := 10) nd rfl (Or.inl rfl) (pe_lst (pa_cons (pe_call gH (rm (by decide)) rfl cH.g cH.kp cH.b .nil pass0 (pa_cons (pv 7) (pa_cons (pe_ix ix_tup (pv 1) (pv 4) (fun _ _ => rfl)) pa_nil))) (pa_cons (pe_call gH (rm (by decide)) rfl cH.g cH.kp cH.b .nil pass0 (pa_cons (pv 7) (pa_cons (pe_ix ix_tup (pv 1) (pv 5) (fun _ _ => rfl)) pa_nil))) pa_nil))))
      (C8.pss_cut (ps_set (i := 11) nd rfl (Or.inl rfl) (pe_ifExp (pt_cmpR (op_neD (by exact hu)) (pe_ix ix_list (pv 10) pe_int (fun _ _ => rfl)) (pe_ix ix_list (pv 10) pe_int (fun _ _ => rfl)) (nomark _)) (pe_op op_rep (pe_lst (pa_cons (pe_op op_sub (pe_callB call_len_seq (by rfl) T.len PySem.boot_len (pa_cons (pv 7) pa_nil)) pe_int) pa_nil)) pe_int) (pe_lst (pa_cons (pe_callB call_len_seq (by rfl) T.len PySem.boot_len (pa_cons (pv 7) pa_nil)) (pa_cons (pe_op op_add (pe_callB call_len_seq (by rfl) T.len PySem.boot_len (pa_cons (pv 7) pa_nil)) pe_int) pa_nil)))))
      (pss_one (ps_ret (pe_cmpR (op_eqD (by exact hu)) (pe_callB cr_sorted (by rfl) T.sorted boot_sorted (pa_cons (pe_lc (own := [("way", 12)]) (g := (gName 12)) (tt := tYes) (te := (tCall spMR [] E0 (tCons (tVar 6) (tCons (tOp (rCatA K) (tVar 2) (tTup (tCons (tVar 12) tNil))) tNil)))) rfl nd (pi_tup (pe_tup (pa_cons pe_int (pa_cons pe_int pa_nil)))) (blkOk_by (N := nAc) (sc := defScope sAc) (by decide +kernel)) (fun _ _ _ _ _ => pg_name (i := 12) nd rfl (Or.inl rfl)) (fun _ _ _ _ _ => pts_nil) (fun _ _ _ _ _ => by exact (pe_call gM (rm (by decide)) rfl cM.g cM.kp cM.b .nil passL (pa_cons (pv 6) (pa_cons (pe_op op_catA (pv 2) (pe_tup (pa_cons (pv 12) pa_nil))) pa_nil))))) pa_nil)) (pv 11) (nomark _))))))))))), ?_⟩
    have Y := hY.1
    have hpos := Y.pos
    have I := far_inv Y.lines
    obtain ⟨as, hy, hP⟩ := hY.2
    have la : (refs as).length = 2 * m := by rw [List.length_map, hP.len, Y.lines.len]
    have ls : (nats ws).length = m := (List.length_map _).trans hS.len
    -- which lines
    refine ⟨_, rfl, S, _, rfl, .inr (SqT.of hS.here), _, _, rfl, rfl, .inl ⟨by decide, by decide⟩, ?_⟩
    rw [ls]
    refine ⟨_, rfl, _, rfl, y, _, rfl, .inr (SqT.of hy), p, a, l, n, _, rfl, M, by omega, by rw [la]; omega, by rw [la]; omega, fun H1 i M1 e1 i0 i1 => ?_⟩
    have hy1 := e1.tup M _ _ hy
    refine ⟨_, rfl, _, rfl, y, _, rfl, .inr (SqT.of hy1), p, a, l, _, _, rfl, M1, by omega, by rw [la]; omega, by rw [la]; omega, fun H2 j M2 e2 j0 j1 => ⟨_, _, rfl, ?_⟩⟩
    rw [la] at i1 j1
    obtain ⟨i', rfl⟩ : ∃ i' : Nat, i = (i' : Nat) := ⟨i.toNat, by omega⟩
    obtain ⟨j', rfl⟩ : ∃ j' : Nat, j = (j' : Nat) := ⟨j.toNat, by omega⟩
    refine ⟨fun σ H' => ∃ i j : Nat, i < 2 * m ∧ j < 2 * m ∧ σ = [some (.ref p), some (.ref y), some (.ref S), some (.int (4 * m : Nat)), some (.int (i : Nat)), some (.int (j : Nat)), none, none, none, none, none, none, none] ∧ ML H' p a l (n + 3) ∧ ExtL p l H H', ?_, ?_⟩
    · refine ⟨_, rfl, p, a, l, _, 4, rfl, M2, by omega, by decide, by decide, fun H3 q M3 e3 _ _ => ⟨rfl, _, rfl, ?_⟩⟩
      have E3 := (e1.trans e2).trans e3
      refine ite2 (fun _ => ?_) (fun _ => ?_)
      · exact ⟨_, rfl, i', i', by omega, by omega, rfl, M3, E3⟩
      · exact ⟨_, rfl, i', j', by omega, by omega, rfl, M3, E3⟩
    rintro σ0 H0 ⟨i, j, hi, hj, rfl, M0, e0⟩
    have hY0 := hY.mono (e0.tup M)
    have hS0 := hS.mono (e0.tup M)
    obtain ⟨ln, hln⟩ : ∃ q, ps[i]? = some q := ⟨_, List.getElem?_eq_getElem (by rw [Y.lines.len]; exact hi)⟩
    obtain ⟨lo, hlo⟩ : ∃ q, ps[j]? = some q := ⟨_, List.getElem?_eq_getElem (by rw [Y.lines.len]; exact hj)⟩
    refine ⟨_, rfl, _, rfl, _, rfl, ?_⟩
    try unfold tNil
    refine put_ok hY0 (by omega) hln hlo fun H4 t T s4 hT hp => ?_
    have hS4 := hS0.mono (sameT s4)
    have hY4 := hY0.mono (sameT s4)
    refine ⟨_, rfl, _, rfl, y, .ref S, "tuple", m, ps, rfl, hY4, by omega, .tup hS4.here, look_good hS4 fun H5 s5 => ⟨S, ws, rfl, hS4.mono (sameT s5), fun H6 r as1 rs s6 hr6 hR6 R => ?_⟩⟩
    have hT6 := hT.mono (sameT (s5.trans s6))
    have hS6 := hS4.mono (sameT (s5.trans s6))
    refine ⟨two_le, fun u hu' => ⟨u, _, rfl, SqT.of upd_same, rfl, _, _, rfl, _, _, rfl, rfl, ?_⟩⟩
    have s7 := Same.new (o := .tup [V.ref t, V.ref r]) hu'
    have hT7 := hT6.mono (sameT s7)
    have hS7 := hS6.mono (sameT s7)
    have hr7 := s7 _ _ hr6
    have hR7 := hR6.mono (sameT s7)
    have hY7 := hY4.mono (sameT ((s5.trans s6).trans s7))
    have s07 := ((s4.trans s5).trans s6).trans s7
    have M7 := M0.keep s07
    have e7 := e0.trans (ExtL.same s07)
    generalize upd H6 u (.tup [V.ref t, V.ref r]) = H7 at s7 hT7 hS7 hr7 hR7 hY7 s07 M7 e7
    -- the setting with one more
    have more : ∀ {H8 : Hp} {v : Nat} {Q' : VK}, v < 3 → Same H7 H8 → (∀ (H9 : Hp) (c : Addr), Same H8 H9 → SetAt H9 c (m + 1) (ws ++ [v]) → Q' (.ref c) H9) → (tOp (rCatA K) (fun σ H Q => Q (V.ref S) H) (tTup (fun σ H Q => Q [V.int (v : Nat)] H))) ([] : L2.St) H8 Q' := fun {H8 v Q'} hv s8 q => by
      refine ⟨(by show 1 ≤ sizeLine; decide), fun b2 hb2 => ?_⟩
      have z := Same.new (o := .tup [V.int (v : Nat)]) hb2
      refine rd_catA (z _ _ (s8 _ _ hS7.here)) upd_same (Nat.le_trans (m := 100) (by rw [ls]; show m + 1 ≤ 100; omega) (by decide)) fun H9 c s9 h9 => q H9 c (z.trans s9) ⟨by rw [List.length_append, hS.len]; rfl, fun x hx => ?_, by rw [h9, nats_app]; rfl⟩
      exact (app_ok hS.ok hv).lt x hx
    refine ⟨fun σ H' => ∃ (b : Addr) (as2 : List Addr) (rs2 : List (Nat × Nat)), σ = [some (.ref p), some (.ref y), some (.ref S), some (.int (4 * m : Nat)), some (.int (i : Nat)), some (.int (j : Nat)), some (.ref t), some (.ref r), some (.ref b), none, none, none, none] ∧ Same H7 H' ∧ H' b = some (.tup (refs as2)) ∧ RsAt (nextE (far T) (wayL (ws ++ [1]))) H' as2 rs2 ∧ Rounds (far T) (wayL (ws ++ [1])) (m + 1) rs2, ?_, ?_⟩
    · refine ⟨_, rfl, _, rfl, ?_⟩
      refine more (v := 1) (by decide) (Same.refl _) fun H8 c s8 hc => ?_
      refine ⟨t, .ref c, "tuple", m + 1, T, rfl, hT7.mono (sameT s8), by omega, .tup hc.here, look_good hc fun H9 s9 => ⟨c, _, rfl, hc.mono (sameT s9), fun HA b as2 rs2 sA hbA hRA RA => ?_⟩⟩
      exact ⟨b, as2, rs2, rfl, (s8.trans s9).trans sA, hbA, hRA, RA⟩
    rintro σ1 H8 ⟨b, as2, rs2, rfl, s8, hb, hRb, Rb⟩
    have hr8 := s8 _ _ hr7
    have hR8 := hR7.mono (sameT s8)
    have hY8 := hY7.mono (sameT s8)
    obtain ⟨b1, b2⟩ := rounds_small (far_inv hT.1.lines) (app_ok hS.ok (v := 1) (by decide)).ways Rb
    have lb : (refs as2).length = rs2.length := (List.length_map _).trans hRb.len
    refine ⟨_, rfl, b, rfl, ⟨_, SqT.of hb⟩, fun D hD => ?_⟩
    have sD := Same.new (o := .lst []) hD
    refine lc_it (walk_tup (K := K) (a := b) (xs := refs as2)) (fun q H' => ∃ cs : List Addr, H' D = some (.lst (refs cs)) ∧ NsAt H' cs ((rs2.take q).map fun e => (rnd (nextE (far T) (wayL (ws ++ [1]))) e.1 e.2).filter fun x => decide (x < 4 * m)) ∧ Same H8 H') ⟨[], upd_same, .nil, sD⟩ (fun q H' _ ⟨_, _, _, s'⟩ => SqT.of (s' _ _ hb)) ?_ ?_
    · rintro q v H9 H10 hq ⟨cs, h9, n9, s9⟩ ⟨rfl, hv⟩
      rw [lb] at hq
      have hv : (refs as2)[q]? = some v := hv
      obtain ⟨c, hc⟩ : ∃ c, as2[q]? = some c := ⟨_, List.getElem?_eq_getElem (by rw [hRb.len]; exact hq)⟩
      have : (refs as2)[q]? = some (V.ref c) := by
        show (as2.map _)[q]? = _
        rw [List.getElem?_map, hc]
        rfl
      cases hv.symm.trans this
      obtain ⟨e, he, hce⟩ := hRb.got hc
      refine ⟨rfl, yes ⟨_, rfl, _, rfl, c, 4 * m, _, rfl, s9 _ _ hce, by rw [rnd_len]; have := b2 e (List.mem_of_getElem? he); omega, fun H11 u2 s11 hu2 => ?_⟩⟩
      have h11 := s11 _ _ h9
      have cl := n9.len
      rw [List.length_map, List.length_take] at cl
      refine ⟨_, h11, small1000 (by rw [List.length_map]; omega), cs ++ [u2], ?_, ?_, fun b' o eo => ?_⟩
      · rw [upd_same]
        show some (HO.lst (List.map V.ref cs ++ [V.ref u2])) = some (HO.lst (List.map V.ref (cs ++ [u2])))
        rw [List.map_append]
        rfl
      · rw [List.take_succ, he, Option.toList_some, List.map_append]
        exact ((n9.mono (sameT s11)).snoc hu2).mono fun b' xs hb' => by rw [upd_ne (ne_of hb' h11 (by intro z; cases z))]; exact hb'
      · rw [upd_ne (ne_of_none eo hD)]
        exact s11 _ _ (s9 _ _ eo)
    rintro H9 ⟨cs, h9, n9, s9⟩
    rw [lb, List.take_length] at n9
    obtain ⟨S', O'⟩ := across_sewn Y (by omega) hln hlo hp hT.1 hS.ok
    have eR := across_rounds S' O' Rb R
    have eF : (rs2.map fun e => (rnd (nextE (far T) (wayL (ws ++ [1]))) e.1 e.2).filter fun x => decide (x < 4 * m)) = rs.map fun p => rnd (nextE (far ps) (wayL ws)) p.1 p.2 := by
      rw [← eR]
      refine List.map_congr_left fun e he => List.filter_congr fun x hx => ?_
      have xl : x < 4 * (m + 1) := rnd_lt S'.I S'.hW (Rb.per e he).1 hx
      unfold outB
      exact decide_eq_decide.mpr (by omega)
    rw [eF] at n9
    refine ⟨_, rfl, r, _, rfl, .inr (SqT.of (s9 _ _ hr8)), fun l2 hl2 => ?_⟩
    have sA := Same.new (o := .lst (refs as1)) hl2
    refine ⟨_, _, .lst (SqL.of (sA _ _ h9)) (n9.mono (sameT sA)).dp, .lst (SqL.of upd_same) ((hR8.ns.mono (sameT s9)).mono (sameT sA)).dp, rows_shaped _, rows_shaped _, ?_⟩
    rw [rows_refl]
    refine ⟨_, rfl, iteF ?_⟩
    have s89 := s9.trans sA
    generalize upd H9 l2 (.lst (refs as1)) = HA at sA s89
    have s8A := s8.trans s89
    have hrA := s89 _ _ hr8
    have hRA := hR8.mono (sameT s89)
    have hYA := hY8.mono (sameT s89)
    obtain ⟨asA, hyA, hPA⟩ := hYA.2
    obtain ⟨k1, k2⟩ := rounds_small I hS.ok.ways R
    have lineA : ∀ {H' : Hp} {i : Nat} {q : Nat × Nat} {Q' : VK}, Same HA H' → ps[i]? = some q → (∀ c, H' c = some (.tup [.int (q.1 : Nat), .int (q.2 : Nat)]) → Q' (.ref c) H') → rIxT K (.ref y) (.int (i : Nat)) H' Q' := fun {H' i q Q'} s' hq g => by
      obtain ⟨c, hc, hq'⟩ := hPA.get hq
      exact ⟨y, _, _, .ref c, rfl, rfl, SqT.of (s' _ _ hyA), at_of (j := i) rfl (by show (asA.map V.ref)[i]? = _; rw [List.getElem?_map, hc]; rfl), g c (s' _ _ hq')⟩
    refine ⟨fun σ H' => ∃ (hh d1 d2 : Addr) (v9 : Option V), σ = [some (.ref p), some (.ref y), some (.ref S), some (.int (4 * m : Nat)), some (.int (i : Nat)), some (.int (j : Nat)), some (.ref t), some (.ref r), some (.ref b), v9, some (.ref hh), none, none] ∧ Same HA H' ∧ H' hh = some (.lst [.ref d1, .ref d2]) ∧
      H' d1 = some (.lst (nats ((List.range rs.length).filter (homeB (nextE (far ps) (wayL ws)) rs ln.1 ln.2)))) ∧ H' d2 = some (.lst (nats ((List.range rs.length).filter (homeB (nextE (far ps) (wayL ws)) rs lo.1 lo.2)))), ?_, ?_⟩
    · refine ⟨_, rfl, _, rfl, _, rfl, ?_⟩
      refine lineA (Same.refl _) hln fun c hc => ?_
      refine ⟨r, c, as1, _, rs, ln.1, ln.2, rfl, hrA, hRA, by omega, hc, fun HB d1 sB hd1 => ?_⟩
      refine ⟨_, rfl, _, rfl, _, rfl, ?_⟩
      refine lineA sB hlo fun c2 hc2 => ?_
      refine ⟨r, c2, as1, _, rs, lo.1, lo.2, rfl, sB _ _ hrA, hRA.mono (sameT sB), by omega, hc2, fun HC d2 sC hd2 => ?_⟩
      refine ⟨two_le, fun hh hhh => ?_⟩
      have sD := Same.new (o := .lst [V.ref d1, V.ref d2]) hhh
      exact ⟨hh, d1, d2, _, rfl, (sB.trans sC).trans sD, upd_same, sD _ _ (sC _ _ hd1), sD _ _ hd2⟩
    rintro σ2 HB ⟨hh, d1, d2, v9, rfl, sB, hhB, hd1, hd2⟩
    obtain ⟨k1', p1, hk1, on1, ef1⟩ := home_one Y.lines hS.ok R (List.mem_of_getElem? hln)
    obtain ⟨k2', p2, hk2, on2, ef2⟩ := home_one Y.lines hS.ok R (List.mem_of_getElem? hlo)
    have cn := across_counts Y (by omega) hln hlo hp hT.1 hS.ok R (List.mem_of_getElem? hk1) (List.mem_of_getElem? hk2) on1 on2
    have eqk : k1' = k2' ↔ p1 = p2 := by
      constructor
      · intro e
        rw [e, hk2] at hk1
        exact (Option.some.inj hk1).symm
      · intro e
        rw [← e] at hk2
        exact (List.getElem?_inj (List.getElem?_eq_some_iff.mp hk1).1 (rounds_nodup R)).mp (hk1.trans hk2.symm)
    have pos1 : 0 < rs.length := List.length_pos_of_mem (List.mem_of_getElem? hk1)
    rw [ef1] at hd1
    rw [ef2] at hd2
    have lr : (refs as1).length = rs.length := (List.length_map _).trans hRA.len
    have hrB := sB _ _ hrA
    refine ⟨fun σ H' => ∃ (du : Addr), σ = [some (.ref p), some (.ref y), some (.ref S), some (.int (4 * m : Nat)), some (.int (i : Nat)), some (.int (j : Nat)), some (.ref t), some (.ref r), some (.ref b), v9, some (.ref hh), some (.ref du), none] ∧ Same HB H' ∧
      H' du = some (.lst (nats (if p1 = p2 then [rs.length, rs.length + 1] else [rs.length - 1, rs.length - 1]))), ?_, ?_⟩
    · refine ⟨_, rfl, hh, _, _, _, rfl, rfl, SqL.of hhB, at_of (j := 0) rfl rfl, _, rfl, hh, _, _, _, rfl, rfl, SqL.of hhB, at_of (j := 1) rfl rfl, _, _, .lst (SqL.of hd1) (dp_ns _), .lst (SqL.of hd2) (dp_ns _), nL_shaped _, nL_shaped _, ?_⟩
      rw [nL_eqv]
      refine ⟨_, rfl, ?_⟩
      by_cases e : k1' = k2'
      · have ep := eqk.mp e
        rw [decide_eq_true (by rw [e] : [k1'] = [k2'])]
        refine iteF ?_
        refine ⟨_, rfl, r, _, rfl, .inr (SqT.of hrB), _, rfl, r, _, rfl, .inr (SqT.of hrB), _, _, rfl, rfl, two_le, fun du hdu => ⟨du, rfl, Same.new hdu, ?_⟩⟩
        rw [upd_same, if_pos ep, lr]
        rfl
      · have ep := fun z => e (eqk.mpr z)
        rw [decide_eq_false (by intro z; exact e (List.cons.inj z).1 : ¬ [k1'] = [k2'])]
        refine iteT ?_
        refine ⟨_, rfl, r, _, rfl, .inr (SqT.of hrB), _, _, rfl, rfl, (by show 1 ≤ sizeLine; decide), fun l3 hl3 => ⟨l3, 2, _, rfl, rfl, upd_same, by decide, by decide, (by show 2 ≤ sizeLine; decide), fun du hdu => ⟨du, rfl, (Same.new hl3).trans (Same.new hdu), ?_⟩⟩⟩
        rw [upd_same, if_neg ep, lr]
        show some (HO.lst [V.int ((rs.length : Int) - 1), V.int ((rs.length : Int) - 1)]) = some (HO.lst [V.int ((rs.length - 1 : Nat) : Int), V.int ((rs.length - 1 : Nat) : Int)])
        rw [show ((rs.length - 1 : Nat) : Int) = (rs.length : Int) - 1 by omega]
    rintro σ3 HC ⟨du, rfl, sC, hdu⟩
    have s7C := s8.trans (s89.trans (sB.trans sC))
    have hTC := hT7.mono (sameT s7C)
    refine ⟨two_le, fun u2 hu2 => ⟨u2, rfl, ⟨_, SqT.of upd_same⟩, fun D hD => ?_⟩⟩
    have sD0 := Same.new (o := .tup [V.int 0, V.int 2]) hu2
    have hu2' := upd_same (H := HC) (a := u2) (o := HO.tup [V.int 0, V.int 2])
    generalize upd HC u2 (.tup [V.int 0, V.int 2]) = HD at sD0 hu2' hD
    have sD := Same.new (o := .lst []) hD
    have hts : HD u2 = some (.tup (nats [0, 2])) := hu2'
    refine lc_it (walk_tup (K := K) (a := u2) (xs := nats [0, 2])) (fun q H' => H' D = some (.lst (nats ((([0, 2] : List Nat).take q).map fun v => Cn (far T) (m + 1) (ws ++ [v])))) ∧ Same HD H') ⟨upd_same, sD⟩ (fun q H' _ ⟨_, s'⟩ => SqT.of (s' _ _ hts)) ?_ ?_
    · rintro q v HE HF hq ⟨hE, sE⟩ ⟨rfl, hv⟩
      have hq : q < 2 := hq
      have hv : (nats [0, 2])[q]? = some v := hv
      obtain ⟨w', hw', hw3⟩ : ∃ w' : Nat, ([0, 2] : List Nat)[q]? = some w' ∧ w' < 3 := by
        match q, hq with
        | 0, _ => exact ⟨0, rfl, by decide⟩
        | 1, _ => exact ⟨2, rfl, by decide⟩
      have : (nats [0, 2])[q]? = some (V.int (w' : Nat)) := by
        show (([0, 2] : List Nat).map _)[q]? = _
        rw [List.getElem?_map, hw']
        rfl
      cases hv.symm.trans this
      refine ⟨rfl, yes ⟨_, rfl, _, rfl, _, rfl, ?_⟩⟩
      refine more hw3 (s7C.trans (sD0.trans sE)) fun HF c sF hc => ?_
      refine ⟨t, c, m + 1, T, ws ++ [w'], rfl, hTC.mono (sameT ((sD0.trans sE).trans sF)), by omega, hc, fun HG sG => ?_⟩
      have hG := sG _ _ (sF _ _ hE)
      refine ⟨_, hG, small1000 (by rw [List.length_map, List.length_map, List.length_take]; omega), ?_, fun b' o eo => ?_⟩
      · rw [upd_same, List.take_succ, hw', Option.toList_some, List.map_append, nats_app]
        rfl
      · rw [upd_ne (ne_of_none eo hD)]
        exact sG _ _ (sF _ _ (sE _ _ eo))
    rintro HE ⟨hE, sE⟩
    have hE : HE D = some (.lst (([((Cn (far T) (m + 1) (ws ++ [0]) : Nat) : Int), ((Cn (far T) (m + 1) (ws ++ [2]) : Nat) : Int)] : List Int).map V.int)) := hE
    refine ⟨D, _, rfl, SqL.of hE, (by show 2 < 64; decide), fun ns' p3 pm srt hp3 => ?_⟩
    have sF := Same.new (o := .lst (ns'.map V.int)) hp3
    have sCF := (sD0.trans sE).trans sF
    have e5 : ns' = (if p1 = p2 then [rs.length, rs.length + 1] else [rs.length - 1, rs.length - 1]).map fun x : Nat => (x : Int) := by
      have hl := pm.length_eq
      obtain ⟨x, z, rfl⟩ : ∃ x z, ns' = [x, z] := by
        match ns', hl with
        | [x, z], _ => exact ⟨x, z, rfl⟩
      have m1 := pm.mem_iff (a := x)
      have m2 := pm.mem_iff (a := z)
      have m3 := pm.mem_iff (a := ((Cn (far T) (m + 1) (ws ++ [0]) : Nat) : Int))
      have m4 := pm.mem_iff (a := ((Cn (far T) (m + 1) (ws ++ [2]) : Nat) : Int))
      simp only [List.mem_cons, List.not_mem_nil, or_false, true_or, or_true, true_iff, iff_true] at m1 m2 m3 m4
      have le : x ≤ z := by
        have := (List.pairwise_cons.mp srt).1 z (by simp)
        exact this
      obtain ⟨c1, c2⟩ := cn
      by_cases ep : p1 = p2
      · rw [if_pos ep]
        have := c2 ep
        have hx : x = (rs.length : Int) := by omega
        have hz : z = ((rs.length + 1 : Nat) : Int) := by omega
        rw [hx, hz]
        rfl
      · rw [if_neg ep]
        have := c1 ep
        have hx : x = ((rs.length - 1 : Nat) : Int) := by omega
        have hz : z = ((rs.length - 1 : Nat) : Int) := by omega
        rw [hx, hz]
        rfl
    refine ⟨_, rfl, _, _, .lst (SqL.of upd_same) (dp_ints ns'), .lst (SqL.of (sCF _ _ hdu)) (dp_ns _), ints_shaped _, nL_shaped _, ?_⟩
    have e6 : ns'.map PyData.int = (if p1 = p2 then [rs.length, rs.length + 1] else [rs.length - 1, rs.length - 1]).map fun x : Nat => PyData.int (x : Nat) := by
      rw [e5, List.map_map]
      rfl
    rw [e6, nL_eqv, decide_eq_true rfl]
    have sAll := s7C.trans sCF
    exact k _ (M7.keep sAll) (e7.trans (ExtL.same sAll))
end
end One
end P_N3

section P_N4
set_option linter.all false
set_option maxRecDepth 100000
set_option maxHeartbeats 16000000
namespace One
open PySem PySem.Spec PyProof.Rows L2
/-! ### crossings sewn out, one behind another -/
abbrev sSe : Stmt := top 54
abbrev nSe : List Str := ["state", "yard", "setting", "due", "more", "crossing", "way", "less"]
theorem scSe : FnScope nSe ["state", "yard", "setting"] (defScope sSe) := ⟨rfl, rfl, rfl, by decide +kernel, rfl, by decide +kernel, by decide +kernel⟩
def isLst (T : String) : Bool := T == "list"
theorem TV.kLst {K : PySem.W.Frag} {H : Hp} {v : V} {T : String} (h : TV H v T) : PySem.W.kitOne K (.type T) (.type "list") = some (isLst T) := by
  cases h <;> first | rfl | decide +kernel
def spSe : Sp := fun vs H Q _ => ∃ (p a l y S : Addr) (n m : Nat) (ps : List (Nat × Nat)) (ws : List Nat), vs = [.ref p, .ref y, .ref S] ∧ ML H p a l n ∧ n ≤ 800000 ∧ YAt H y m ps ∧ m ≤ 40 ∧ SetAt H S m ws ∧
  ∀ H', ML H' p a l (n + 80) → ExtL p l H H' → Q (.bl true) H'
theorem erase_nats (us : List Nat) (c : Nat) : (nats us).take c ++ (nats us).drop (c + 1) = nats (us.eraseIdx c) := by
  unfold nats
  rw [← List.map_take, ← List.map_drop, ← List.map_append, ← List.eraseIdx_eq_take_drop_succ]
def SewW (p a l : Addr) (H : Hp) (m n due : Nat) (k : Nat) (σ : L2.St) (H' : Hp) : Prop := ∃ (y S : Addr) (ps : List (Nat × Nat)) (us : List Nat) (more n' : Nat) (v5 v6 v7 : Option V), σ = [some (.ref p), some (.ref y), some (.ref S), some (.int (due : Nat)), some (.int (more : Nat)), v5, v6, v7] ∧ k ≤ m ∧ YAt H' y k ps ∧ SetAt H' S k us ∧
  Cn (far ps) k us + more = due ∧ ML H' p a l n' ∧ n' + 2 * k ≤ n + 2 * m ∧ ExtL p l H H'
section
variable {P : Program} {w : World} {K : PySem.W.Frag} {mg : Str → Option Value} {base : Heap}
theorem ok_se {f fD fM fW : Addr} {fd dD dM dW : FuncData} (F : Fun K "_law_sewn_right" "_law_sewn_right" sSe f fd) (T : TB mg) (cD : Cal K mg "_law_draw" fD dD ["state", "many"]) (gD : FnOk P w K mg base CX0 2 fD dD ["state", "many"] spDR)
    (cM : Cal K mg "many_rounds" fM dM ["yard", "setting"]) (gM : FnOk P w K mg base (L2.CX P w) 9 fM dM ["yard", "setting"] spMR) (cW : Cal K mg "_law_without" fW dW ["yard", "crossing", "way"]) (gW : FnOk P w K mg base CX0 8 fW dW ["yard", "crossing", "way"] spWo) : FnOk P w K mg base CX0 10 f fd ["state", "yard", "setting"] spSe := by
  refine F.ok scSe (fun vs H Q E h => ?_) (fun cdv A outer s H vs Q E hr h => ?_)
  · obtain ⟨p, a, l, y, S, n, m, ps, ws, rfl, _⟩ := h
    rfl
  · obtain ⟨p, a, l, y0, S0, n, m, ps0, ws0, rfl, M, hn, hY, h40, hS, kk⟩ := h
    have nd := scSe.nd
    have hu : (A.deeper (envOfC "_law_sewn_right" (defScope sSe) s.heap.objs.size f cdv)).units + 64 < cLine := hr.units
    have rm : ∀ {j : Nat}, j ≤ 9 → Room j (A.deeper (envOfC "_law_sewn_right" (defScope sSe) s.heap.objs.size f cdv)) := fun h => hr.mono h
    refine ⟨_, C8.pss_cut (ps_par (i := 3) (j := 4) (by rfl) nd rfl rfl (by decide) rfl rfl (pa_cons (pe_call gM (rm (by decide)) rfl cM.g cM.kp cM.b .nil passL (pa_cons (pv 1) (pa_cons (pv 2) pa_nil))) (pa_cons pe_int pa_nil)) (by rfl))
      (pss_cons (ps_while PassesOwn.never (pt_cmpR op_gt (pe_callB call_len_seq (by rfl) T.len PySem.boot_len (pa_cons (pv 2) pa_nil)) pe_int (nomark _))
        (pss_cons (ps_set (i := 5) nd rfl (Or.inl rfl) (pe_call gD (rm (by decide)) rfl cD.g cD.kp cD.b .nil pass0 (pa_cons (pv 0) (pa_cons (pe_callB call_len_seq (by rfl) T.len PySem.boot_len (pa_cons (pv 2) pa_nil)) pa_nil))))
      (pss_cons (ps_set (i := 6) nd rfl (Or.inl rfl) (pe_ix ix_tup (pv 2) (pv 5) (fun _ _ => rfl)))
      (C8.pss_cut (ps_set (i := 7) nd rfl (Or.inl rfl) (pe_call gW (rm (by decide)) rfl cW.g cW.kp cW.b .nil pass0 (pa_cons (pv 1) (pa_cons (pv 5) (pa_cons (pv 6) pa_nil)))))
      (C8.pss_cut (ps_if (pt_val (pe_callB call_isi (by rfl) T.isinstance boot_isinstance (pa_cons (pv 7) (pa_cons (pe_bltn (v := .ty "tuple") (by rfl) T.tuple boot_tuple rfl) pa_nil)))) (pss_cons (ps_if (pt_cmpR (op_neD (by exact hu)) (pv 7) (pe_tup (pa_cons (pv 6) pa_nil)) (nomark _)) (pss_one (ps_ret pe_bl)) pss_nil)
      (pss_cons (ps_set (i := 4) nd rfl (Or.inl rfl) (pe_op op_add (pv 4) pe_int))
      (pss_one (ps_set (i := 7) nd rfl (Or.inl rfl) (pe_call gW (rm (by decide)) rfl cW.g cW.kp cW.b .nil pass0 (pa_cons (pv 1) (pa_cons (pv 5) (pa_cons (pe_op op_mod (pe_op op_add (pe_op op_add (pv 6) pe_int) (pe_call gD (rm (by decide)) rfl cD.g cD.kp cD.b .nil pass0 (pa_cons (pv 0) (pa_cons pe_int pa_nil)))) pe_int) pa_nil)))))))) pss_nil)
      (pss_cons (ps_if (pt_not (pt_val (pe_callB call_isi (by rfl) T.isinstance boot_isinstance (pa_cons (pv 7) (pa_cons (pe_bltn (v := .ty "list") (by rfl) T.list (by decide +kernel) rfl) pa_nil))))) (pss_one (ps_ret pe_bl)) pss_nil)
      (pss_cons (ps_set (i := 1) nd rfl (Or.inl rfl) (pe_ix ix_list (pv 7) pe_int (fun _ _ => rfl)))
      (pss_cons (ps_set (i := 2) nd rfl (Or.inl rfl) (pe_op op_catA (pe_slice sl_tupA (pv 2) po_none (po_some (pv 5))) (pe_slice sl_tupA (pv 2) (po_some (pe_op op_add (pv 5) pe_int)) po_none)))
      (pss_one (ps_if (pt_cmpR op_ne (pe_op op_add (pe_call gM (rm (by decide)) rfl cM.g cM.kp cM.b .nil passL (pa_cons (pv 1) (pa_cons (pv 2) pa_nil))) (pv 4)) (pv 3) (nomark _)) (pss_one (ps_ret pe_bl)) pss_nil))))))))))
      (pss_one (ps_ret (pe_cmpR op_eq (pv 3) (pe_op op_add (pe_op op_add (pv 4) pe_int) (pe_callTy call_int1 (by rfl) T.int PyProof.Rows.boot_int (pa_cons (pe_cmpR op_eq (pe_op op_sub (pe_ix ix_tup (pe_ix ix_tup (pv 1) pe_int (fun _ _ => rfl)) pe_int (fun _ _ => rfl)) pe_int) (pe_ix ix_tup (pv 2) pe_int (fun _ _ => rfl)) (nomark _)) pa_nil) (by decide))) (nomark _))))), ?_⟩
    refine ⟨fun σ H' => σ = [some (.ref p), some (.ref y0), some (.ref S0), some (.int (Cn (far ps0) m ws0 : Nat)), some (.int 0), none, none, none] ∧ Same H H', ?_, ?_⟩
    · refine ⟨_, rfl, _, rfl, y0, S0, m, ps0, ws0, rfl, hY, h40, hS, fun H1 s1 => ?_⟩
      exact ⟨_, _, rfl, rfl, s1⟩
    rintro σ0 H0 ⟨rfl, s0⟩
    unfold tSeq
    refine ⟨SewW p a l H m n (Cn (far ps0) m ws0), ⟨m, y0, S0, ps0, ws0, 0, n, none, none, none, rfl, Nat.le_refl _, hY.mono (sameT s0), hS.mono (sameT s0), rfl, M.keep s0, Nat.le_refl _, ExtL.same s0⟩, ?_⟩
    rintro k σ H1 ⟨y, S, ps, us, more, n', v5, v6, v7, rfl, hk, hY1, hS1, eC, M1, hn1, e1⟩
    have ls : (nats us).length = k := (List.length_map _).trans hS1.len
    have Y := hY1.1
    have hpos := Y.pos
    have ok := hS1.ok
    refine ⟨_, rfl, S, _, rfl, .inr (SqT.of hS1.here), _, _, rfl, rfl, ?_⟩
    rw [ls]
    generalize hdue : Cn (far ps0) m ws0 = due at *
    refine ⟨_, rfl, ite2 (fun hb => ?_) (fun hb => ?_)⟩
    · have h2 : 2 ≤ k := by
        have := of_decide_eq_true hb
        omega
      refine ⟨SewW p a l H m n due (k - 1), fun σ' H' z => ⟨k - 1, by omega, z⟩, ?_⟩
      refine ⟨_, rfl, _, rfl, S, _, rfl, .inr (SqT.of hS1.here), p, a, l, n', _, rfl, M1, by omega, by rw [ls]; omega, by rw [ls]; omega, fun H2 ci M2 e2 c0 c1 => ?_⟩
      rw [ls] at c1
      obtain ⟨c, rfl⟩ : ∃ c : Nat, ci = (c : Nat) := ⟨ci.toNat, by omega⟩
      have hc : c < k := by omega
      have hY2 := hY1.mono (e2.tup M1)
      have hS2 := hS1.mono (e2.tup M1)
      have hw3 := ok.ways c hc
      have hwc : us[c]? = some (wayL us c) := by
        have hl : c < us.length := by rw [hS1.len]; exact hc
        unfold wayL
        rw [List.getD_eq_getElem?_getD, List.getElem?_eq_getElem hl]
        rfl
      have hwv : (nats us)[c]? = some (V.int (wayL us c : Nat)) := by
        show (us.map _)[c]? = _
        rw [List.getElem?_map, hwc]
        rfl
      refine ⟨_, rfl, _, rfl, S, _, _, V.int (wayL us c : Nat), rfl, rfl, SqT.of hS2.here, at_of (j := c) rfl hwv, ?_⟩
      refine ⟨fun σ H' => ∃ v7 : V, σ = [some (.ref p), some (.ref y), some (.ref S), some (.int (due : Nat)), some (.int (more : Nat)), some (.int (c : Nat)), some (.int (wayL us c : Nat)), some v7] ∧ Same H2 H' ∧
        ((BarW ps k c (wayL us c) ∧ ∃ t, v7 = .ref t ∧ H' t = some (.tup [.int (wayL us c : Nat)])) ∨ (¬ BarW ps k c (wayL us c) ∧ ∃ D z, v7 = .ref D ∧ H' D = some (.lst [.ref z]) ∧ YAt H' z (k - 1) (leftOf (behindF (far ps) c (wayL us c)) c (4 * k)))), ?_, ?_⟩
      · refine ⟨_, rfl, _, rfl, _, rfl, y, k, c, wayL us c, ps, rfl, hY2, h2, by omega, hc, hw3, fun b H3 t s3 ht => ?_, fun nb H3 D z s3 hD hz => ?_⟩
        · exact ⟨_, rfl, s3, .inl ⟨b, t, rfl, ht⟩⟩
        · exact ⟨_, rfl, s3, .inr ⟨nb, D, z, rfl, hD, hz⟩⟩
      rintro σ3 H3 ⟨v7, rfl, s3, cases7⟩
      have M3 := M2.keep s3
      have e3 := (e1.trans e2).trans (ExtL.same s3)
      have hY3 := hY2.mono (sameT s3)
      have hS3 := hS2.mono (sameT s3)
      refine ⟨fun σ H' => ∃ (D z : Addr) (more' n2 : Nat) (psL : List (Nat × Nat)), σ = [some (.ref p), some (.ref y), some (.ref S), some (.int (due : Nat)), some (.int (more' : Nat)), some (.int (c : Nat)), some (.int (wayL us c : Nat)), some (.ref D)] ∧ H' D = some (.lst [.ref z]) ∧ YAt H' z (k - 1) psL ∧ SetAt H' S k us ∧
        Cn (far psL) (k - 1) (us.eraseIdx c) + more' = due ∧ ML H' p a l n2 ∧ n2 + 2 * (k - 1) ≤ n + 2 * m ∧ ExtL p l H H', ?_, ?_⟩
      · rcases cases7 with ⟨b, t, rfl, ht⟩ | ⟨nb, D, z, rfl, hD, hz⟩
        · refine ⟨_, rfl, .ref t, _, _, _, _, rfl, .ty _, (TV.tup ht).tyx, (TV.tup ht).kTup, _, rfl, iteT ?_⟩
          refine ⟨_, rfl, _, rfl, (by show 1 ≤ sizeLine; decide), fun u hu' => ?_⟩
          have s4 := Same.new (o := .tup [V.int (wayL us c : Nat)]) hu'
          refine ⟨_, _, dp_nsD (rs := [wayL us c]) (s4 _ _ ht), dp_nsD (rs := [wayL us c]) upd_same, nsD_shaped _, nsD_shaped _, ?_⟩
          rw [nsD_eqv, decide_eq_true rfl]
          refine ⟨_, rfl, iteF ?_⟩
          refine ⟨_, rfl, _, _, rfl, rfl, ?_⟩
          refine ⟨_, rfl, _, rfl, _, rfl, _, _, rfl, rfl, ?_⟩
          have M4 := M3.keep s4
          refine ⟨_, rfl, p, a, l, n' + 1, 2, rfl, M4, by omega, by decide, by decide, fun H5 q M5 e5 q0 q1 => ?_⟩
          obtain ⟨q, rfl⟩ : ∃ q' : Nat, q = (q' : Nat) := ⟨q.toNat, by omega⟩
          refine ⟨_, _, rfl, rfl, _, _, rfl, rfl, (by show (0 : Int) < 3; decide), ?_⟩
          have em : ((wayL us c : Nat) : Int) + 1 + ((q : Nat) : Int) = ((wayL us c + 1 + q : Nat) : Int) := by omega
          have em2 : (((wayL us c : Nat) : Int) + 1 + ((q : Nat) : Int)) % 3 = (((wayL us c + 1 + q) % 3 : Nat) : Int) := by omega
          have hw' : (wayL us c + 1 + q) % 3 < 3 := by omega
          have ne : (wayL us c + 1 + q) % 3 ≠ wayL us c := by omega
          obtain ⟨nb', ec⟩ := cn_other Y h2 hc ok hw' ne b
          have hY5 := (hY3.mono (sameT s4)).mono (e5.tup M4)
          have hS5 := (hS3.mono (sameT s4)).mono (e5.tup M4)
          refine ⟨y, k, c, _, ps, congrArg (fun z : Int => [V.ref y, V.int (c : Nat), V.int z]) em2, hY5, h2, by omega, hc, hw', fun b' => absurd b' nb', fun _ H6 D z s6 hD hz => ?_⟩
          exact ⟨D, z, more + 1, n' + 1 + 1, _, rfl, hD, hz, hS5.mono (sameT s6), by omega, M5.keep s6, by omega, (e3.trans (ExtL.same s4)).trans (e5.trans (ExtL.same s6))⟩
        · refine ⟨_, rfl, .ref D, _, _, _, _, rfl, .ty _, (TV.lst hD).tyx, (TV.lst hD).kTup, _, rfl, iteF ?_⟩
          exact ⟨D, z, more, n' + 1, _, rfl, hD, hz, hS3, by rw [cn_sewn Y h2 hc ok nb]; exact eC, M3, by omega, e3⟩
      rintro σ4 H4 ⟨D, z, more', n2, psL, rfl, hD, hz, hS4, eC4, M4, hn4, e4⟩
      refine ⟨_, rfl, .ref D, _, _, _, _, rfl, .ty _, (TV.lst hD).tyx, (TV.lst hD).kLst, _, rfl, iteF ?_⟩
      refine ⟨_, rfl, D, _, _, _, rfl, rfl, SqL.of hD, at_of (j := 0) rfl rfl, ?_⟩
      refine ⟨_, rfl, _, rfl, _, rfl, rd_slA hS4.here fun H5 b1 s5 h5 => ?_⟩
      rw [cut_take (by rw [ls]; omega)] at h5
      refine ⟨_, rfl, _, rfl, _, _, rfl, rfl, _, rfl, ?_⟩
      unfold tNoPart
      dsimp only
      refine rd_slA (s5 _ _ hS4.here) fun H6 b2 s6 h6 => ?_
      rw [show ((c : Nat) : Int) + 1 = ((c + 1 : Nat) : Int) by omega, cut_drop (by rw [ls]; omega)] at h6
      refine rd_catA (s6 _ _ h5) h6 (Nat.le_trans (m := 200) ?_ (by decide)) fun H7 S' s7 h7 => ?_
      · rw [List.length_take, List.length_drop]
        omega
      rw [erase_nats] at h7
      have okE := erase_ok ok hc
      have hS7 : SetAt H7 S' (k - 1) (us.eraseIdx c) := ⟨okE.len, okE.lt, h7⟩
      have s47 := s5.trans (s6.trans s7)
      refine ⟨_, rfl, _, rfl, z, S', k - 1, psL, _, rfl, hz.mono (sameT s47), by omega, hS7, fun H8 s8 => ?_⟩
      have s48 := s47.trans s8
      have ed : decide (V.int (((Cn (far psL) (k - 1) (us.eraseIdx c) : Nat) : Int) + ((more' : Nat) : Int)) = V.int ((due : Nat) : Int)) = true := decide_eq_true (by rw [← eC4]; rfl)
      have fin : SewW p a l H m n due (k - 1) [some (V.ref p), some (V.ref z), some (V.ref S'), some (V.int (due : Nat)), some (V.int (more' : Nat)), some (V.int (c : Nat)), some (V.int (wayL us c : Nat)), some (V.ref D)] H8 :=
        ⟨z, S', psL, us.eraseIdx c, more', n2, _, _, _, rfl, by omega, hz.mono (sameT s48), hS7.mono (sameT s8), eC4, M4.keep s48, hn4, e4.trans (ExtL.same s48)⟩
      refine ⟨_, rfl, _, _, rfl, rfl, _, rfl, rfl, _, rfl, ?_⟩
      show if (!decide (V.int (((Cn (far psL) (k - 1) (us.eraseIdx c) : Nat) : Int) + ((more' : Nat) : Int)) = V.int ((due : Nat) : Int))) = true then _ else _
      rw [ed]
      exact iteF fin
    · have k1 : k = 1 := by
        have := of_decide_eq_false (Bool.eq_false_iff.mpr hb)
        omega
      subst k1
      obtain ⟨v, rfl⟩ : ∃ v, us = [v] := by
        match us, hS1.len with
        | [v], _ => exact ⟨v, rfl⟩
      have hv : v < 3 := hS1.lt v (by simp)
      obtain ⟨as, hy, hP⟩ := hY1.2
      obtain ⟨q, hq⟩ : ∃ q, ps[0]? = some q := ⟨_, List.getElem?_eq_getElem (by rw [Y.lines.len]; decide)⟩
      obtain ⟨b0, hb0, hq0⟩ := hP.get hq
      obtain ⟨c1, c2, c3⟩ := cn_one Y hv hq
      have fin : Q (.bl true) H1 := kk _ (M1.lt (by omega) (by omega)) e1
      refine ⟨_, rfl, _, rfl, _, _, rfl, rfl, _, rfl, y, _, _, V.ref b0, rfl, rfl, SqT.of hy, at_of (j := 0) rfl (by show (as.map V.ref)[0]? = _; rw [List.getElem?_map, hb0]; rfl), b0, _, _, V.int (q.2 : Nat), rfl, rfl, SqT.of hq0, at_of (j := 1) rfl rfl, _, _, rfl, rfl,
        _, rfl, S, _, _, V.int (v : Nat), rfl, rfl, SqT.of hS1.here, at_of (j := 0) rfl rfl, rfl, .inr ⟨_, rfl, ?_⟩⟩
      refine ⟨_, _, rfl, rfl, rfl, ?_⟩
      have e7 : decide (V.int (((q.2 : Nat) : Int) - 1) = V.int ((v : Nat) : Int)) = decide (q.2 - 1 = v) := decide_eq_decide.mpr ⟨fun z => by have := V.int.inj z; omega, fun z => by rw [← z]; congr 1; omega⟩
      show Q (.bl (decide (V.int ((due : Nat) : Int) = V.int (((more : Nat) : Int) + 1 + (if decide (V.int (((q.2 : Nat) : Int) - 1) = V.int ((v : Nat) : Int)) = true then 1 else 0))))) H1
      rw [e7]
      have e8 : decide (V.int ((due : Nat) : Int) = V.int (((more : Nat) : Int) + 1 + (if decide (q.2 - 1 = v) = true then 1 else 0))) = true := decide_eq_true (by
        rw [← eC, c1]
        by_cases z : q.2 - 1 = v
        · rw [if_pos z, if_pos (decide_eq_true z)]
          congr 1
          omega
        · rw [if_neg z, if_neg (by rw [decide_eq_false z]; exact Bool.false_ne_true)]
          congr 1
          omega)
      rw [e8]
      exact fin
end
end One
end P_N4

section P_N5
set_option linter.all false
set_option maxRecDepth 100000
set_option maxHeartbeats 16000000
namespace One
open PySem PySem.Spec PyProof.Rows L2
abbrev sLaw : Stmt := top 55
abbrev nLaw : List Str := ["script", "state", "turn", "size", "yard", "fars", "kept", "more", "setting", "again"]
theorem scLaw : FnScope nLaw ["script"] (defScope sLaw) := ⟨rfl, rfl, rfl, by decide +kernel, rfl, by decide +kernel, by decide +kernel⟩
def spLaw (K : PySem.W.Frag) : Sp := fun vs H Q _ => ∃ (a : Addr) (ns : List Int), vs = [.ref a] ∧ SqL K H a (ns.map V.int) ∧ ns.length ≤ 63 ∧ ∀ H', Q (.bl true) H'
theorem yard_small {n : Nat} {ps : List (Nat × Nat)} (L : Lines n ps) (hn : n ≤ 40) : (∀ p ∈ ps, p.1 < 1000 ∧ p.2 < 1000) ∧ ps.length ≤ 1000 := by
  refine ⟨fun p hp => ?_, ?_⟩
  · have h1 := L.lt _ (mem_ends.mpr ⟨p, hp, .inl rfl⟩)
    have h2 := L.lt _ (mem_ends.mpr ⟨p, hp, .inr rfl⟩)
    omega
  · have := L.len
    omega
section
variable {P : Program} {w : World} {K : PySem.W.Frag} {mg : Str → Option Value} {base : Heap}
theorem ok_law {f fB fY fS fFa fSt fA fR : Addr} {fd dB dY dS dFa dSt dA dR : FuncData} (F : Fun K "law" "law" sLaw f fd) (T : TB mg) (cB : Cal K mg "_law_begin" fB dB ["script"]) (gB : FnOk P w K mg base CX0 1 fB dB ["script"] (spBG K))
    (cY : Cal K mg "_law_yard" fY dY ["state", "many"]) (gY : FnOk P w K mg base CX0 4 fY dY ["state", "many"] spYD) (cS : Cal K mg "_law_size" fS dS ["state", "most"]) (gS : FnOk P w K mg base CX0 3 fS dS ["state", "most"] spSZ)
    (cFa : Cal K mg "_law_far" fFa dFa ["yard"]) (gFa : FnOk P w K mg base CX0 1 fFa dFa ["yard"] spFA) (cSt : Cal K mg "_law_setting" fSt dSt ["state", "fars"]) (gSt : FnOk P w K mg base CX0 4 fSt dSt ["state", "fars"] spST)
    (cA : Cal K mg "_law_across_right" fA dA ["state", "yard", "setting"]) (gA : FnOk P w K mg base CX0 10 fA dA ["state", "yard", "setting"] spAc)
    (cR : Cal K mg "_law_sewn_right" fR dR ["state", "yard", "setting"]) (gR : FnOk P w K mg base CX0 10 fR dR ["state", "yard", "setting"] spSe) :
    FnG P w K mg base CX0 11 f fd ["script"] (spLaw K) := by
  refine okG0 F scLaw (fun vs H Q E h => ?_) (fun cdv A outer s H vs Q E hgd hr h => ?_)
  · obtain ⟨a, ns, rfl, _⟩ := h
    rfl
  · obtain ⟨a, ns, rfl, hS, hl, k⟩ := h
    have nd := scLaw.nd
    have hu : (A.deeper (envOfC "law" (defScope sLaw) s.heap.objs.size f cdv)).units + 64 < cLine := hr.units
    have rm : ∀ {j : Nat}, j ≤ 10 → Room j (A.deeper (envOfC "law" (defScope sLaw) s.heap.objs.size f cdv)) := fun h => hr.mono h
    have rp : ∀ {X' : Cx}, X'.A = A.deeper (envOfC "law" (defScope sLaw) s.heap.objs.size f cdv) → CallR X' (.builtin "repr") (rRepr X'.K) := fun e => cr_repr (by rw [e]; exact hgd) (by rw [e]; exact hu)
    refine ⟨_, pss_cons (ps_set (i := 1) nd rfl (Or.inl rfl) (pe_call gB (rm (by decide)) rfl cB.g cB.kp cB.b .nil pass0 (pa_cons (pv 0) pa_nil)))
      (pss_cons (ps_for PassesOwn.never rfl (pi_range1 (by rfl) T.range (pa_cons pe_int pa_nil)) (pg_name (i := 2) nd rfl (Or.inl rfl))
        (pss_cons (ps_set (i := 3) nd rfl (Or.inl rfl) (pe_call gS (rm (by decide)) rfl cS.g cS.kp cS.b .nil pass0 (pa_cons (pv 1) (pa_cons pe_int pa_nil))))
      (pss_cons (ps_set (i := 4) nd rfl (Or.inl rfl) (pe_call gY (rm (by decide)) rfl cY.g cY.kp cY.b .nil pass0 (pa_cons (pv 1) (pa_cons (pv 3) pa_nil))))
      (pss_cons (ps_par (i := 5) (j := 6) (by rfl) nd rfl rfl (by decide) rfl rfl (pa_cons (pe_call gFa (rm (by decide)) rfl cFa.g cFa.kp cFa.b .nil pass0 (pa_cons (pv 4) pa_nil)) (pa_cons (pe_callB (rp rfl) (by rfl) T.repr boot_repr (pa_cons (pv 4) pa_nil)) pa_nil)) (by rfl))
      (pss_one (ps_for PassesOwn.never rfl (pi_range1 (by rfl) T.range (pa_cons pe_int pa_nil)) (pg_name (i := 7) nd rfl (Or.inl rfl))
        (pss_cons (ps_set (i := 8) nd rfl (Or.inl rfl) (pe_call gSt (rm (by decide)) rfl cSt.g cSt.kp cSt.b .nil pass0 (pa_cons (pv 1) (pa_cons (pv 5) pa_nil))))
      (pss_cons (ps_for PassesOwn.never rfl (pi_range1 (by rfl) T.range (pa_cons pe_int pa_nil)) (pg_name (i := 9) nd rfl (Or.inl rfl))
        (pss_one (ps_if (pt_not (pt_val (pe_call gA (rm (by decide)) rfl cA.g cA.kp cA.b .nil pass0 (pa_cons (pv 1) (pa_cons (pv 4) (pa_cons (pv 8) pa_nil)))))) (pss_one (ps_ret pe_bl)) pss_nil)))
      (pss_one (ps_if (PW.pt (pw_or (pt_not (pt_val (pe_call gR (rm (by decide)) rfl cR.g cR.kp cR.b .nil pass0 (pa_cons (pv 1) (pa_cons (pv 4) (pa_cons (pv 8) pa_nil)))))) (pw_or1 (pt_cmpR op_ne (pe_callB (rp rfl) (by rfl) T.repr boot_repr (pa_cons (pv 4) pa_nil)) (pv 6) (nomark _))))) (pss_one (ps_ret pe_bl)) pss_nil))))))))))
      (pss_one (ps_ret pe_bl))), ?_⟩
    have same_ne : ∀ x : Str, (!decide (V.str x = V.str x)) = false := fun x => by rw [decide_eq_true rfl]; rfl
    refine ⟨_, rfl, a, ns, rfl, hS, hl, fun H0 p c l s0 hp hc' hl' M0 => ?_⟩
    refine ⟨3, rfl, by decide, by decide, ?_⟩
    refine for_range (lo := 0) (n := (3 : Int).toNat) (fun i σ H' => ∃ v2 v3 v4 v5 v6 v7 v8 v9 : Option V, σ = [some (.ref a), some (.ref p), v2, v3, v4, v5, v6, v7, v8, v9] ∧ ML H' p c l (2000 * i)) ⟨none, none, none, none, none, none, none, none, rfl, M0⟩ ?_ ?_
    · rintro i σ H1 hi ⟨v2, v3, v4, v5, v6, v7, v8, v9, rfl, M1⟩
      have hi : i < 3 := hi
      refine ⟨_, rfl, p, c, l, _, 24, rfl, M1, by omega, by decide, by decide, fun H2 m M2 e2 m0 m24 => ?_⟩
      refine ⟨_, rfl, _, rfl, p, c, l, _, m, rfl, M2, by omega, m0, by omega, fun H3 y ps M3 e3 hY => ?_⟩
      obtain ⟨Y, as, ht, hP⟩ := id hY
      obtain ⟨y1, y2⟩ := yard_small Y.lines (by omega)
      refine ⟨_, rfl, y, m, as, ps, rfl, ht, hP, Y.lines, by omega, fun H4 D s4 hDn hD => ?_⟩
      refine ⟨_, rfl, ?_⟩
      unfold tNil
      refine repr_yd (s4 _ _ ht) (hP.mono (sameT s4)) y1 y2 ?_
      refine ⟨_, _, rfl, ?_⟩
      have M4 := M3.keep s4
      obtain ⟨np, nl⟩ := M3.apart hDn
      have hY4 := hY.mono (sameT s4)
      refine ⟨2, rfl, by decide, by decide, ?_⟩
      refine for_range (lo := 0) (n := (2 : Int).toNat) (fun q σ H' => ∃ v2 v7 v8 v9 : Option V, σ = [some (.ref a), some (.ref p), v2, some (.int (m : Nat)), some (.ref y), some (.ref D), some (.str (yd ps).shown), v7, v8, v9] ∧ ML H' p c l (2000 * i + 400 + 300 * q) ∧ ExtL p l H4 H') ⟨_, _, _, _, rfl, M4.lt (by omega) (by omega), ExtL.refl _ _ _⟩ ?_ ?_
      · rintro q σ H5 hq ⟨v2', v7', v8', v9', rfl, M5, e5⟩
        have hq : q < 2 := hq
        refine ⟨_, rfl, _, rfl, p, c, l, D, _, m, ps, rfl, M5, by omega, Y.lines, m0, by omega, np, e5 _ _ np nl hD, fun H6 u ws M6 e6 hSt => ?_⟩
        have e46 := e5.trans e6
        refine ⟨2, rfl, by decide, by decide, ?_⟩
        refine for_range (lo := 0) (n := (2 : Int).toNat) (fun r σ H' => ∃ v2 v7 v9 : Option V, σ = [some (.ref a), some (.ref p), v2, some (.int (m : Nat)), some (.ref y), some (.ref D), some (.str (yd ps).shown), v7, some (.ref u), v9] ∧ ML H' p c l (2000 * i + 400 + 300 * q + 100 + 10 * r) ∧ ExtL p l H4 H' ∧ SetAt H' u m ws) ⟨_, _, _, rfl, M6.lt (by omega) (by omega), e46, hSt⟩ ?_ ?_
        · rintro r σ H7 hr' ⟨v2'', v7'', v9'', rfl, M7, e7, hS7⟩
          have hr' : r < 2 := hr'
          refine ⟨_, rfl, _, rfl, _, rfl, p, c, l, y, u, _, m, ps, ws, rfl, M7, by omega, hY4.mono (tupL M4 e7), by omega, hS7, fun H8 M8 e8 => ⟨_, rfl, ?_⟩⟩
          refine iteF ?_
          exact ⟨_, _, _, rfl, M8.lt (by omega) (by omega), e7.trans e8, hS7.mono (tupL M7 e8)⟩
        · rintro σ H7 ⟨v2'', v7'', v9'', rfl, M7, e7, hS7⟩
          have two : (2 : Int).toNat = 2 := rfl
          rw [two] at M7
          have hY7 := hY4.mono (tupL M4 e7)
          refine ⟨_, rfl, _, rfl, _, rfl, p, c, l, y, u, _, m, ps, ws, rfl, M7, by omega, hY7, by omega, hS7, fun H8 M8 e8 => ⟨_, rfl, ?_⟩⟩
          refine iteF ?_
          refine ⟨_, rfl, ?_⟩
          have tup8 := tupL M7 e8
          obtain ⟨_, as7, ht7, hP7⟩ := id hY7
          refine repr_yd (tup8 _ _ ht7) (hP7.mono tup8) y1 y2 ?_
          refine ⟨_, rfl, rfl, _, rfl, ?_⟩
          rw [same_ne]
          refine iteF ?_
          exact ⟨_, _, _, _, rfl, M8.lt (by omega) (by omega), e7.trans e8⟩
      · rintro σ H5 ⟨v2', v7', v8', v9', rfl, M5, e5⟩
        have two : (2 : Int).toNat = 2 := rfl
        rw [two] at M5
        exact ⟨_, _, _, _, _, _, _, _, rfl, M5.lt (by omega) (by omega)⟩
    · rintro σ H1 ⟨v2, v3, v4, v5, v6, v7, v8, v9, rfl, M1⟩
      exact k _
end
end One
end P_N5

section P_H10
set_option linter.all false
set_option maxRecDepth 100000
set_option maxHeartbeats 8000000
namespace One
open PySem PySem.W PySem.Calls PyProof.Rows PySem.HandSPX L2
/-- a class's __init__, its first statement -/
def initOf : Stmt → Stmt
  | .ClassDef (body := b) .. => b.getD 0 (.Pass ⟨0, 0, 0, 0⟩)
  | s => s
theorem shape0 : Shape (initOf (top 2)) "place" := ⟨_, _, _, _, _, _, _, _, _, _, _, _, _, _, _, _, rfl, rfl, rfl, by decide +kernel, fun _ => rfl⟩
theorem shape3 : Shape (initOf (top 3)) "place" := ⟨_, _, _, _, _, _, _, _, _, _, _, _, _, _, _, _, rfl, rfl, rfl, by decide +kernel, fun _ => rfl⟩
theorem shape5 : Shape (initOf (top 4)) "place" := ⟨_, _, _, _, _, _, _, _, _, _, _, _, _, _, _, _, rfl, rfl, rfl, by decide +kernel, fun _ => rfl⟩
theorem shape6 : Shape (initOf (top 5)) "way" := ⟨_, _, _, _, _, _, _, _, _, _, _, _, _, _, _, _, rfl, rfl, rfl, by decide +kernel, fun _ => rfl⟩
theorem shape7 : Shape (initOf (top 6)) "many" := ⟨_, _, _, _, _, _, _, _, _, _, _, _, _, _, _, _, rfl, rfl, rfl, by decide +kernel, fun _ => rfl⟩
/-- a def of the top -/
structure DefAt (K : Frag) (x : Str) (st : Stmt) (f : Addr) (fd : FuncData) : Prop where
  ns : nsIn K mainGlobals x = some (some (.ref f))
  fn : L2.Fun K x x st f fd
theorem def_at {K : Frag} {x : Str} {st : Stmt} {f : Addr} {oc kV dc pm cd ct : Value} {od an : Option Addr} {sl : Array (Option Value)} (a : nsIn K mainGlobals x = some (some (.ref f))) (l : K.lookup f = some ⟨oc, od, .func (fnOf x x (defArgs st) (defBody st) (defScope st) .none kV dc pm an cd ct), sl⟩)
    (c : codeIn K cd x = true) (k : keepIn K (.ref f) = true) : DefAt K x st f (fnOf x x (defArgs st) (defBody st) (defScope st) .none kV dc pm an cd ct) := ⟨a, fun_mk l c k⟩
theorem DefAt.cal {K : Frag} {x : Str} {st : Stmt} {f : Addr} {fd : FuncData} {h : Heap} {mg : Str → Option Value} {ps : List Str} (D : DefAt K x st f fd) (X : K.In h) (G : h.Ns mainGlobals mg)
    (hb : ∀ (kV doc pm : Value) (an : Option Addr) (cdv ct : Value) (us : List Value), us.length = ps.length → bindArgs (fnOf x x (defArgs st) (defBody st) (defScope st) .none kV doc pm an cdv ct) ⟨us, []⟩ = pure (ps.zip us)) : Cal K mg x f fd ps := ⟨mg_of X G D.ns, D.fn.kp, D.fn.binds hb⟩
/-- an own exception class: what the top has written of it -/
structure ClsAt (P : Program) (K : Frag) (x : Str) (st : Stmt) (fld : Str) (C fI : Addr) : Prop where
  ns : nsIn K mainGlobals x = some (some (.ref C))
  own : OwnTxt P K st fld C fI
  iC : findIn K (.ref C) "__init__" = some (some (.ref fI))
  tC : typeIn K (.ref fI) = some (.type "function")
  kC : keepIn K (.ref C) = true
  exC : subIn K (.ref C) (.type "BaseException") = some true
  tyC : typeIn K (.ref C) = some (.type "type")
theorem al_of {K : Frag} {nm q : Str} {RE N : Addr} {bs : List Value} {sn : List Str} {sub : List Value} {ab : Bool} {col : Option Bool} {dd : Option Addr} {m0 m1 m2 m3 m5 : Option Value} {r : Option (Option Value)} {hdct : Bool}
    (xR : K.lookup RE = some (excClassObj nm q RE N bs [.type "ValueError", .type "Exception", .type "BaseException", .type "object"] hdct sn sub ab col dd m0 m1 m2 m3 m5 "ValueError.__new__")) (fR : findIn K (.ref RE) "__init__" = r) : alongIn K "__init__" [.ref RE, .type "ValueError", .type "Exception", .type "BaseException", .type "object"] = r := by
  unfold findIn at fR
  dsimp only at fR
  rw [xR] at fR
  exact fR
theorem cls_at {P : Program} {K : Frag} {x : Str} {st : Stmt} {fld nm q : Str} {C fI N RE cda cc : Addr} {bs : List Value} {sn : List Str} {sub : List Value} {ab : Bool} {col : Option Bool} {dd od an cdd cld : Option Addr} {m0 m1 m2 m3 m5 : Option Value} {oc doc pm ct ccl cl : Value} {osl ccs csl : Array (Option Value)} {vs : Array Value} {file qual : Str} {tf : Tok}
    (ns : nsIn K mainGlobals x = some (some (.ref C))) (xL : K.lookup C = some (excClassObj nm q C N bs [.ref RE, .type "ValueError", .type "Exception", .type "BaseException", .type "object"] true sn sub ab col dd m0 m1 m2 m3 m5 "ValueError.__new__"))
    (al : alongIn K "__init__" [.ref RE, .type "ValueError", .type "Exception", .type "BaseException", .type "object"] = some (some (.builtin "ValueError.__init__"))) (sa : findIn K (.ref C) "__setattr__" = some (some (.builtin "object.__setattr__"))) (noF : findIn K (.ref C) fld = some none)
    (veB : subIn K (.ref C) (.type "ValueError") = some true) (slf : mroIn K C (.ref C) = some true) (op : nsIn K cStatics "thirdparty.any" = some none) (tp : (P.main.scope.names.lookup ("super" : Str)).isSome = false) (sh : Shape st fld)
    (iC : findIn K (.ref C) "__init__" = some (some (.ref fI))) (l1 : K.lookup fI = some ⟨oc, od, .func (ksFn "__init__" qual (defArgs st) (defBody st) (defScope st) .none .none doc pm an (.ref cda) ct cc), osl⟩) (c1 : codeIn K (.ref cda) qual = true)
    (lc : K.lookup cda = some ⟨ccl, cdd, .fields vs, ccs⟩) (hvs : vs[2]? = some (.str file tf)) (hfile : ((P.main.file : Str) == file) = true) (lcc : K.lookup cc = some ⟨cl, cld, .cell (some (.ref C)), csl⟩)
    (tC : typeIn K (.ref fI) = some (.type "function")) (kC : keepIn K (.ref C) = true) (exC : subIn K (.ref C) (.type "BaseException") = some true) (tyC : typeIn K (.ref C) = some (.type "type")) : ClsAt P K x st fld C fI :=
  ⟨ns, ⟨⟨_, _, _, _, _, _, _, _, _, _, _, _, _, _, _, xL, rfl, by rw [PySem.ESX.drop_own]; exact al⟩, sa, noF, veB, slf, op, tp, sh, ⟨_, _, _, _, _, _, _, _, _, _, _, _, _, _, _, _, _, _, _, l1, c1, lc, hvs, hfile, lcc⟩⟩, iC, tC, kC, exC, tyC⟩
theorem ClsAt.cls {P : Program} {K : Frag} {x : Str} {st : Stmt} {fld : Str} {C fI : Addr} {h : Heap} {mg : Str → Option Value} (D : ClsAt P K x st fld C fI) (X : K.In h) (G : h.Ns mainGlobals mg) : OwnCls K mg x C fI := ⟨mg_of X G D.ns, D.iC, D.tC, D.kC, D.exC, D.tyC⟩
/-- the class that the law catches: its facts -/
structure BarF (K : Frag) (C6 : Addr) : Prop where
  xf : XfC K C6
  no : findIn K (.ref C6) "way" = some none
  exm : exmOne K (.ref C6) (.ref C6) = some true
theorem bar_of {K : Frag} {C6 : Addr} (hg : findIn K (.ref C6) "__getattribute__" = some (some (.builtin "BaseException.__getattribute__"))) (hk : findIn K (.ref C6) "__getattr__" = some none) (hs : subIn K (.ref C6) (.type "BaseException") = some true)
    (hd : hasDictIn K C6 = true) (no : findIn K (.ref C6) "way" = some none) (u3 : typeIn K (.ref C6) = some (.type "type")) (u4 : subIn K (.ref C6) (.ref C6) = some true) : BarF K C6 := ⟨⟨hg, hk, hs, hd⟩, no, exm_ref hs hd u3 u4⟩
end One
end P_H10

section P_G3
set_option linter.all false
set_option maxRecDepth 100000
set_option maxHeartbeats 4000000
namespace One
open PySem PySem.Spec PyProof.Rows L2
/-- the one call of a law that has lambdas: cs, its code objects with their tables -/
theorem law_goesT {P : Program} {w : World} {K : PySem.W.Frag} {mg mb : Str → Option Value} {CX : CXT} {k : Nat} {fa a : Addr} {cs : List (Addr × Addr)} {fd : FuncData} {x : Str} {sp : Sp} {s : Shared} {vs : List Value} {ns : List Int} (inK : K.In s.heap) (nsm : s.heap.Ns mainGlobals mg)
    (nsb : s.heap.Ns builtinsNs mb) (boot : ∀ y : Str, y ≠ "__name__" → mb y = bootBuiltins y) (nolim : s.heap.NoLimit) (nogen : s.gens = #[]) (tab : ∀ p ∈ cs, s.heap.get? p.2 = some { cls := .none, data := .fields #[] }) (ntab : ∀ p ∈ cs, K.lookup p.2 = none) (heads : ∀ p ∈ cs, PySem.W.CodeHd s.heap p.1 p.2)
    (blt : ∃ (bm : Addr) (ob : Obj), mg "__builtins__" = some (.ref bm) ∧ bm ≠ builtinsNs ∧ s.heap.get? bm = some ob ∧ ob.cls = .type "module" ∧ ob.dict = some builtinsNs ∧ ob.data = .plain) (ha : s.heap.get? a = some { cls := .type "list", data := .seq vs.toArray }) (hi : IntsAre vs ns) (hl : ns.length ≤ sizeLine)
    (hr : Room k callerA) (F : ∀ base : Heap, K.In base → base.Ns mainGlobals mg → (∀ p ∈ cs, LamX.TabB base mg p.1 p.2) → FnG P w K mg base CX k fa fd [x] sp) (bind : ∀ (s : Shared) (u : Value), BindsTo s fd ⟨[u], []⟩ [(x, u)])
    (hsp : ∀ H : Hp, (∀ p ∈ cs, H p.2 = some (.tbl #[])) → SqL K H a (ns.map V.int) → sp [.ref a] H (fun v _ => v = .bl true) fun _ _ _ => False) (none_out : ∀ H e s', CX [] H s (fun _ _ _ => False) e s' → False) :
    codeAny (model P w) callerA (.call (.ref fa) ⟨[.ref a], []⟩) (fun r s' => r = .ok (.ret (.bool true)) ∧ OldK s.heap s'.heap ∧ s'.os = s.os ∧ AllBare s'.gens) s := by
  have rv := vals_ints hi
  have hlen := hi.length
  have isT : ∀ {b : Addr}, b ∈ cs.map (·.2) → s.heap.get? b = some { cls := .none, data := .fields #[] } := fun {b} hb => by
    obtain ⟨p, hp, e⟩ := List.mem_map.mp hb
    exact e ▸ tab p hp
  have toT : ∀ {p}, p ∈ cs → p.2 ∈ cs.map (·.2) := fun {p} hp => List.mem_map.mpr ⟨p, hp, rfl⟩
  have aT : a ∉ cs.map (·.2) := fun z => Data.noConfusion (show Data.seq vs.toArray _ = Data.fields #[] from congrArg Obj.data (Option.some.inj (ha.symm.trans (isT z))))
  have main : ∀ H : Hp, (∀ b ∈ cs.map (·.2), H b = some (.tbl #[])) → (∀ b u, H b = some u → (b ∈ cs.map (·.2) ∧ u = .tbl #[]) ∨ (b = a ∧ K.lookup a = none ∧ u = .frz { cls := .type "list", data := .seq vs.toArray } (.lst (ns.map V.int)))) → SqL K H a (ns.map V.int) →
      codeAny (model P w) callerA (.call (.ref fa) ⟨[.ref a], []⟩) (fun r s' => r = .ok (.ret (.bool true)) ∧ OldK s.heap s'.heap ∧ s'.os = s.os ∧ AllBare s'.gens) s := by
    intro H hT inv hS
    have ok : HOk P w H s.heap := fun b u e => by
      rcases inv b u e with ⟨hb, rfl⟩ | ⟨rfl, _, rfl⟩
      · exact isT hb
      · exact ⟨ha, by rw [List.length_map]; exact hl, vs, _, rv, ha⟩
    have put : ∀ {b : Addr} {o : Obj}, s.heap.get? b = some o → H b = none → (hidT s.heap H).get? b = some o := fun e n => hidT_get e n
    have free : ∀ {b : Addr} {o : Obj}, s.heap.get? b = some o → (∀ us n, o.data ≠ .seq us n) → o.data ≠ .fields #[] → H b = none := fun {b o} e h1 h2 => by
      match q : H b with
      | none => rfl
      | some u =>
        rcases inv b u q with ⟨hb, _⟩ | ⟨rfl, _, _⟩
        · cases (isT hb).symm.trans e
          exact (h2 rfl).elim
        · cases ha.symm.trans e
          exact (h1 _ _ rfl).elim
    have nsH : ∀ {b : Addr} {m : Str → Option Value}, s.heap.Ns b m → (hidT s.heap H).Ns b m := fun ⟨o, es, ep, e, d, r⟩ => ⟨o, es, ep, put e (free e (fun us n z => by cases d.symm.trans z) (fun z => by cases d.symm.trans z)), d, r⟩
    have inH : K.In (hidT s.heap H) := fun b o e => put (inK b o e) (by
      match q : H b with
      | none => rfl
      | some u =>
        rcases inv b u q with ⟨hb, _⟩ | ⟨rfl, z, _⟩
        · obtain ⟨p, hp, rfl⟩ := List.mem_map.mp hb
          cases (ntab p hp).symm.trans e
        · cases z.symm.trans e)
    obtain ⟨mc, n1, n2⟩ := nolim
    have tabB : ∀ p ∈ cs, LamX.TabB (hidT s.heap H) mg p.1 p.2 := fun p hp => by
      have hTp := tab p hp
      obtain ⟨og, es, ep, eg, dg, _⟩ := nsm
      refine ⟨?_, ?_, fun z => ?_⟩
      · obtain ⟨o, us, file, tf, flags, tg, inF, text, tt, e1, r1, r2, r3, rest⟩ := heads p hp
        refine ⟨o, us, file, tf, flags, tg, inF, text, tt, put e1 (free e1 (fun vs n z => by cases r2.symm.trans z) (fun z => ?_)), r1, r2, r3, rest⟩
        have z' : us = #[] := Data.fields.inj (r2.symm.trans z)
        rw [z'] at r3
        simp at r3
      · obtain ⟨bm, ob, b1, b2, b3, b4, b5, b6⟩ := blt
        refine ⟨bm, ob, b1, b2, fun q => ?_, fun q => ?_, put b3 (free b3 (fun vs n z => by cases b6.symm.trans z) (fun z => by cases b6.symm.trans z)), b4, b5, b6⟩
        · cases (q ▸ b3 : s.heap.get? mainGlobals = some ob).symm.trans eg
          cases b6.symm.trans dg
        · cases (q ▸ b3 : s.heap.get? p.2 = some ob).symm.trans hTp
          cases b6
      · cases (z ▸ hTp : s.heap.get? mainGlobals = _).symm.trans eg
        cases dg
    have env : Env0 P w K mg (hidT s.heap H) callerA [] s H := ⟨rfl, ⟨inH, nsH nsm, ⟨mb, nsH nsb, boot⟩, ⟨mc, nsH n1, n2⟩⟩, fun b o e => of_hidT e, Nat.le_of_eq (hidT_size _ _), trivial, fun b hb => absurd (show b ∈ ([] : List Addr) from hb) List.not_mem_nil, ok, .of_eq nogen⟩
    refine codeAny_mono ((F _ inH (nsH nsm) tabB).go callerA [] s H ⟨[.ref a], []⟩ [.ref a] [.ref a] _ _ rfl hr env (bind s (.ref a)) (.cons rfl .nil) (hsp H (fun p hp => hT _ (toT hp)) hS)) fun r s' h => ?_
    match r, h with
    | .error e, h => exact (none_out H e s' h).elim
    | .ok .next, h => exact h.elim
    | .ok .brk, h => exact h.elim
    | .ok .cont, h => exact h.elim
    | .ok (.ret u), ⟨v, H', os, bare, un, ok', rel, q⟩ =>
      cases (show v = .bl true from q)
      cases (show u = Value.bool true from rel)
      have key : ∀ b o, b ∉ cs.map (·.2) → s.heap.get? b = some o → s'.heap.get? b = some o := fun b o nb e => by
        match q : H b with
        | none => exact un.keep b o e q (fun z => absurd (show b ∈ ([] : List Addr) from z) List.not_mem_nil) (fun z => absurd z List.not_mem_nil)
        | some u =>
          rcases inv b u q with ⟨hb, _⟩ | ⟨rfl, _, rfl⟩
          · exact absurd hb nb
          · obtain ⟨e2, _⟩ := ok' b _ (un.frzs b _ _ q)
            cases ha.symm.trans e
            exact e2
      have more : ∀ p ∈ cs, ∃ m : Array Value, s'.heap.get? p.2 = some { cls := .none, data := .fields m } := fun p hp => let ⟨m, z⟩ := un.tbls p.2 #[] (hT _ (toT hp)); ⟨_, ok' p.2 _ z⟩
      refine ⟨rfl, ⟨fun b o e => ?_, fun b o e => ?_⟩, os, bare⟩
      · rcases Classical.em (b ∈ cs.map (·.2)) with hb | hb
        · obtain ⟨p, hp, rfl⟩ := List.mem_map.mp hb
          obtain ⟨m, hm⟩ := more p hp
          cases (tab p hp).symm.trans e
          exact .inr (.inl ⟨((heads p hp).tab (tab p hp)).isCodeTable, rfl, #[], m, rfl, by rw [Array.empty_append]; exact hm⟩)
        · exact .inl (key b o hb e)
      · rcases Classical.em (b ∈ cs.map (·.2)) with hb | hb
        · obtain ⟨p, hp, rfl⟩ := List.mem_map.mp hb
          obtain ⟨m, hm⟩ := more p hp
          exact ⟨_, hm⟩
        · exact ⟨o, key b o hb e⟩
  match hk : K.lookup a with
  | some o =>
    cases ha.symm.trans (inK a o hk)
    refine main (fun b => if b ∈ cs.map (·.2) then some (.tbl #[]) else none) (fun b hb => if_pos hb) (fun b u z => ?_) (.inr ⟨_, vs.toArray, _, hk, rfl, rfl, rfl, by rw [List.size_toArray, hlen]; exact hl, by simpa using rv⟩)
    rcases Classical.em (b ∈ cs.map (·.2)) with hb | hb
    · exact .inl ⟨hb, (Option.some.inj ((if_pos hb).symm.trans z)).symm⟩
    · cases (if_neg hb).symm.trans z
  | none =>
    refine main (fun b => if b ∈ cs.map (·.2) then some (.tbl #[]) else if b = a then some (.frz { cls := .type "list", data := .seq vs.toArray } (.lst (ns.map V.int))) else none) (fun b hb => if_pos hb) (fun b u z => ?_) (.inl (.inr ⟨{ cls := .type "list", data := .seq vs.toArray }, (if_neg aT).trans (if_pos rfl)⟩))
    rcases Classical.em (b ∈ cs.map (·.2)) with hb | hb
    · exact .inl ⟨hb, (Option.some.inj ((if_pos hb).symm.trans z)).symm⟩
    · have z1 := (if_neg hb).symm.trans z
      rcases Classical.em (b = a) with e | e
      · exact .inr ⟨e, hk, (Option.some.inj ((if_pos e).symm.trans z1)).symm⟩
      · cases (if_neg e).symm.trans z1
/-- what is known of the law's promise behind its top -/
def LawG (l : PySem.W.OpenLaw) (w : World) (K : PySem.W.Frag) (CX : CXT) (k n : Nat) (x : Str) (mg : Str → Option Value) (fa : Addr) (h : Heap) : Prop :=
  ∃ (fd : FuncData) (cs : List (Addr × Addr)) (sp : Sp), (∀ y ∈ cs, h.get? y.2 = some { cls := .none, data := .fields #[] }) ∧ (∀ y ∈ cs, K.lookup y.2 = none) ∧ (∀ y ∈ cs, PySem.W.CodeHd h y.1 y.2) ∧ (∀ (s : Shared) (u : Value), BindsTo s fd ⟨[u], []⟩ [(x, u)]) ∧
    (∀ (H : Hp) (a : Addr) (ns : List Int), ns.length ≤ n → (∀ z ∈ ns, Builtin.Int.intBits z ≤ 1048576) → (∀ y ∈ cs, H y.2 = some (.tbl #[])) → SqL K H a (ns.map V.int) → sp [.ref a] H (fun v _ => v = .bl true) fun _ _ _ => False) ∧
    (∀ base : Heap, K.In base → base.Ns mainGlobals mg → (∀ p ∈ cs, LamX.TabB base mg p.1 p.2) → FnG l.prog w K mg base CX k fa fd [x] sp)
theorem walkGT {l : PySem.W.OpenLaw} {n k : Nat} {q : Program} {loose : List Str} {XP : (Str → Option Value) → Heap → Prop} {YP : World → Heap → Prop} {d : DefRec} {K : Params → PySem.W.Frag} {CX : World → CXT} {x : Str} (hn : l.most = some n) (small : n ≤ sizeLine) (nodef : d.params.defaults = []) (hr : Room k callerA)
    (inY : ∀ (w : World) (h : Heap), YP w h → (K w.params).In h) (F : ∀ (w : World) (mg : Str → Option Value) (fa : Addr) (h : Heap), YP w h → (K w.params).In h → h.Ns mainGlobals mg → mg d.name = some (.ref fa) → LawG l w (K w.params) (CX w) k n x mg fa h)
    (none_out : ∀ (w : World) (H : Hp) (s : Shared) (e : Value) (s' : Shared), CX w [] H s (fun _ _ _ => False) e s' → False) : PySem.W.WalkO q loose XP YP l.row.toRowW d [] (fun f vs => PySem.call f vs) := by
  refine Att.attach_callB hn nodef fun w s0 s1 mg mb fa o pm cd doc a vs ns G Y ho hd hcd hmg hobj hints hlen hbits hg => ?_
  obtain ⟨fd, cs, sp, hT, nT, C, hb, hsp, hF⟩ := F w mg fa _ Y (inY w _ Y) G.T.g hmg
  exact law_goesT (inY w _ Y) G.T.g G.T.b G.T.builtins G.T.nolimit hg hT nT C G.T.bmain hobj hints (Nat.le_trans hlen small) hr hF hb (fun H hH hS => hsp H a ns hlen hbits hH hS) fun H e s' => none_out w H s1 e s'
end One
end P_G3

section P_H13
set_option linter.all false
set_option maxRecDepth 100000
set_option maxHeartbeats 8000000
namespace One
open PySem PySem.W PySem.Calls PyProof.Rows PySem.HandSPX L2
theorem tab_mkX {K : Frag} {x : Str} {f c Pt : Addr} {oc oc2 : Value} {od od2 : Option Addr} {fd : FuncData} {sl sl2 : Array (Option Value)} {vs : Array Value} (a : nsIn K mainGlobals x = some (some (.ref f))) (l : K.lookup f = some ⟨oc, od, .func fd, sl⟩) (hc : fd.code = .ref c)
    (lc : K.lookup c = some ⟨oc2, od2, .fields vs, sl2⟩) (hv : (vs[11]? : Option Value) = some (.ref Pt)) : tabIn K x = some (c, Pt) := by
  unfold tabIn
  rw [a]
  simp only [l, hc, lc, hv]
theorem walkGX {l : OpenLaw} {n k : Nat} {q : Program} {loose : List Str} {XP : (Str → Option Value) → Heap → Prop} {YP : World → Heap → Prop} {d : DefRec} {K : Params → Frag} {CX : World → CXT} {x : Str} (hn : l.most = some n) (small : n ≤ sizeLine) (nodef : d.params.defaults = []) (hr : Room k callerA)
    (inY : ∀ (w : World) (h : Heap), YP w h → (K w.params).In h)
    (F : ∀ (w : World) (mg : Str → Option Value) (fa : Addr) (h : Heap), YP w h → (K w.params).In h → h.Ns mainGlobals mg → mg d.name = some (.ref fa) →
      (∀ {x : Str} {dL : DefRec}, (recsOf q).find? (fun e => e.name == x) = some dL → ∀ {c P : Addr}, tabIn (K w.params) x = some (c, P) → CodeHd h c P ∧ h.get? P = some { cls := .none, data := .fields #[] }) → LawG l w (K w.params) (CX w) k n x mg fa h)
    (none_out : ∀ (w : World) (H : Hp) (s : Shared) (e : Value) (s' : Shared), CX w [] H s (fun _ _ _ => False) e s' → False) : WalkO q loose XP YP l.row.toRowW d [] (fun f vs => PySem.call f vs) := by
  refine Att.attach_callB hn nodef fun w s0 s1 mg mb fa o pm cd doc a vs ns G Y ho hd hcd hmg hobj hints hlen hbits hg => ?_
  have X := inY w _ Y
  obtain ⟨fd, cs, sp, hT, nT, C, hb, hsp, hF⟩ := F w mg fa _ Y X G.T.g hmg (@fun _ _ hrec _ _ ht => tab_of G.T X hrec ht)
  exact law_goesT X G.T.g G.T.b G.T.builtins G.T.nolimit hg hT nT C G.T.bmain hobj hints (Nat.le_trans hlen small) hr hF hb (fun H hH hS => hsp H a ns hlen hbits hH hS) fun H e s' => none_out w H s1 e s'
end One
end P_H13

section P_H11
set_option linter.all false
set_option maxRecDepth 100000
set_option maxHeartbeats 16000000
namespace One
open PySem PySem.W PySem.Calls PyProof.Rows PySem.HandSPX L2
theorem all_mk {l : OpenLaw} {w : World} {K : Frag} {h : Heap} {mg : Str → Option Value} {fa C0 i0 C3 i3 C5 i5 C6 i6 C7 i7 : Addr} {f_law c_law : Addr} {t0 t1 t2 : Tok} {f_is_number f_is_below f_reached f_need_yard f_yard_fault f_can_be_many_lines f_is_line f_is_whole f_crossings_beside f_crossings f_fars_of_lines f_mate f_put_across f_sewn_out f_closes f_lines_left f_end_behind f_closed_up f_need_setting f_ways_fault f_rounds_of f_rounds_by_fars f_round_from f_end_after f_many_rounds f_law_mixed f_law_begin f_law_draw f_law_order f_law_across f_law_yard f_law_size f_law_far f_law_outer f_law_setting f_law_home f_law_below f_law_across_right f_law_without f_law_sewn_right : Addr} {e_is_number e_is_below e_reached e_need_yard e_yard_fault e_can_be_many_lines e_is_line e_is_whole e_crossings_beside e_crossings e_fars_of_lines e_mate e_put_across e_sewn_out e_closes e_lines_left e_end_behind e_closed_up e_need_setting e_ways_fault e_rounds_of e_rounds_by_fars e_round_from e_end_after e_many_rounds e_law_mixed e_law_begin e_law_draw e_law_order e_law_across e_law_yard e_law_size e_law_far e_law_outer e_law_setting e_law_home e_law_below e_law_across_right e_law_without e_law_sewn_right : FuncData} {oc kV doc pm ct : Value} {od an : Option Addr} {sl : Array (Option Value)}
    (X : K.In h) (G : h.Ns mainGlobals mg) (hfa : mg "law" = some (.ref fa))
    (z_len : nsIn K mainGlobals "len" = some none)
    (z_range : nsIn K mainGlobals "range" = some none)
    (z_tuple : nsIn K mainGlobals "tuple" = some none)
    (z_list : nsIn K mainGlobals "list" = some none)
    (z_sorted : nsIn K mainGlobals "sorted" = some none)
    (z_enumerate : nsIn K mainGlobals "enumerate" = some none)
    (z_isinstance : nsIn K mainGlobals "isinstance" = some none)
    (z_int : nsIn K mainGlobals "int" = some none)
    (z_bool : nsIn K mainGlobals "bool" = some none)
    (z_repr : nsIn K mainGlobals "repr" = some none)
    (z_all : nsIn K mainGlobals "all" = some none)
    (z_super : nsIn K mainGlobals "super" = some none)
    (z_min : nsIn K mainGlobals "min" = some none)
    (z_max : nsIn K mainGlobals "max" = some none)
    (k_MOST_CROSSINGS : nsIn K mainGlobals "MOST_CROSSINGS" = some (some (.int 40 t0)))
    (k_PLACES : nsIn K mainGlobals "PLACES" = some (some (.int 4 t1)))
    (k_MANY_WAYS : nsIn K mainGlobals "MANY_WAYS" = some (some (.int 3 t2)))
    (d_is_number : DefAt K "is_number" (top 8) f_is_number e_is_number)
    (d_is_below : DefAt K "is_below" (top 9) f_is_below e_is_below)
    (d_reached : DefAt K "reached" (top 11) f_reached e_reached)
    (d_need_yard : DefAt K "need_yard" (top 16) f_need_yard e_need_yard)
    (d_yard_fault : DefAt K "yard_fault" (top 17) f_yard_fault e_yard_fault)
    (d_can_be_many_lines : DefAt K "can_be_many_lines" (top 18) f_can_be_many_lines e_can_be_many_lines)
    (d_is_line : DefAt K "is_line" (top 19) f_is_line e_is_line)
    (d_is_whole : DefAt K "is_whole" (top 20) f_is_whole e_is_whole)
    (d_crossings_beside : DefAt K "crossings_beside" (top 21) f_crossings_beside e_crossings_beside)
    (d_crossings : DefAt K "crossings" (top 22) f_crossings e_crossings)
    (d_fars_of_lines : DefAt K "fars_of_lines" (top 23) f_fars_of_lines e_fars_of_lines)
    (d_mate : DefAt K "mate" (top 24) f_mate e_mate)
    (d_put_across : DefAt K "put_across" (top 25) f_put_across e_put_across)
    (d_sewn_out : DefAt K "sewn_out" (top 26) f_sewn_out e_sewn_out)
    (d_closes : DefAt K "closes" (top 27) f_closes e_closes)
    (d_lines_left : DefAt K "lines_left" (top 28) f_lines_left e_lines_left)
    (d_end_behind : DefAt K "end_behind" (top 29) f_end_behind e_end_behind)
    (d_closed_up : DefAt K "closed_up" (top 30) f_closed_up e_closed_up)
    (d_need_setting : DefAt K "need_setting" (top 32) f_need_setting e_need_setting)
    (d_ways_fault : DefAt K "ways_fault" (top 33) f_ways_fault e_ways_fault)
    (d_rounds_of : DefAt K "rounds_of" (top 34) f_rounds_of e_rounds_of)
    (d_rounds_by_fars : DefAt K "rounds_by_fars" (top 35) f_rounds_by_fars e_rounds_by_fars)
    (d_round_from : DefAt K "round_from" (top 36) f_round_from e_round_from)
    (d_end_after : DefAt K "end_after" (top 37) f_end_after e_end_after)
    (d_many_rounds : DefAt K "many_rounds" (top 38) f_many_rounds e_many_rounds)
    (d_law_mixed : DefAt K "_law_mixed" (top 40) f_law_mixed e_law_mixed)
    (d_law_begin : DefAt K "_law_begin" (top 41) f_law_begin e_law_begin)
    (d_law_draw : DefAt K "_law_draw" (top 42) f_law_draw e_law_draw)
    (d_law_order : DefAt K "_law_order" (top 43) f_law_order e_law_order)
    (d_law_across : DefAt K "_law_across" (top 44) f_law_across e_law_across)
    (d_law_yard : DefAt K "_law_yard" (top 45) f_law_yard e_law_yard)
    (d_law_size : DefAt K "_law_size" (top 46) f_law_size e_law_size)
    (d_law_far : DefAt K "_law_far" (top 47) f_law_far e_law_far)
    (d_law_outer : DefAt K "_law_outer" (top 48) f_law_outer e_law_outer)
    (d_law_setting : DefAt K "_law_setting" (top 49) f_law_setting e_law_setting)
    (d_law_home : DefAt K "_law_home" (top 50) f_law_home e_law_home)
    (d_law_below : DefAt K "_law_below" (top 51) f_law_below e_law_below)
    (d_law_across_right : DefAt K "_law_across_right" (top 52) f_law_across_right e_law_across_right)
    (d_law_without : DefAt K "_law_without" (top 53) f_law_without e_law_without)
    (d_law_sewn_right : DefAt K "_law_sewn_right" (top 54) f_law_sewn_right e_law_sewn_right)
    (k0 : ClsAt l.prog K "BadYard" (initOf (top 2)) "place" C0 i0) (k3 : ClsAt l.prog K "BadSetting" (initOf (top 3)) "place" C3 i3) (k5 : ClsAt l.prog K "OutOfPlace" (initOf (top 4)) "place" C5 i5) (k6 : ClsAt l.prog K "Barred" (initOf (top 5)) "way" C6 i6) (k7 : ClsAt l.prog K "TooMany" (initOf (top 6)) "many" C7 i7)
    (r6 : BarF K C6)
    (lawNs : nsIn K mainGlobals "law" = some (some (.ref f_law))) (lawLk : K.lookup f_law = some ⟨oc, od, .func (fnOf "law" "law" (defArgs sLaw) (defBody sLaw) (defScope sLaw) .none kV doc pm an (.ref c_law) ct), sl⟩) (lawCd : codeIn K (.ref c_law) "law" = true) (lawKp : keepIn K (.ref f_law) = true)
 : LawG l w K CX0 11 63 "script" mg fa h := by
  have e := hfa.symm.trans (mg_of X G lawNs)
  cases e
  refine ⟨fnOf "law" "law" (defArgs sLaw) (defBody sLaw) (defScope sLaw) .none kV doc pm an (.ref c_law) ct, [], spLaw K , (fun p hp => absurd hp List.not_mem_nil), (fun p hp => absurd hp List.not_mem_nil), (fun p hp => absurd hp List.not_mem_nil), fun s u => .of_eq rfl, fun H a ns hl _ hT hS => ⟨a, ns, rfl, hS, hl, fun _ => rfl⟩, fun base inB nsB tB => ?_⟩
  have no : ∀ {x : Str}, nsIn K mainGlobals x = some none → mg x = none := fun z => mg_none_of X G z
  have T : TB mg := ⟨no z_len, no z_range, no z_tuple, no z_list, no z_sorted, no z_enumerate, no z_isinstance, no z_int, no z_bool, no z_repr, no z_all⟩
  have TCo : TC mg := ⟨⟨_, mg_of X G k_MOST_CROSSINGS⟩, ⟨_, mg_of X G k_PLACES⟩⟩
  have noS : mg "super" = none := no z_super
  have c_is_number := d_is_number.cal (ps := ["thing"]) X G fun _ _ _ _ _ _ us hl => match us, hl with | [_], _ => rfl
  have c_is_below := d_is_below.cal (ps := ["thing", "many"]) X G fun _ _ _ _ _ _ us hl => match us, hl with | [_, _], _ => rfl
  have c_reached := d_reached.cal (ps := ["beside", "start"]) X G fun _ _ _ _ _ _ us hl => match us, hl with | [_, _], _ => rfl
  have c_need_yard := d_need_yard.cal (ps := ["thing"]) X G fun _ _ _ _ _ _ us hl => match us, hl with | [_], _ => rfl
  have c_yard_fault := d_yard_fault.cal (ps := ["thing"]) X G fun _ _ _ _ _ _ us hl => match us, hl with | [_], _ => rfl
  have c_can_be_many_lines := d_can_be_many_lines.cal (ps := ["many"]) X G fun _ _ _ _ _ _ us hl => match us, hl with | [_], _ => rfl
  have c_is_line := d_is_line.cal (ps := ["thing", "many_ends"]) X G fun _ _ _ _ _ _ us hl => match us, hl with | [_, _], _ => rfl
  have c_is_whole := d_is_whole.cal (ps := ["lines"]) X G fun _ _ _ _ _ _ us hl => match us, hl with | [_], _ => rfl
  have c_crossings_beside := d_crossings_beside.cal (ps := ["lines", "many"]) X G fun _ _ _ _ _ _ us hl => match us, hl with | [_, _], _ => rfl
  have c_crossings := d_crossings.cal (ps := ["yard"]) X G fun _ _ _ _ _ _ us hl => match us, hl with | [_], _ => rfl
  have c_fars_of_lines := d_fars_of_lines.cal (ps := ["lines"]) X G fun _ _ _ _ _ _ us hl => match us, hl with | [_], _ => rfl
  have c_mate := d_mate.cal (ps := ["end", "way"]) X G fun _ _ _ _ _ _ us hl => match us, hl with | [_, _], _ => rfl
  have c_put_across := d_put_across.cal (ps := ["yard", "line", "other"]) X G fun _ _ _ _ _ _ us hl => match us, hl with | [_, _, _], _ => rfl
  have c_sewn_out := d_sewn_out.cal (ps := ["yard", "crossing", "way"]) X G fun _ _ _ _ _ _ us hl => match us, hl with | [_, _, _], _ => rfl
  have c_closes := d_closes.cal (ps := ["fars", "crossing", "way"]) X G fun _ _ _ _ _ _ us hl => match us, hl with | [_, _, _], _ => rfl
  have c_lines_left := d_lines_left.cal (ps := ["fars", "crossing", "way"]) X G fun _ _ _ _ _ _ us hl => match us, hl with | [_, _, _], _ => rfl
  have c_end_behind := d_end_behind.cal (ps := ["fars", "end", "crossing", "way"]) X G fun _ _ _ _ _ _ us hl => match us, hl with | [_, _, _, _], _ => rfl
  have c_closed_up := d_closed_up.cal (ps := ["end", "crossing"]) X G fun _ _ _ _ _ _ us hl => match us, hl with | [_, _], _ => rfl
  have c_need_setting := d_need_setting.cal (ps := ["yard", "thing"]) X G fun _ _ _ _ _ _ us hl => match us, hl with | [_, _], _ => rfl
  have c_ways_fault := d_ways_fault.cal (ps := ["thing", "many", "is_draft"]) X G fun _ _ _ _ _ _ us hl => match us, hl with | [_, _, _], _ => rfl
  have c_rounds_of := d_rounds_of.cal (ps := ["yard", "setting"]) X G fun _ _ _ _ _ _ us hl => match us, hl with | [_, _], _ => rfl
  have c_rounds_by_fars := d_rounds_by_fars.cal (ps := ["fars", "setting"]) X G fun _ _ _ _ _ _ us hl => match us, hl with | [_, _], _ => rfl
  have c_round_from := d_round_from.cal (ps := ["fars", "setting", "start"]) X G fun _ _ _ _ _ _ us hl => match us, hl with | [_, _, _], _ => rfl
  have c_end_after := d_end_after.cal (ps := ["fars", "setting", "end"]) X G fun _ _ _ _ _ _ us hl => match us, hl with | [_, _, _], _ => rfl
  have c_many_rounds := d_many_rounds.cal (ps := ["yard", "setting"]) X G fun _ _ _ _ _ _ us hl => match us, hl with | [_, _], _ => rfl
  have c_law_mixed := d_law_mixed.cal (ps := ["cell", "k"]) X G fun _ _ _ _ _ _ us hl => match us, hl with | [_, _], _ => rfl
  have c_law_begin := d_law_begin.cal (ps := ["script"]) X G fun _ _ _ _ _ _ us hl => match us, hl with | [_], _ => rfl
  have c_law_draw := d_law_draw.cal (ps := ["state", "many"]) X G fun _ _ _ _ _ _ us hl => match us, hl with | [_, _], _ => rfl
  have c_law_order := d_law_order.cal (ps := ["state", "size"]) X G fun _ _ _ _ _ _ us hl => match us, hl with | [_, _], _ => rfl
  have c_law_across := d_law_across.cal (ps := ["lines", "many", "one", "other"]) X G fun _ _ _ _ _ _ us hl => match us, hl with | [_, _, _, _], _ => rfl
  have c_law_yard := d_law_yard.cal (ps := ["state", "many"]) X G fun _ _ _ _ _ _ us hl => match us, hl with | [_, _], _ => rfl
  have c_law_size := d_law_size.cal (ps := ["state", "most"]) X G fun _ _ _ _ _ _ us hl => match us, hl with | [_, _], _ => rfl
  have c_law_far := d_law_far.cal (ps := ["yard"]) X G fun _ _ _ _ _ _ us hl => match us, hl with | [_], _ => rfl
  have c_law_outer := d_law_outer.cal (ps := ["fars", "setting", "crossing"]) X G fun _ _ _ _ _ _ us hl => match us, hl with | [_, _, _], _ => rfl
  have c_law_setting := d_law_setting.cal (ps := ["state", "fars"]) X G fun _ _ _ _ _ _ us hl => match us, hl with | [_, _], _ => rfl
  have c_law_home := d_law_home.cal (ps := ["told", "line"]) X G fun _ _ _ _ _ _ us hl => match us, hl with | [_, _], _ => rfl
  have c_law_below := d_law_below.cal (ps := ["some", "first"]) X G fun _ _ _ _ _ _ us hl => match us, hl with | [_, _], _ => rfl
  have c_law_across_right := d_law_across_right.cal (ps := ["state", "yard", "setting"]) X G fun _ _ _ _ _ _ us hl => match us, hl with | [_, _, _], _ => rfl
  have c_law_without := d_law_without.cal (ps := ["yard", "crossing", "way"]) X G fun _ _ _ _ _ _ us hl => match us, hl with | [_, _, _], _ => rfl
  have c_law_sewn_right := d_law_sewn_right.cal (ps := ["state", "yard", "setting"]) X G fun _ _ _ _ _ _ us hl => match us, hl with | [_, _, _], _ => rfl
  have G_is_number := ok_isnum (P := l.prog) (w := w) (base := base) d_is_number.fn T
  have G_is_below := ok_isbelow d_is_below.fn c_is_number G_is_number
  have G_can := ok_canbe (P := l.prog) (w := w) (base := base) d_can_be_many_lines.fn T TCo
  have G_is_line := ok_isline d_is_line.fn T c_is_below G_is_below
  have G_reached := ok_reached (P := l.prog) (w := w) (base := base) d_reached.fn T
  have G_beside := ok_besideX (P := l.prog) (w := w) (base := base) d_crossings_beside.fn T TCo
  have G_whole := ok_iswhole d_is_whole.fn T c_reached G_reached c_crossings_beside G_beside
  have G_fault := ok_fault d_yard_fault.fn T c_can_be_many_lines G_can c_is_line G_is_line c_is_whole G_whole
  have G_need := ok_need d_need_yard.fn k0.own (k0.cls X G) noS c_yard_fault G_fault
  have G_cross := ok_cross d_crossings.fn T c_need_yard G_need
  have G_fars := ok_fars (P := l.prog) (w := w) (base := base) d_fars_of_lines.fn T
  have G_mate := ok_mate (P := l.prog) (w := w) (mg := mg) (base := base) d_mate.fn
  have G_up := ok_up (P := l.prog) (w := w) (base := base) d_closed_up.fn TCo
  have G_behind := ok_behind d_end_behind.fn TCo c_mate G_mate
  have G_closes := ok_closes d_closes.fn T TCo c_mate G_mate
  have G_left := ok_left d_lines_left.fn T TCo c_end_behind G_behind c_closed_up G_up
  have G_put := ok_put d_put_across.fn T TCo k5.own (k5.cls X G) k7.own (k7.cls X G) noS c_crossings G_cross c_is_below G_is_below
  have G_sewn := ok_sewn d_sewn_out.fn ⟨_, mg_of X G k_MANY_WAYS⟩ k5.own (k5.cls X G) k6.own (k6.cls X G) noS c_crossings G_cross c_is_below G_is_below c_fars_of_lines G_fars c_closes G_closes c_lines_left G_left c_is_whole G_whole
  have G_ea := ok_ea d_end_after.fn TCo c_mate G_mate
  have G_rf := ok_rf d_round_from.fn T c_end_after G_ea
  have G_rb := ok_rb d_rounds_by_fars.fn T c_round_from G_rf
  have G_ways := ok_ways d_ways_fault.fn T ⟨_, mg_of X G k_MANY_WAYS⟩ c_is_below G_is_below
  have G_ns := ok_ns d_need_setting.fn k3.own (k3.cls X G) noS c_ways_fault G_ways c_crossings G_cross
  have G_ro := ok_ro d_rounds_of.fn c_need_setting G_ns c_rounds_by_fars G_rb c_fars_of_lines G_fars
  have G_mr := ok_mr d_many_rounds.fn T c_rounds_of G_ro
  have G_mixed := ok_mixed (P := l.prog) (w := w) (mg := mg) (base := base) d_law_mixed.fn
  have G_begin := ok_begin (P := l.prog) (w := w) (base := base) d_law_begin.fn T
  have G_draw := ok_draw d_law_draw.fn T c_law_mixed G_mixed
  have G_order := ok_order d_law_order.fn T c_law_draw G_draw
  have G_across := ok_across (P := l.prog) (w := w) (base := base) d_law_across.fn T
  have G_yard := ok_yard d_law_yard.fn T (no z_min) (no z_max) c_law_draw G_draw c_law_order G_order c_law_across G_across
  have G_size := ok_size d_law_size.fn (no z_min) c_law_draw G_draw
  have G_far := ok_far (P := l.prog) (w := w) (mg := mg) (base := base) d_law_far.fn
  have G_outer := ok_outer (P := l.prog) (w := w) (mg := mg) (base := base) d_law_outer.fn
  have G_setting := ok_setting d_law_setting.fn T c_law_draw G_draw c_law_order G_order c_law_outer G_outer
  have G_ho := ok_ho (P := l.prog) (w := w) (base := base) d_law_home.fn T
  have G_be := ok_be (P := l.prog) (w := w) (base := base) d_law_below.fn T
  have G_ac := ok_ac d_law_across_right.fn T c_law_draw G_draw c_put_across G_put c_rounds_of G_ro c_law_below G_be c_law_home G_ho c_many_rounds G_mr
  have BC : BarC K mg C6 := ⟨mg_of X G k6.ns, r6.xf, r6.no, r6.exm⟩
  have G_wo := ok_wo d_law_without.fn BC c_sewn_out G_sewn
  have G_se := ok_se d_law_sewn_right.fn T c_law_draw G_draw c_many_rounds G_mr c_law_without G_wo
  exact ok_law (fun_mk lawLk lawCd lawKp) T c_law_begin G_begin c_law_yard G_yard c_law_size G_size c_law_far G_far c_law_setting G_setting c_law_across_right G_ac c_law_sewn_right G_se
end One
end P_H11

open PySem PySem.W PyProof.Rows in
set_option maxRecDepth 100000 in
set_option maxHeartbeats 0 in
theorem PySem.Challenge.cw_oneround_k13_whole_across_and_sewn_out_holds : PySem.Challenge.rw_oneround_k13_whole_across_and_sewn_out.Holds := by
  w_on; o_law; k_head; (case hw => w_witness2)
  k_fill
  refine One.walkGX (l := PySem.Challenge.rw_oneround_k13_whole_across_and_sewn_out) (n := 63) (k := 11) (CX := fun _ => L2.CX0) (x := "script") rfl (by decide) rfl ⟨rfl, by decide, by decide⟩ (fun w h Y => PySem.W.kIn_of Y) ?F (fun _ _ _ _ _ z => z)
  case F =>
    intro w mg fa h Y KX G hmg tabs
    refine' One.all_mk KX G hmg  ?z_len ?z_range ?z_tuple ?z_list ?z_sorted ?z_enumerate ?z_isinstance ?z_int ?z_bool ?z_repr ?z_all ?z_super ?z_min ?z_max ?k_MOST_CROSSINGS ?k_PLACES ?k_MANY_WAYS ?d_is_number ?d_is_below ?d_reached ?d_need_yard ?d_yard_fault ?d_can_be_many_lines ?d_is_line ?d_is_whole ?d_crossings_beside ?d_crossings ?d_fars_of_lines ?d_mate ?d_put_across ?d_sewn_out ?d_closes ?d_lines_left ?d_end_behind ?d_closed_up ?d_need_setting ?d_ways_fault ?d_rounds_of ?d_rounds_by_fars ?d_round_from ?d_end_after ?d_many_rounds ?d_law_mixed ?d_law_begin ?d_law_draw ?d_law_order ?d_law_across ?d_law_yard ?d_law_size ?d_law_far ?d_law_outer ?d_law_setting ?d_law_home ?d_law_below ?d_law_across_right ?d_law_without ?d_law_sewn_right ?k0 ?k3 ?k5 ?k6 ?k7 ?r6 ?lawNs ?lawLk ?lawCd ?lawKp
    (case z_len => k_is)
    (case z_range => k_is)
    (case z_tuple => k_is)
    (case z_list => k_is)
    (case z_sorted => k_is)
    (case z_enumerate => k_is)
    (case z_isinstance => k_is)
    (case z_int => k_is)
    (case z_bool => k_is)
    (case z_repr => k_is)
    (case z_all => k_is)
    (case z_super => k_is)
    (case z_min => k_is)
    (case z_max => k_is)
    (case k_MOST_CROSSINGS => k_is)
    (case k_PLACES => k_is)
    (case k_MANY_WAYS => k_is)
    (case d_is_number => refine' One.def_at ?a ?l ?c ?k; (case a => k_is); (case l => k_is); (case c => k_is); (case k => k_is))
    (case d_is_below => refine' One.def_at ?a ?l ?c ?k; (case a => k_is); (case l => k_is); (case c => k_is); (case k => k_is))
    (case d_reached => refine' One.def_at ?a ?l ?c ?k; (case a => k_is); (case l => k_is); (case c => k_is); (case k => k_is))
    (case d_need_yard => refine' One.def_at ?a ?l ?c ?k; (case a => k_is); (case l => k_is); (case c => k_is); (case k => k_is))
    (case d_yard_fault => refine' One.def_at ?a ?l ?c ?k; (case a => k_is); (case l => k_is); (case c => k_is); (case k => k_is))
    (case d_can_be_many_lines => refine' One.def_at ?a ?l ?c ?k; (case a => k_is); (case l => k_is); (case c => k_is); (case k => k_is))
    (case d_is_line => refine' One.def_at ?a ?l ?c ?k; (case a => k_is); (case l => k_is); (case c => k_is); (case k => k_is))
    (case d_is_whole => refine' One.def_at ?a ?l ?c ?k; (case a => k_is); (case l => k_is); (case c => k_is); (case k => k_is))
    (case d_crossings_beside => refine' One.def_at ?a ?l ?c ?k; (case a => k_is); (case l => k_is); (case c => k_is); (case k => k_is))
    (case d_crossings => refine' One.def_at ?a ?l ?c ?k; (case a => k_is); (case l => k_is); (case c => k_is); (case k => k_is))
    (case d_fars_of_lines => refine' One.def_at ?a ?l ?c ?k; (case a => k_is); (case l => k_is); (case c => k_is); (case k => k_is))
    (case d_mate => refine' One.def_at ?a ?l ?c ?k; (case a => k_is); (case l => k_is); (case c => k_is); (case k => k_is))
    (case d_put_across => refine' One.def_at ?a ?l ?c ?k; (case a => k_is); (case l => k_is); (case c => k_is); (case k => k_is))
    (case d_sewn_out => refine' One.def_at ?a ?l ?c ?k; (case a => k_is); (case l => k_is); (case c => k_is); (case k => k_is))
    (case d_closes => refine' One.def_at ?a ?l ?c ?k; (case a => k_is); (case l => k_is); (case c => k_is); (case k => k_is))
    (case d_lines_left => refine' One.def_at ?a ?l ?c ?k; (case a => k_is); (case l => k_is); (case c => k_is); (case k => k_is))
    (case d_end_behind => refine' One.def_at ?a ?l ?c ?k; (case a => k_is); (case l => k_is); (case c => k_is); (case k => k_is))
    (case d_closed_up => refine' One.def_at ?a ?l ?c ?k; (case a => k_is); (case l => k_is); (case c => k_is); (case k => k_is))
    (case d_need_setting => refine' One.def_at ?a ?l ?c ?k; (case a => k_is); (case l => k_is); (case c => k_is); (case k => k_is))
    (case d_ways_fault => refine' One.def_at ?a ?l ?c ?k; (case a => k_is); (case l => k_is); (case c => k_is); (case k => k_is))
    (case d_rounds_of => refine' One.def_at ?a ?l ?c ?k; (case a => k_is); (case l => k_is); (case c => k_is); (case k => k_is))
    (case d_rounds_by_fars => refine' One.def_at ?a ?l ?c ?k; (case a => k_is); (case l => k_is); (case c => k_is); (case k => k_is))
    (case d_round_from => refine' One.def_at ?a ?l ?c ?k; (case a => k_is); (case l => k_is); (case c => k_is); (case k => k_is))
    (case d_end_after => refine' One.def_at ?a ?l ?c ?k; (case a => k_is); (case l => k_is); (case c => k_is); (case k => k_is))
    (case d_many_rounds => refine' One.def_at ?a ?l ?c ?k; (case a => k_is); (case l => k_is); (case c => k_is); (case k => k_is))
    (case d_law_mixed => refine' One.def_at ?a ?l ?c ?k; (case a => k_is); (case l => k_is); (case c => k_is); (case k => k_is))
    (case d_law_begin => refine' One.def_at ?a ?l ?c ?k; (case a => k_is); (case l => k_is); (case c => k_is); (case k => k_is))
    (case d_law_draw => refine' One.def_at ?a ?l ?c ?k; (case a => k_is); (case l => k_is); (case c => k_is); (case k => k_is))
    (case d_law_order => refine' One.def_at ?a ?l ?c ?k; (case a => k_is); (case l => k_is); (case c => k_is); (case k => k_is))
    (case d_law_across => refine' One.def_at ?a ?l ?c ?k; (case a => k_is); (case l => k_is); (case c => k_is); (case k => k_is))
    (case d_law_yard => refine' One.def_at ?a ?l ?c ?k; (case a => k_is); (case l => k_is); (case c => k_is); (case k => k_is))
    (case d_law_size => refine' One.def_at ?a ?l ?c ?k; (case a => k_is); (case l => k_is); (case c => k_is); (case k => k_is))
    (case d_law_far => refine' One.def_at ?a ?l ?c ?k; (case a => k_is); (case l => k_is); (case c => k_is); (case k => k_is))
    (case d_law_outer => refine' One.def_at ?a ?l ?c ?k; (case a => k_is); (case l => k_is); (case c => k_is); (case k => k_is))
    (case d_law_setting => refine' One.def_at ?a ?l ?c ?k; (case a => k_is); (case l => k_is); (case c => k_is); (case k => k_is))
    (case d_law_home => refine' One.def_at ?a ?l ?c ?k; (case a => k_is); (case l => k_is); (case c => k_is); (case k => k_is))
    (case d_law_below => refine' One.def_at ?a ?l ?c ?k; (case a => k_is); (case l => k_is); (case c => k_is); (case k => k_is))
    (case d_law_across_right => refine' One.def_at ?a ?l ?c ?k; (case a => k_is); (case l => k_is); (case c => k_is); (case k => k_is))
    (case d_law_without => refine' One.def_at ?a ?l ?c ?k; (case a => k_is); (case l => k_is); (case c => k_is); (case k => k_is))
    (case d_law_sewn_right => refine' One.def_at ?a ?l ?c ?k; (case a => k_is); (case l => k_is); (case c => k_is); (case k => k_is))
    (case k0 => refine' One.cls_at ?ns ?xL ?al ?sa ?noF ?veB ?slf ?op ?tp ?sh ?iC ?l1 ?c1 ?lc ?hvs ?hfile ?lcc ?tC ?kC ?exC ?tyC; (case ns => k_is); (case xL => k_is); (case al => refine' One.al_of ?xR ?fR; (case xR => k_is); (case fR => k_is)); (case sa => k_is); (case noF => k_is); (case veB => k_is); (case slf => k_is); (case op => k_is); (case tp => rfl); (case sh => exact One.shape0); (case iC => k_is); (case l1 => k_is); (case c1 => k_is); (case lc => k_is); (case hvs => first | rfl | k_is); (case hfile => first | rfl | decide +kernel | k_is); (case lcc => k_is); (case tC => k_is); (case kC => k_is); (case exC => k_is); (case tyC => k_is))
    (case k3 => refine' One.cls_at ?ns ?xL ?al ?sa ?noF ?veB ?slf ?op ?tp ?sh ?iC ?l1 ?c1 ?lc ?hvs ?hfile ?lcc ?tC ?kC ?exC ?tyC; (case ns => k_is); (case xL => k_is); (case al => refine' One.al_of ?xR ?fR; (case xR => k_is); (case fR => k_is)); (case sa => k_is); (case noF => k_is); (case veB => k_is); (case slf => k_is); (case op => k_is); (case tp => rfl); (case sh => exact One.shape3); (case iC => k_is); (case l1 => k_is); (case c1 => k_is); (case lc => k_is); (case hvs => first | rfl | k_is); (case hfile => first | rfl | decide +kernel | k_is); (case lcc => k_is); (case tC => k_is); (case kC => k_is); (case exC => k_is); (case tyC => k_is))
    (case k5 => refine' One.cls_at ?ns ?xL ?al ?sa ?noF ?veB ?slf ?op ?tp ?sh ?iC ?l1 ?c1 ?lc ?hvs ?hfile ?lcc ?tC ?kC ?exC ?tyC; (case ns => k_is); (case xL => k_is); (case al => refine' One.al_of ?xR ?fR; (case xR => k_is); (case fR => k_is)); (case sa => k_is); (case noF => k_is); (case veB => k_is); (case slf => k_is); (case op => k_is); (case tp => rfl); (case sh => exact One.shape5); (case iC => k_is); (case l1 => k_is); (case c1 => k_is); (case lc => k_is); (case hvs => first | rfl | k_is); (case hfile => first | rfl | decide +kernel | k_is); (case lcc => k_is); (case tC => k_is); (case kC => k_is); (case exC => k_is); (case tyC => k_is))
    (case k6 => refine' One.cls_at ?ns ?xL ?al ?sa ?noF ?veB ?slf ?op ?tp ?sh ?iC ?l1 ?c1 ?lc ?hvs ?hfile ?lcc ?tC ?kC ?exC ?tyC; (case ns => k_is); (case xL => k_is); (case al => refine' One.al_of ?xR ?fR; (case xR => k_is); (case fR => k_is)); (case sa => k_is); (case noF => k_is); (case veB => k_is); (case slf => k_is); (case op => k_is); (case tp => rfl); (case sh => exact One.shape6); (case iC => k_is); (case l1 => k_is); (case c1 => k_is); (case lc => k_is); (case hvs => first | rfl | k_is); (case hfile => first | rfl | decide +kernel | k_is); (case lcc => k_is); (case tC => k_is); (case kC => k_is); (case exC => k_is); (case tyC => k_is))
    (case k7 => refine' One.cls_at ?ns ?xL ?al ?sa ?noF ?veB ?slf ?op ?tp ?sh ?iC ?l1 ?c1 ?lc ?hvs ?hfile ?lcc ?tC ?kC ?exC ?tyC; (case ns => k_is); (case xL => k_is); (case al => refine' One.al_of ?xR ?fR; (case xR => k_is); (case fR => k_is)); (case sa => k_is); (case noF => k_is); (case veB => k_is); (case slf => k_is); (case op => k_is); (case tp => rfl); (case sh => exact One.shape7); (case iC => k_is); (case l1 => k_is); (case c1 => k_is); (case lc => k_is); (case hvs => first | rfl | k_is); (case hfile => first | rfl | decide +kernel | k_is); (case lcc => k_is); (case tC => k_is); (case kC => k_is); (case exC => k_is); (case tyC => k_is))
    (case r6 => refine' One.bar_of ?hg ?hk ?hs ?hd ?no ?u3 ?u4; (case hg => k_is); (case hk => k_is); (case hs => k_is); (case hd => k_is); (case no => k_is); (case u3 => k_is); (case u4 => k_is))
    (case lawNs => k_is)
    (case lawLk => k_is)
    (case lawCd => k_is)
    (case lawKp => k_is)
