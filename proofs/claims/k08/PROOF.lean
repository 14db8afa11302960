import PyProof.Rows.All
import Wide.All
import OpenK.AllK
import Wide.FinOn
import HandS.ForMost
import HandS.Wide
import HandS.Codes
import HandS.Flow
import HandS.SortRule
import HandS.IsInst
import HandS.Conv
import HandS.TupLe
import KE.GoesMore
import HandS.Lambda
import HandS.ExcInit
import HandS.ExcIs
import HandS.ExcField
import HandS.ExcValue
import HandS.RaiseMore
import KE.KExcSuper
import HandS.WordsExc
import PyProof.ReprRoads
import PySem.Challenge.RW_oneround_k08_whole_sewn_down_and_grown
import HandS.Walk
import HandS.Ends
import HandS.EndTab
import HandS.FStrTup
import KE.KExcIs
import HandS.Text
import HandS.ExcSuper
import HandS.Deep
import HandS.Style
set_option Elab.async false

section P_M1
set_option linter.all false
/-! Lines, yards: the mathematics of what a law's own growing and calling makes. -/
namespace One
/-- the ends of lines -/
def ends : List (Nat × Nat) → List Nat
  | [] => []
  | p :: r => p.1 :: p.2 :: ends r
/-- the items whose place, counted from k, is let by p -/
def keepIx {α : Type} (p : Nat → Bool) : Nat → List α → List α
  | _, [] => []
  | k, x :: r => if p k then x :: keepIx p (k + 1) r else keepIx p (k + 1) r
theorem ends_append : ∀ (a b : List (Nat × Nat)), ends (a ++ b) = ends a ++ ends b
  | [], _ => rfl
  | p :: r, b => by simp [ends, ends_append r b]
theorem ends_perm {a b : List (Nat × Nat)} (h : a.Perm b) : (ends a).Perm (ends b) := by
  induction h with
  | nil => exact .refl _
  | cons x _ ih => exact .cons _ (.cons _ ih)
  | swap x y l => 
    show (y.1 :: y.2 :: x.1 :: x.2 :: ends l).Perm (x.1 :: x.2 :: y.1 :: y.2 :: ends l)
    have : ([y.1, y.2] ++ ([x.1, x.2] ++ ends l)).Perm ([x.1, x.2] ++ ([y.1, y.2] ++ ends l)) := by
      rw [← List.append_assoc, ← List.append_assoc]
      exact List.Perm.append_right _ List.perm_append_comm
    exact this
  | trans _ _ i j => exact i.trans j
theorem ends_length : ∀ a : List (Nat × Nat), (ends a).length = 2 * a.length
  | [] => rfl
  | p :: r => by simp [ends, ends_length r]; omega
theorem mem_ends : ∀ {a : List (Nat × Nat)} {e : Nat}, e ∈ ends a ↔ ∃ p ∈ a, e = p.1 ∨ e = p.2
  | [], e => by simp [ends]
  | p :: r, e => by
    simp only [ends, List.mem_cons, mem_ends (a := r)]
    constructor
    · rintro (h | h | ⟨q, hq, h⟩)
      · exact ⟨p, .inl rfl, .inl h⟩
      · exact ⟨p, .inl rfl, .inr h⟩
      · exact ⟨q, .inr hq, h⟩
    · rintro ⟨q, rfl | hq, h⟩
      · rcases h with h | h
        · exact .inl h
        · exact .inr (.inl h)
      · exact .inr (.inr ⟨q, hq, h⟩)
theorem keepIx_length_le {α : Type} (p : Nat → Bool) : ∀ (k : Nat) (l : List α), (keepIx p k l).length ≤ l.length
  | _, [] => Nat.le_refl _
  | k, x :: r => by
    unfold keepIx
    have := keepIx_length_le p (k + 1) r
    split <;> simp <;> omega
theorem keepIx_snoc {α : Type} (p : Nat → Bool) : ∀ (k : Nat) (l : List α) (x : α), keepIx p k (l ++ [x]) = keepIx p k l ++ (if p (k + l.length) then [x] else [])
  | k, [], x => by simp [keepIx]
  | k, y :: r, x => by
    simp only [List.cons_append, keepIx, keepIx_snoc p (k + 1) r x, List.length_cons]
    have : k + 1 + r.length = k + (r.length + 1) := by omega
    rw [this]
    split <;> simp
theorem keepIx_congr {α : Type} {p q : Nat → Bool} : ∀ (k : Nat) (l : List α), (∀ m, k ≤ m → p m = q m) → keepIx p k l = keepIx q k l
  | _, [], _ => rfl
  | k, x :: r, h => by
    unfold keepIx
    rw [h k (Nat.le_refl _), keepIx_congr (k + 1) r (fun m hm => h m (by omega))]
theorem keepIx_out {α : Type} (p : Nat → Bool) : ∀ (k i : Nat) (l : List α) (x : α), l[i]? = some x → p (k + i) = true → (keepIx p k l).Perm (x :: keepIx (fun m => p m && !decide (m = k + i)) k l)
  | k, _, [], x, h, _ => by simp at h
  | k, 0, y :: r, x, h, hp => by
    have e : y = x := Option.some.inj h
    subst e
    have hp' : p k = true := hp
    simp only [keepIx, hp', Nat.add_zero, decide_true, Bool.not_true, Bool.and_false, if_true]
    refine .cons _ ?_
    have e : keepIx (fun m => p m && !decide (m = k)) (k + 1) r = keepIx p (k + 1) r := keepIx_congr (k + 1) r fun m hm => by
      have : ¬ m = k := by omega
      simp [this]
    simp [e]
  | k, i + 1, y :: r, x, h, hp => by
    have ih := keepIx_out p (k + 1) i r x (by simpa using h) (by rw [show k + 1 + i = k + (i + 1) by omega]; exact hp)
    have hk : ¬ k = k + (i + 1) := by omega
    simp only [keepIx, hk, decide_false, Bool.not_false, Bool.and_true]
    rw [show (fun m => p m && !decide (m = k + (i + 1))) = (fun m => p m && !decide (m = k + 1 + i)) by funext m; rw [show k + (i + 1) = k + 1 + i by omega]]
    split
    · exact (List.Perm.cons _ ih).trans (.swap _ _ _)
    · exact ih
theorem keepIx_all {α : Type} : ∀ (k : Nat) (l : List α), keepIx (fun _ => true) k l = l
  | _, [] => rfl
  | k, x :: r => by simp [keepIx, keepIx_all (k + 1) r]
/-- lines of n crossings: each end in just one of them -/
structure Lines (n : Nat) (ps : List (Nat × Nat)) : Prop where
  len : ps.length = 2 * n
  nd : (ends ps).Nodup
  lt : ∀ e ∈ ends ps, e < 4 * n
/-- all hangs together: what is closed under lines and has crossing 0 has all -/
def Whole (n : Nat) (ps : List (Nat × Nat)) : Prop := ∀ P : Nat → Prop, (∀ p ∈ ps, P (p.1 / 4) ↔ P (p.2 / 4)) → P 0 → ∀ c, c < n → P c
theorem Whole.from {n : Nat} {ps : List (Nat × Nat)} (w : Whole n ps) {P : Nat → Prop} (h : ∀ p ∈ ps, P (p.1 / 4) ↔ P (p.2 / 4)) {a : Nat} (ha : a < n) (hp : P a) {c : Nat} (hc : c < n) : P c := by
  by_cases h0 : P 0
  · exact w P h h0 c hc
  · exact absurd hp (w (fun x => ¬ P x) (fun p m => not_congr (h p m)) h0 a ha)
theorem Whole.perm {n : Nat} {ps qs : List (Nat × Nat)} (w : Whole n ps) (h : ps.Perm qs) : Whole n qs := fun P hP h0 c hc => w P (fun p m => hP p (h.mem_iff.mp m)) h0 c hc
theorem Lines.perm {n : Nat} {ps qs : List (Nat × Nat)} (w : Lines n ps) (h : ps.Perm qs) : Lines n qs :=
  ⟨h.length_eq ▸ w.len, (ends_perm h).nodup_iff.mp w.nd, fun e m => w.lt e ((ends_perm h).mem_iff.mpr m)⟩
/-- the fresh lines of crossing n put across two lines, or twice across one -/
def fresh (n : Nat) (i j : Nat) (a b : Nat × Nat) : List (Nat × Nat) :=
  if i = j then [(a.1, 4 * n), (4 * n + 1, 4 * n + 2), (a.2, 4 * n + 3)] else [(a.1, 4 * n), (a.2, 4 * n + 2), (b.1, 4 * n + 1), (b.2, 4 * n + 3)]
/-- the places but two -/
def notIJ (i j : Nat) : Nat → Bool := fun m => !decide (m = i) && !decide (m = j)
def putOn (n : Nat) (ps : List (Nat × Nat)) (i j : Nat) (a b : Nat × Nat) : List (Nat × Nat) := keepIx (notIJ i j) 0 ps ++ fresh n i j a b
theorem keep_one {α : Type} {ps : List α} {i : Nat} {a : α} (ha : ps[i]? = some a) : ps.Perm (a :: keepIx (notIJ i i) 0 ps) := by
  have h := keepIx_out (fun _ => true) 0 i ps a ha rfl
  rw [keepIx_all] at h
  refine h.trans ?_
  rw [keepIx_congr (q := notIJ i i) 0 ps fun m _ => by simp [notIJ]]
theorem keep_two {α : Type} {ps : List α} {i j : Nat} {a b : α} (hij : i ≠ j) (ha : ps[i]? = some a) (hb : ps[j]? = some b) : ps.Perm (a :: b :: keepIx (notIJ i j) 0 ps) := by
  have h := keepIx_out (fun _ => true) 0 i ps a ha rfl
  rw [keepIx_all] at h
  refine h.trans (.cons _ ?_)
  have h2 := keepIx_out (fun m => true && !decide (m = 0 + i)) 0 j ps b hb (by simp; omega)
  refine h2.trans ?_
  rw [keepIx_congr (q := notIJ i j) 0 ps fun m _ => by simp [notIJ]]
theorem mem_keep {α : Type} (p : Nat → Bool) : ∀ (k : Nat) (l : List α) (x : α), x ∈ keepIx p k l → x ∈ l
  | _, [], _, h => h
  | k, y :: r, x, h => by
    unfold keepIx at h
    split at h
    · rcases List.mem_cons.mp h with e | h
      · exact List.mem_cons.mpr (.inl e)
      · exact List.mem_cons.mpr (.inr (mem_keep p (k + 1) r x h))
    · exact List.mem_cons.mpr (.inr (mem_keep p (k + 1) r x h))
theorem put_ends {n : Nat} {ps : List (Nat × Nat)} {i j : Nat} {a b : Nat × Nat} (ha : ps[i]? = some a) (hb : ps[j]? = some b) :
    (ends (putOn n ps i j a b)).Perm (ends ps ++ [4 * n, 4 * n + 1, 4 * n + 2, 4 * n + 3]) := by
  unfold putOn
  rw [ends_append]
  unfold fresh
  by_cases hij : i = j
  · subst hij
    rw [if_pos rfl]
    have h := ends_perm (keep_one ha)
    refine List.Perm.trans ?_ (List.Perm.append_right _ h.symm)
    show (ends (keepIx (notIJ i i) 0 ps) ++ [a.1, 4 * n, 4 * n + 1, 4 * n + 2, a.2, 4 * n + 3]).Perm ((a.1 :: a.2 :: ends (keepIx (notIJ i i) 0 ps)) ++ [4 * n, 4 * n + 1, 4 * n + 2, 4 * n + 3])
    refine List.perm_iff_count.mpr fun x => ?_
    simp only [List.count_append, List.count_cons, List.count_nil]
    omega
  · rw [if_neg hij]
    have h := ends_perm (keep_two hij ha hb)
    refine List.Perm.trans ?_ (List.Perm.append_right _ h.symm)
    show (ends (keepIx (notIJ i j) 0 ps) ++ [a.1, 4 * n, a.2, 4 * n + 2, b.1, 4 * n + 1, b.2, 4 * n + 3]).Perm ((a.1 :: a.2 :: b.1 :: b.2 :: ends (keepIx (notIJ i j) 0 ps)) ++ [4 * n, 4 * n + 1, 4 * n + 2, 4 * n + 3])
    refine List.perm_iff_count.mpr fun x => ?_
    simp only [List.count_append, List.count_cons, List.count_nil]
    omega
theorem put_len {n : Nat} {ps : List (Nat × Nat)} {i j : Nat} {a b : Nat × Nat} (ha : ps[i]? = some a) (hb : ps[j]? = some b) : (putOn n ps i j a b).length = ps.length + 2 := by
  have h := (put_ends (n := n) ha hb).length_eq
  rw [List.length_append, ends_length, ends_length] at h
  simp at h
  omega
theorem put_lines {n : Nat} {ps : List (Nat × Nat)} {i j : Nat} {a b : Nat × Nat} (L : Lines n ps) (ha : ps[i]? = some a) (hb : ps[j]? = some b) : Lines (n + 1) (putOn n ps i j a b) := by
  have hp := put_ends (n := n) ha hb
  refine ⟨by rw [put_len ha hb, L.len]; omega, hp.nodup_iff.mpr (List.nodup_append.mpr ⟨L.nd, ?_, fun x hx y hy => ?_⟩), fun e he => ?_⟩
  · simp
  · have := L.lt x hx
    simp at hy
    omega
  · rcases List.mem_append.mp (hp.mem_iff.mp he) with h | h
    · have := L.lt e h
      omega
    · simp at h
      omega
theorem put_whole {n : Nat} {ps : List (Nat × Nat)} {i j : Nat} {a b : Nat × Nat} (hn : 0 < n) (L : Lines n ps) (w : Whole n ps) (ha : ps[i]? = some a) (hb : ps[j]? = some b) : Whole (n + 1) (putOn n ps i j a b) := by
  intro P hP h0
  have old : ∀ p ∈ keepIx (notIJ i j) 0 ps, P (p.1 / 4) ↔ P (p.2 / 4) := fun p m => hP p (List.mem_append.mpr (.inl m))
  have d0 : 4 * n / 4 = n := by omega
  have d1 : (4 * n + 1) / 4 = n := by omega
  have d2 : (4 * n + 2) / 4 = n := by omega
  have d3 : (4 * n + 3) / 4 = n := by omega
  have new : ∀ p ∈ fresh n i j a b, P (p.1 / 4) ↔ P (p.2 / 4) := fun p m => hP p (List.mem_append.mpr (.inr m))
  have hA : (P (a.1 / 4) ↔ P n) ∧ (P (a.2 / 4) ↔ P n) ∧ (i ≠ j → (P (b.1 / 4) ↔ P n) ∧ (P (b.2 / 4) ↔ P n)) := by
    unfold fresh at new
    by_cases hij : i = j
    · rw [if_pos hij] at new
      have q1 := new (a.1, 4 * n) (by simp)
      have q2 := new (a.2, 4 * n + 3) (by simp)
      simp only [d0, d3] at q1 q2
      exact ⟨q1, q2, fun z => absurd hij z⟩
    · rw [if_neg hij] at new
      have q1 := new (a.1, 4 * n) (by simp)
      have q2 := new (a.2, 4 * n + 2) (by simp)
      have q3 := new (b.1, 4 * n + 1) (by simp)
      have q4 := new (b.2, 4 * n + 3) (by simp)
      simp only [d0, d1, d2, d3] at q1 q2 q3 q4
      exact ⟨q1, q2, fun _ => ⟨q3, q4⟩⟩
  have clo : ∀ p ∈ ps, P (p.1 / 4) ↔ P (p.2 / 4) := by
    intro p m
    by_cases hij : i = j
    · subst hij
      rcases List.mem_cons.mp ((keep_one ha).mem_iff.mp m) with e | m
      · subst e
        exact hA.1.trans hA.2.1.symm
      · exact old p m
    · rcases List.mem_cons.mp ((keep_two hij ha hb).mem_iff.mp m) with e | m
      · subst e
        exact hA.1.trans hA.2.1.symm
      · rcases List.mem_cons.mp m with e | m
        · subst e
          exact (hA.2.2 hij).1.trans (hA.2.2 hij).2.symm
        · exact old p m
  have all := w P clo h0
  intro c hc
  by_cases h : c < n
  · exact all c h
  · have e : c = n := by omega
    subst e
    have am : a.1 ∈ ends ps := mem_ends.mpr ⟨a, List.mem_of_getElem? ha, .inl rfl⟩
    have := L.lt _ am
    exact hA.1.mp (all _ (by omega))
end One
end P_M1

section P_M2
set_option linter.all false
namespace One
/-- what a law's own growing makes -/
structure Grown (n : Nat) (ps : List (Nat × Nat)) : Prop where
  pos : 0 < n
  lines : Lines n ps
  whole : Whole n ps
theorem grown_one {a b c d : Nat} (h : [a, b, c, d].Perm [0, 1, 2, 3]) : Grown 1 [(a, b), (c, d)] := by
  refine ⟨by decide, ⟨rfl, h.nodup_iff.mpr (by decide), fun e he => ?_⟩, fun P _ h0 x hx => ?_⟩
  · have := h.mem_iff.mp he
    simp at this
    omega
  · have e : x = 0 := by omega
    subst e
    exact h0
theorem Grown.put {n : Nat} {ps : List (Nat × Nat)} {i j : Nat} {a b : Nat × Nat} (g : Grown n ps) (ha : ps[i]? = some a) (hb : ps[j]? = some b) : Grown (n + 1) (putOn n ps i j a b) :=
  ⟨by omega, put_lines g.lines ha hb, put_whole g.pos g.lines g.whole ha hb⟩
/-- how ends are called otherwise, crossing by crossing -/
structure Called (n : Nat) (ns : List Nat) : Prop where
  perm : ns.Perm (List.range (4 * n))
  blk : ∀ i j, i < 4 * n → j < 4 * n → i / 4 = j / 4 → ns.getD i 0 / 4 = ns.getD j 0 / 4
theorem Called.len {n : Nat} {ns : List Nat} (c : Called n ns) : ns.length = 4 * n := by rw [c.perm.length_eq, List.length_range]
theorem Called.lt {n : Nat} {ns : List Nat} (c : Called n ns) {i : Nat} (hi : i < 4 * n) : ns.getD i 0 < 4 * n := by
  have h : i < ns.length := by rw [c.len]; exact hi
  rw [List.getD_eq_getElem?_getD, List.getElem?_eq_getElem h, Option.getD_some]
  exact List.mem_range.mp (c.perm.mem_iff.mp (List.getElem_mem h))
theorem Called.inj {n : Nat} {ns : List Nat} (c : Called n ns) {i j : Nat} (hi : i < 4 * n) (hj : j < 4 * n) (e : ns.getD i 0 = ns.getD j 0) : i = j := by
  have h1 : i < ns.length := by rw [c.len]; exact hi
  have h2 : j < ns.length := by rw [c.len]; exact hj
  rw [List.getD_eq_getElem?_getD, List.getElem?_eq_getElem h1, Option.getD_some, List.getD_eq_getElem?_getD, List.getElem?_eq_getElem h2, Option.getD_some] at e
  exact (List.getElem_inj (c.perm.nodup_iff.mpr List.nodup_range)).mp e
theorem Called.onto {n : Nat} {ns : List Nat} (c : Called n ns) {x : Nat} (hx : x < 4 * n) : ∃ i, i < 4 * n ∧ ns.getD i 0 = x := by
  have h := c.perm.mem_iff.mpr (List.mem_range.mpr hx)
  obtain ⟨i, hi, e⟩ := List.mem_iff_getElem.mp h
  refine ⟨i, by rw [← c.len]; exact hi, ?_⟩
  rw [List.getD_eq_getElem?_getD, List.getElem?_eq_getElem hi, Option.getD_some, e]
/-- a line, the lesser end ahead -/
def low (x y : Nat) : Nat × Nat := if y < x then (y, x) else (x, y)
def callL (ns : List Nat) (p : Nat × Nat) : Nat × Nat := low (ns.getD p.1 0) (ns.getD p.2 0)
theorem low_mem (x y : Nat) : ∀ e, (e = (low x y).1 ∨ e = (low x y).2) ↔ (e = x ∨ e = y) := by
  intro e
  unfold low
  split
  · exact Or.comm
  · exact Iff.rfl
theorem ends_map (ns : List Nat) : ∀ ps : List (Nat × Nat), (ends (ps.map (callL ns))).Perm ((ends ps).map fun e => ns.getD e 0)
  | [] => .refl _
  | p :: r => by
    have ih := ends_map ns r
    show ((callL ns p).1 :: (callL ns p).2 :: ends (r.map (callL ns))).Perm (ns.getD p.1 0 :: ns.getD p.2 0 :: (ends r).map fun e => ns.getD e 0)
    unfold callL low
    split
    · exact (List.Perm.swap _ _ _).trans (.cons _ (.cons _ ih))
    · exact .cons _ (.cons _ ih)
theorem nodup_map_on {α β : Type} {f : α → β} : ∀ {l : List α}, (∀ x ∈ l, ∀ y ∈ l, f x = f y → x = y) → l.Nodup → (l.map f).Nodup
  | [], _, _ => List.nodup_nil
  | a :: r, h, hn => by
    obtain ⟨h1, h2⟩ := List.nodup_cons.mp hn
    refine List.nodup_cons.mpr ⟨fun m => ?_, nodup_map_on (fun x hx y hy => h x (List.mem_cons.mpr (.inr hx)) y (List.mem_cons.mpr (.inr hy))) h2⟩
    obtain ⟨y, hy, e⟩ := List.mem_map.mp m
    have := h y (List.mem_cons.mpr (.inr hy)) a (List.mem_cons.mpr (.inl rfl)) e
    exact h1 (this ▸ hy)
theorem called_lines {n : Nat} {ps : List (Nat × Nat)} {ns : List Nat} (L : Lines n ps) (c : Called n ns) : Lines n (ps.map (callL ns)) := by
  have hp := ends_map ns ps
  refine ⟨by rw [List.length_map]; exact L.len, hp.nodup_iff.mpr (nodup_map_on (fun x hx y hy e => c.inj (L.lt x hx) (L.lt y hy) e) L.nd), fun e he => ?_⟩
  obtain ⟨x, hx, rfl⟩ := List.mem_map.mp (hp.mem_iff.mp he)
  exact c.lt (L.lt x hx)
theorem called_whole {n : Nat} {ps : List (Nat × Nat)} {ns : List Nat} (hn : 0 < n) (L : Lines n ps) (w : Whole n ps) (c : Called n ns) : Whole n (ps.map (callL ns)) := by
  intro P hP h0 x hx
  have clo : ∀ p ∈ ps, P (ns.getD (4 * (p.1 / 4)) 0 / 4) ↔ P (ns.getD (4 * (p.2 / 4)) 0 / 4) := by
    intro p m
    have l1 := L.lt p.1 (mem_ends.mpr ⟨p, m, .inl rfl⟩)
    have l2 := L.lt p.2 (mem_ends.mpr ⟨p, m, .inr rfl⟩)
    rw [c.blk (4 * (p.1 / 4)) p.1 (by omega) l1 (by omega), c.blk (4 * (p.2 / 4)) p.2 (by omega) l2 (by omega)]
    have q := hP (callL ns p) (List.mem_map.mpr ⟨p, m, rfl⟩)
    unfold callL low at q
    split at q
    · exact q.symm
    · exact q
  obtain ⟨i, hi, ei⟩ := c.onto (x := 0) (by omega)
  obtain ⟨j, hj, ej⟩ := c.onto (x := 4 * x) (by omega)
  have start : P (ns.getD (4 * (i / 4)) 0 / 4) := by
    rw [c.blk (4 * (i / 4)) i (by omega) hi (by omega), ei]
    exact h0
  have all := w.from (P := fun k => P (ns.getD (4 * k) 0 / 4)) clo (a := i / 4) (by omega) start (c := j / 4) (by omega)
  have all : P (ns.getD (4 * (j / 4)) 0 / 4) := all
  rw [c.blk (4 * (j / 4)) j (by omega) hj (by omega), ej] at all
  rw [show 4 * x / 4 = x by omega] at all
  exact all
/-- pairs in order -/
def ltP (p q : Nat × Nat) : Prop := p.1 < q.1 ∨ (p.1 = q.1 ∧ p.2 < q.2)
def leP (p q : Nat × Nat) : Prop := p.1 < q.1 ∨ (p.1 = q.1 ∧ p.2 ≤ q.2)
/-- a yard of n crossings -/
structure Yard (n : Nat) (L : List (Nat × Nat)) : Prop where
  pos : 0 < n
  lines : Lines n L
  whole : Whole n L
  up : L.Pairwise ltP
  low : ∀ p ∈ L, p.1 < p.2
theorem nodup_firsts : ∀ {L : List (Nat × Nat)}, (ends L).Nodup → L.Pairwise fun p q => p.1 ≠ q.1 ∧ p.1 ≠ q.2 ∧ p.2 ≠ q.1 ∧ p.2 ≠ q.2
  | [], _ => .nil
  | p :: r, h => by
    have h : (p.1 :: p.2 :: ends r).Nodup := h
    obtain ⟨h1, h2⟩ := List.nodup_cons.mp h
    obtain ⟨h3, h4⟩ := List.nodup_cons.mp h2
    refine List.pairwise_cons.mpr ⟨fun q hq => ?_, nodup_firsts h4⟩
    have m1 : q.1 ∈ ends r := mem_ends.mpr ⟨q, hq, .inl rfl⟩
    have m2 : q.2 ∈ ends r := mem_ends.mpr ⟨q, hq, .inr rfl⟩
    exact ⟨fun e => h1 (List.mem_cons.mpr (.inr (e ▸ m1))), fun e => h1 (List.mem_cons.mpr (.inr (e ▸ m2))), fun e => h3 (e ▸ m1), fun e => h3 (e ▸ m2)⟩
theorem nodup_pair : ∀ {L : List (Nat × Nat)}, (ends L).Nodup → ∀ p ∈ L, p.1 ≠ p.2
  | p :: r, h, q, m => by
    have h : (p.1 :: p.2 :: ends r).Nodup := h
    obtain ⟨h1, h2⟩ := List.nodup_cons.mp h
    rcases List.mem_cons.mp m with e | m
    · subst e
      exact fun e => h1 (List.mem_cons.mpr (.inl e))
    · exact nodup_pair (List.nodup_cons.mp h2).2 q m
/-- lines with the lesser ends ahead, sorted, are a yard -/
theorem yard_of_sorted {n : Nat} {L M : List (Nat × Nat)} (hn : 0 < n) (hL : Lines n L) (w : Whole n L) (hl : ∀ p ∈ L, p.1 ≤ p.2) (hp : M.Perm L) (hs : M.Pairwise leP) : Yard n M := by
  have hM := hL.perm hp.symm
  refine ⟨hn, hM, w.perm hp.symm, ?_, fun p m => ?_⟩
  · refine (hs.and (nodup_firsts hM.nd)).imp ?_
    rintro p q ⟨h1, h2, _⟩
    rcases h1 with h1 | ⟨h1, _⟩
    · exact .inl h1
    · exact absurd h1 h2
  · have h1 := hl p (hp.mem_iff.mp m)
    have h2 := nodup_pair hM.nd p m
    omega
theorem low_le (x y : Nat) : (low x y).1 ≤ (low x y).2 := by
  unfold low
  split <;> simp <;> omega
theorem called_yard {n : Nat} {ps M : List (Nat × Nat)} {ns : List Nat} (g : Grown n ps) (c : Called n ns) (hp : M.Perm (ps.map (callL ns))) (hs : M.Pairwise leP) : Yard n M :=
  yard_of_sorted g.pos (called_lines g.lines c) (called_whole g.pos g.lines g.whole c) (fun p m => by
    obtain ⟨q, _, rfl⟩ := List.mem_map.mp m
    exact low_le _ _) hp hs
/-! ### the calling, block by block -/
def blocks : List (Nat × List Nat) → List Nat
  | [] => []
  | b :: r => b.2.map (fun p => 4 * b.1 + p) ++ blocks r
theorem blocks_snoc : ∀ (l : List (Nat × List Nat)) (b : Nat × List Nat), blocks (l ++ [b]) = blocks l ++ b.2.map (fun p => 4 * b.1 + p)
  | [], b => by simp [blocks]
  | a :: r, b => by simp [blocks, blocks_snoc r b]
theorem blocks_len : ∀ {l : List (Nat × List Nat)}, (∀ b ∈ l, b.2.length = 4) → (blocks l).length = 4 * l.length
  | [], _ => rfl
  | a :: r, h => by
    have h1 := h a (List.mem_cons.mpr (.inl rfl))
    have h2 := blocks_len (l := r) fun b hb => h b (List.mem_cons.mpr (.inr hb))
    simp [blocks, h1, h2]
    omega
theorem blocks_get : ∀ {l : List (Nat × List Nat)}, (∀ b ∈ l, b.2.Perm [0, 1, 2, 3]) → ∀ i, i < 4 * l.length → ∃ b ∈ l, l[i / 4]? = some b ∧ (blocks l).getD i 0 / 4 = b.1
  | [], _, i, hi => by simp at hi
  | a :: r, h, i, hi => by
    have ha := h a (List.mem_cons.mpr (.inl rfl))
    have hlen : (a.2.map (fun p => 4 * a.1 + p)).length = 4 := by rw [List.length_map, ha.length_eq]; rfl
    by_cases hi4 : i < 4
    · refine ⟨a, List.mem_cons.mpr (.inl rfl), by rw [show i / 4 = 0 by omega]; rfl, ?_⟩
      have hx : i < a.2.length := by rw [ha.length_eq]; exact hi4
      have hm := ha.mem_iff.mp (List.getElem_mem hx)
      have e : (blocks (a :: r)).getD i 0 = 4 * a.1 + a.2[i] := by
        show (a.2.map (fun p => 4 * a.1 + p) ++ blocks r).getD i 0 = _
        rw [List.getD_eq_getElem?_getD, List.getElem?_append_left (by rw [hlen]; exact hi4), List.getElem?_map, List.getElem?_eq_getElem hx]
        rfl
      rw [e]
      simp at hm
      omega
    · have hi' : i - 4 < 4 * r.length := by simp at hi; omega
      obtain ⟨b, hb, h1, h2⟩ := blocks_get (l := r) (fun b hb => h b (List.mem_cons.mpr (.inr hb))) (i - 4) hi'
      refine ⟨b, List.mem_cons.mpr (.inr hb), ?_, ?_⟩
      · rw [show i / 4 = (i - 4) / 4 + 1 by omega]
        exact h1
      · have e : (blocks (a :: r)).getD i 0 = (blocks r).getD (i - 4) 0 := by
          show (a.2.map (fun p => 4 * a.1 + p) ++ blocks r).getD i 0 = _
          rw [List.getD_eq_getElem?_getD, List.getElem?_append_right (by rw [hlen]; omega), hlen, List.getD_eq_getElem?_getD]
        rw [e]
        exact h2
theorem blocks_perm : ∀ {l m : List (Nat × List Nat)}, l.Perm m → (blocks l).Perm (blocks m) := fun h => by
  induction h with
  | nil => exact .refl _
  | cons x _ ih => exact List.Perm.append_left _ ih
  | swap x y l =>
    show (y.2.map (fun p => 4 * y.1 + p) ++ (x.2.map (fun p => 4 * x.1 + p) ++ blocks l)).Perm (x.2.map (fun p => 4 * x.1 + p) ++ (y.2.map (fun p => 4 * y.1 + p) ++ blocks l))
    rw [← List.append_assoc, ← List.append_assoc]
    exact List.Perm.append_right _ List.perm_append_comm
  | trans _ _ i j => exact i.trans j
theorem blocks_std : ∀ (l : List (Nat × List Nat)), (∀ b ∈ l, b.2.Perm [0, 1, 2, 3]) → (blocks l).Perm (blocks (l.map fun b => (b.1, [0, 1, 2, 3])))
  | [], _ => .refl _
  | a :: r, h => List.Perm.append (List.Perm.map _ (h a (List.mem_cons.mpr (.inl rfl)))) (blocks_std r fun b hb => h b (List.mem_cons.mpr (.inr hb)))
theorem blocks_range : ∀ n : Nat, blocks ((List.range n).map fun c => (c, [0, 1, 2, 3])) = List.range (4 * n)
  | 0 => rfl
  | n + 1 => by
    rw [List.range_succ, List.map_append, List.map_cons, List.map_nil, blocks_snoc, blocks_range n, show 4 * (n + 1) = 4 * n + 4 by omega]
    rw [show 4 * n + 4 = (4 * n + 3) + 1 by omega, List.range_succ, show 4 * n + 3 = (4 * n + 2) + 1 by omega, List.range_succ, show 4 * n + 2 = (4 * n + 1) + 1 by omega, List.range_succ, List.range_succ]
    simp
theorem called_of_blocks {n : Nat} {l : List (Nat × List Nat)} (hp : (l.map Prod.fst).Perm (List.range n)) (hb : ∀ b ∈ l, b.2.Perm [0, 1, 2, 3]) : Called n (blocks l) := by
  have hlen : l.length = n := by rw [← List.length_map (f := Prod.fst) (as := l), hp.length_eq, List.length_range]
  refine ⟨?_, fun i j hi hj e => ?_⟩
  · refine (blocks_std l hb).trans ?_
    rw [← blocks_range n]
    refine blocks_perm ?_
    rw [show (fun b : Nat × List Nat => (b.1, [0, 1, 2, 3])) = (fun c => (c, [0, 1, 2, 3])) ∘ Prod.fst from rfl, ← List.map_map]
    exact List.Perm.map _ hp
  · obtain ⟨b, _, h1, h2⟩ := blocks_get hb i (by rw [hlen]; exact hi)
    obtain ⟨d, _, h3, h4⟩ := blocks_get hb j (by rw [hlen]; exact hj)
    rw [e, h3] at h1
    cases h1
    rw [h2, h4]
end One
end P_M2

section P_M3
set_option linter.all false
namespace One
/-! ### going to all that is beside -/
def R (r : List Bool) (i : Nat) : Prop := r[i]? = some true
structure Dfs (s n : Nat) (f : Nat → List Nat) (r : List Bool) (w : List Nat) (cur : Nat → Prop) : Prop where
  len : r.length = n
  z : R r s
  wt : ∀ i ∈ w, R r i
  cl : ∀ i, R r i → i ∈ w ∨ cur i ∨ ∀ j ∈ f i, R r j
  so : ∀ P : Nat → Prop, (∀ i j, j ∈ f i → P i → P j) → P s → ∀ i, R r i → P i
theorem R_set {r : List Bool} {i j : Nat} (h : R r i) : R (r.set j true) i := by
  unfold R at *
  by_cases e : j = i
  · subst e
    have : j < r.length := (List.getElem?_eq_some_iff.mp h).1
    rw [List.getElem?_set_self this]
  · rw [List.getElem?_set_ne e]
    exact h
theorem R_new {r : List Bool} {j : Nat} (h : j < r.length) : R (r.set j true) j := by
  unfold R
  rw [List.getElem?_set_self h]
theorem R_back {r : List Bool} {i j : Nat} (h : R (r.set j true) i) : i = j ∨ R r i := by
  unfold R at *
  by_cases e : j = i
  · exact .inl e.symm
  · rw [List.getElem?_set_ne e] at h
    exact .inr h
theorem dfs_start {s n : Nat} (f : Nat → List Nat) (hn : s < n) : Dfs s n f ((List.replicate n false).set s true) [s] (fun _ => False) := by
  have h0 : s < (List.replicate n false).length := by rw [List.length_replicate]; exact hn
  have back : ∀ i, R ((List.replicate n false).set s true) i → i = s := fun i h => by
    rcases R_back h with e | e
    · exact e
    · unfold R at e
      have hi := (List.getElem?_eq_some_iff.mp e).2
      simp at hi
  refine ⟨by simp, R_new h0, fun i hi => ?_, fun i hi => .inl ?_, fun P _ h i hi => ?_⟩
  · rw [List.mem_singleton.mp hi]
    exact R_new h0
  · rw [back i hi]
    exact List.mem_singleton.mpr rfl
  · rw [back i hi]
    exact h
theorem dfs_pop {s n c : Nat} {f : Nat → List Nat} {r : List Bool} {w : List Nat} (d : Dfs s n f r (w ++ [c]) fun _ => False) : Dfs s n f r w (· = c) := by
  refine ⟨d.len, d.z, fun i hi => d.wt i (List.mem_append.mpr (.inl hi)), fun i hi => ?_, d.so⟩
  rcases d.cl i hi with h | h | h
  · rcases List.mem_append.mp h with h | h
    · exact .inl h
    · exact .inr (.inl (List.mem_singleton.mp h))
  · exact h.elim
  · exact .inr (.inr h)
theorem dfs_mark {s n c j : Nat} {f : Nat → List Nat} {r : List Bool} {w : List Nat} (d : Dfs s n f r w (· = c)) (hc : R r c) (hj : j ∈ f c) (hlt : j < n) : Dfs s n f (r.set j true) (w ++ [j]) (· = c) := by
  have hjl : j < r.length := by rw [d.len]; exact hlt
  refine ⟨by rw [List.length_set]; exact d.len, R_set d.z, fun i hi => ?_, fun i hi => ?_, fun P hP h0 i hi => ?_⟩
  · rcases List.mem_append.mp hi with h | h
    · exact R_set (d.wt i h)
    · rw [List.mem_singleton.mp h]
      exact R_new hjl
  · rcases R_back hi with e | h
    · exact .inl (List.mem_append.mpr (.inr (List.mem_singleton.mpr e)))
    · rcases d.cl i h with q | q | q
      · exact .inl (List.mem_append.mpr (.inl q))
      · exact .inr (.inl q)
      · exact .inr (.inr fun k hk => R_set (q k hk))
  · rcases R_back hi with e | h
    · rw [e]
      exact hP c j hj (d.so P hP h0 c hc)
    · exact d.so P hP h0 i h
theorem dfs_finish {s n c : Nat} {f : Nat → List Nat} {r : List Bool} {w : List Nat} (d : Dfs s n f r w (· = c)) (h : ∀ j ∈ f c, R r j) : Dfs s n f r w fun _ => False := by
  refine ⟨d.len, d.z, d.wt, fun i hi => ?_, d.so⟩
  rcases d.cl i hi with q | q | q
  · exact .inl q
  · subst q
    exact .inr (.inr h)
  · exact .inr (.inr q)
theorem count_set {r : List Bool} {j : Nat} (h : r[j]? = some false) : (r.set j true).count false + 1 = r.count false := by
  induction r generalizing j with
  | nil => simp at h
  | cons a r ih =>
    cases j with
    | zero =>
      have e : a = false := Option.some.inj h
      subst e
      simp
    | succ j =>
      have := ih (j := j) (by simpa using h)
      show ((a :: r.set j true).count false) + 1 = (a :: r).count false
      rw [List.count_cons, List.count_cons]
      omega
/-- what is beside each crossing by these lines -/
def Beside (ps : List (Nat × Nat)) (f : Nat → List Nat) : Prop := ∀ i j, j ∈ f i ↔ ∃ p ∈ ps, (p.1 / 4 = i ∧ p.2 / 4 = j) ∨ (p.2 / 4 = i ∧ p.1 / 4 = j)
theorem dfs_whole {n : Nat} {ps : List (Nat × Nat)} {f : Nat → List Nat} {r : List Bool} (hb : Beside ps f) (d : Dfs 0 n f r [] fun _ => False) : r.all id = true ↔ Whole n ps := by
  constructor
  · intro h P hP h0 c hc
    refine d.so P (fun i j hj hi => ?_) h0 c ?_
    · obtain ⟨p, hp, q⟩ := (hb i j).mp hj
      rcases q with ⟨q1, q2⟩ | ⟨q1, q2⟩
      · rw [← q2]
        rw [← q1] at hi
        exact (hP p hp).mp hi
      · rw [← q2]
        rw [← q1] at hi
        exact (hP p hp).mpr hi
    · have hl : c < r.length := by rw [d.len]; exact hc
      unfold R
      rw [List.getElem?_eq_getElem hl]
      have := List.all_eq_true.mp h r[c] (List.getElem_mem hl)
      exact congrArg some this
  · intro w
    have all := w (fun i => R r i) (fun p hp => ?_) d.z
    · refine List.all_eq_true.mpr fun b hb' => ?_
      obtain ⟨i, hi, e⟩ := List.mem_iff_getElem.mp hb'
      have q := all i (by rw [← d.len]; exact hi)
      unfold R at q
      rw [List.getElem?_eq_getElem hi, e] at q
      exact Option.some.inj q
    · have clo : ∀ i j, j ∈ f i → R r i → R r j := fun i j hj hi => by
        rcases d.cl i hi with q | q | q
        · exact absurd q (by simp)
        · exact q.elim
        · exact q j hj
      exact ⟨clo _ _ ((hb _ _).mpr ⟨p, hp, .inl ⟨rfl, rfl⟩⟩), clo _ _ ((hb _ _).mpr ⟨p, hp, .inr ⟨rfl, rfl⟩⟩)⟩
/-- the lists with one more at one of them -/
def addTo (f : Nat → List Nat) (i x : Nat) : Nat → List Nat := fun k => if k = i then f k ++ [x] else f k
theorem beside_nil : Beside [] fun _ => [] := fun i j => ⟨fun h => absurd h (by simp), fun ⟨p, hp, _⟩ => absurd hp (by simp)⟩
theorem mem_addTo {f : Nat → List Nat} {i x k j : Nat} : j ∈ addTo f i x k ↔ j ∈ f k ∨ (k = i ∧ j = x) := by
  unfold addTo
  by_cases e : k = i
  · rw [if_pos e, List.mem_append, List.mem_singleton]
    exact or_congr Iff.rfl ⟨fun h => ⟨e, h⟩, fun h => h.2⟩
  · rw [if_neg e]
    exact ⟨.inl, fun h => h.elim id fun q => absurd q.1 e⟩
theorem beside_add {ps : List (Nat × Nat)} {f : Nat → List Nat} (p : Nat × Nat) (h : Beside ps f) : Beside (ps ++ [p]) (addTo (addTo f (p.1 / 4) (p.2 / 4)) (p.2 / 4) (p.1 / 4)) := by
  intro i j
  rw [mem_addTo, mem_addTo, h i j]
  constructor
  · rintro ((⟨q, hq, z⟩ | ⟨rfl, rfl⟩) | ⟨rfl, rfl⟩)
    · exact ⟨q, List.mem_append.mpr (.inl hq), z⟩
    · exact ⟨p, List.mem_append.mpr (.inr (List.mem_singleton.mpr rfl)), .inl ⟨rfl, rfl⟩⟩
    · exact ⟨p, List.mem_append.mpr (.inr (List.mem_singleton.mpr rfl)), .inr ⟨rfl, rfl⟩⟩
  · rintro ⟨q, hq, z⟩
    rcases List.mem_append.mp hq with hq | hq
    · exact .inl (.inl ⟨q, hq, z⟩)
    · rw [List.mem_singleton.mp hq] at z
      rcases z with ⟨a, b⟩ | ⟨a, b⟩
      · exact .inl (.inr ⟨a.symm, b.symm⟩)
      · exact .inr ⟨a.symm, b.symm⟩
end One
end P_M3

section P_M4
set_option linter.all false
namespace One
/-! ### the look at a yard, line by line -/
def leB (p q : Nat × Nat) : Bool := decide (p.1 < q.1) || (decide (p.1 = q.1) && decide (p.2 ≤ q.2))
def notUp (p : Nat × Nat) : Option (Nat × Nat) → Bool
  | none => false
  | some q => leB p q
/-- the number of the first thing that can't be: none is what is no line -/
def goF : Nat → List Nat → Option (Nat × Nat) → List (Option (Nat × Nat)) → Option Nat
  | _, _, _, [] => none
  | k, _, _, none :: _ => some k
  | k, met, ah, some p :: r => if notUp p ah || met.contains p.1 || met.contains p.2 then some k else goF (k + 1) (met ++ [p.1, p.2]) (some p) r
theorem goF_pairs : ∀ (os : List (Option (Nat × Nat))) (k : Nat) (met : List Nat) (ah : Option (Nat × Nat)), goF k met ah os = none → os = (os.filterMap id).map some
  | [], _, _, _, _ => rfl
  | none :: r, k, met, ah, h => by cases h
  | some p :: r, k, met, ah, h => by
    unfold goF at h
    split at h
    · cases h
    · have := goF_pairs r _ _ _ h
      simp only [List.filterMap_cons, id, List.map_cons]
      rw [← this]
theorem goF_good : ∀ (ps : List (Nat × Nat)) (k : Nat) (met : List Nat) (ah : Option (Nat × Nat)), (∀ q, ah = some q → ∀ p ∈ ps, ltP q p) → ps.Pairwise ltP → (met ++ ends ps).Nodup → goF k met ah (ps.map some) = none
  | [], _, _, _, _, _, _ => rfl
  | p :: r, k, met, ah, h1, h2, h3 => by
    obtain ⟨hp, hr⟩ := List.pairwise_cons.mp h2
    have h3 : (met ++ (p.1 :: p.2 :: ends r)).Nodup := h3
    have n1 : ¬ p.1 ∈ met := fun m => (List.nodup_append.mp h3).2.2 _ m p.1 (by simp) rfl
    have n2 : ¬ p.2 ∈ met := fun m => (List.nodup_append.mp h3).2.2 _ m p.2 (by simp) rfl
    have up : notUp p ah = false := by
      cases e : ah with
      | none => rfl
      | some q =>
        have := h1 q e p (List.mem_cons.mpr (.inl rfl))
        unfold ltP at this
        unfold notUp leB
        simp only [Bool.or_eq_false_iff, Bool.and_eq_false_iff, decide_eq_false_iff_not]
        omega
    show (if notUp p ah || met.contains p.1 || met.contains p.2 then some k else goF (k + 1) (met ++ [p.1, p.2]) (some p) (r.map some)) = none
    rw [if_neg (by simp [up, n1, n2])]
    refine goF_good r _ _ _ (fun q e x hx => ?_) hr ?_
    · cases e
      exact hp x hx
    · rw [List.append_assoc]
      exact h3
theorem yard_good {n : Nat} {L : List (Nat × Nat)} (y : Yard n L) : goF 0 [] none (L.map some) = none := goF_good L 0 [] none (fun _ e => by cases e) y.up (by simpa using y.lines.nd)
end One
end P_M4

section P_M5
set_option linter.all false
/-! Far ends; sewing the newest crossing out again. -/
namespace One
/-- strictly sorted lists with the same items are the same -/
theorem sorted_ext {α : Type} {lt : α → α → Prop} (irr : ∀ a, ¬ lt a a) (tr : ∀ a b c, lt a b → lt b c → lt a c) : ∀ {L M : List α}, L.Pairwise lt → M.Pairwise lt → (∀ x, x ∈ L ↔ x ∈ M) → L = M
  | [], [], _, _, _ => rfl
  | [], b :: M, _, _, h => absurd ((h b).mpr (List.mem_cons_self ..)) (by simp)
  | a :: L, [], _, _, h => absurd ((h a).mp (List.mem_cons_self ..)) (by simp)
  | a :: L, b :: M, hL, hM, h => by
    obtain ⟨h1, h2⟩ := List.pairwise_cons.mp hL
    obtain ⟨h3, h4⟩ := List.pairwise_cons.mp hM
    have e : a = b := by
      rcases List.mem_cons.mp ((h a).mp (List.mem_cons_self ..)) with e | m
      · exact e
      · rcases List.mem_cons.mp ((h b).mpr (List.mem_cons_self ..)) with e | m'
        · exact e.symm
        · exact absurd (tr _ _ _ (h1 b m') (h3 a m)) (irr a)
    subst e
    refine congrArg (a :: ·) (sorted_ext irr tr h2 h4 fun x => ⟨fun m => ?_, fun m => ?_⟩)
    · rcases List.mem_cons.mp ((h x).mp (List.mem_cons_of_mem _ m)) with e | m'
      · subst e
        exact absurd (h1 x m) (irr x)
      · exact m'
    · rcases List.mem_cons.mp ((h x).mpr (List.mem_cons_of_mem _ m)) with e | m'
      · subst e
        exact absurd (h3 x m) (irr x)
      · exact m'
theorem ltP_irr (a : Nat × Nat) : ¬ ltP a a := fun h => by
  unfold ltP at h
  omega
theorem ltP_tr (a b c : Nat × Nat) (h : ltP a b) (k : ltP b c) : ltP a c := by
  unfold ltP at *
  omega
theorem Yard.eq {n m : Nat} {L M : List (Nat × Nat)} (y : Yard n L) (z : Yard m M) (h : ∀ x, x ∈ L ↔ x ∈ M) : L = M := sorted_ext ltP_irr ltP_tr y.up z.up h
/-- the far end -/
def far : List (Nat × Nat) → Nat → Nat
  | [], _ => 0
  | p :: r, e => if e = p.1 then p.2 else if e = p.2 then p.1 else far r e
theorem far_out : ∀ {ps : List (Nat × Nat)} {e : Nat}, e ∉ ends ps → far ps e = 0
  | [], _, _ => rfl
  | p :: r, e, h => by
    have h : e ∉ p.1 :: p.2 :: ends r := h
    simp only [List.mem_cons, not_or] at h
    unfold far
    rw [if_neg h.1, if_neg h.2.1, far_out h.2.2]
theorem far_of : ∀ {ps : List (Nat × Nat)}, (ends ps).Nodup → ∀ {p : Nat × Nat}, p ∈ ps → far ps p.1 = p.2 ∧ far ps p.2 = p.1
  | q :: r, h, p, m => by
    have h : (q.1 :: q.2 :: ends r).Nodup := h
    obtain ⟨h1, h2⟩ := List.nodup_cons.mp h
    obtain ⟨h3, h4⟩ := List.nodup_cons.mp h2
    unfold far
    rcases List.mem_cons.mp m with e | m
    · subst e
      refine ⟨if_pos rfl, ?_⟩
      rw [if_neg (fun e => h1 (List.mem_cons.mpr (.inl e.symm))), if_pos rfl]
    · have m1 : p.1 ∈ ends r := mem_ends.mpr ⟨p, m, .inl rfl⟩
      have m2 : p.2 ∈ ends r := mem_ends.mpr ⟨p, m, .inr rfl⟩
      obtain ⟨i1, i2⟩ := far_of h4 m
      have n1 : p.1 ≠ q.1 := fun e => h1 (List.mem_cons.mpr (.inr (e ▸ m1)))
      have n2 : p.1 ≠ q.2 := fun e => h3 (e ▸ m1)
      have n3 : p.2 ≠ q.1 := fun e => h1 (List.mem_cons.mpr (.inr (e ▸ m2)))
      have n4 : p.2 ≠ q.2 := fun e => h3 (e ▸ m2)
      rw [if_neg n1, if_neg n2, if_neg n3, if_neg n4]
      exact ⟨i1, i2⟩
theorem far_line {ps : List (Nat × Nat)} (h : (ends ps).Nodup) {e : Nat} (m : e ∈ ends ps) : ((e, far ps e) ∈ ps ∨ (far ps e, e) ∈ ps) ∧ far ps (far ps e) = e := by
  obtain ⟨p, hp, z | z⟩ := mem_ends.mp m
  · obtain ⟨i1, i2⟩ := far_of h hp
    rw [z, i1, i2]
    exact ⟨.inl hp, rfl⟩
  · obtain ⟨i1, i2⟩ := far_of h hp
    rw [z, i2, i1]
    exact ⟨.inr hp, rfl⟩
theorem far_snoc {p : Nat × Nat} : ∀ {ps : List (Nat × Nat)}, (ends (ps ++ [p])).Nodup → ∀ e, far (ps ++ [p]) e = if e = p.1 then p.2 else if e = p.2 then p.1 else far ps e
  | ps, h, e => by
    have hp : p ∈ ps ++ [p] := List.mem_append_right _ (List.mem_cons_self ..)
    obtain ⟨i1, i2⟩ := far_of h hp
    by_cases e1 : e = p.1
    · rw [if_pos e1, e1, i1]
    · rw [if_neg e1]
      by_cases e2 : e = p.2
      · rw [if_pos e2, e2, i2]
      · rw [if_neg e2]
        have go : ∀ (l : List (Nat × Nat)), far (l ++ [p]) e = far l e := by
          intro l
          induction l with
          | nil =>
            show (if e = p.1 then p.2 else if e = p.2 then p.1 else far [] e) = far [] e
            rw [if_neg e1, if_neg e2]
          | cons q r ih =>
            show (if e = q.1 then q.2 else if e = q.2 then q.1 else far (r ++ [p]) e) = (if e = q.1 then q.2 else if e = q.2 then q.1 else far r e)
            rw [ih]
        exact go ps
theorem pigeon : ∀ (m : Nat) (l : List Nat), l.Nodup → (∀ x ∈ l, x < m) → l.length ≤ m
  | 0, [], _, _ => Nat.le_refl _
  | 0, a :: l, _, h => absurd (h a (List.mem_cons_self ..)) (by omega)
  | m + 1, l, nd, h => by
    by_cases hm : m ∈ l
    · have e := List.length_erase_of_mem hm
      have ih := pigeon m (l.erase m) (nd.erase m) fun x hx => by
        have q := (nd.mem_erase_iff).mp hx
        have := h x q.2
        have := q.1
        omega
      omega
    · have ih := pigeon m l nd fun x hx => by
        have := h x hx
        have : x ≠ m := fun e => hm (e ▸ hx)
        omega
      omega
/-- every end below 4n stands in lines of n crossings -/
theorem ends_full {n : Nat} {ps : List (Nat × Nat)} (L : Lines n ps) {e : Nat} (h : e < 4 * n) : e ∈ ends ps := by
  by_cases m : e ∈ ends ps
  · exact m
  · exfalso
    have hl : (ends ps).length = 4 * n := by rw [ends_length, L.len]; omega
    have nd : (e :: ends ps).Nodup := List.nodup_cons.mpr ⟨m, L.nd⟩
    have := pigeon (4 * n) (e :: ends ps) nd fun x hx => by
      rcases List.mem_cons.mp hx with z | z
      · rw [z]; exact h
      · exact L.lt x z
    rw [List.length_cons, hl] at this
    omega
theorem far_lt {n : Nat} {ps : List (Nat × Nat)} (L : Lines n ps) {e : Nat} (h : e < 4 * n) : far ps e < 4 * n := by
  obtain ⟨z | z, _⟩ := far_line L.nd (ends_full L h)
  · exact L.lt _ (mem_ends.mpr ⟨_, z, .inr rfl⟩)
  · exact L.lt _ (mem_ends.mpr ⟨_, z, .inl rfl⟩)
/-- the lines told from the far ends -/
def linesOf (F : Nat → Nat) (m : Nat) : List (Nat × Nat) := (List.range m).filterMap fun e => if e < F e then some (e, F e) else none
theorem linesOf_snoc (F : Nat → Nat) (m : Nat) : linesOf F (m + 1) = linesOf F m ++ (if m < F m then [(m, F m)] else []) := by
  unfold linesOf
  rw [List.range_succ, List.filterMap_append]
  by_cases h : m < F m
  · simp [h]
  · simp [h]
theorem linesOf_mem {F : Nat → Nat} {m : Nat} {p : Nat × Nat} : p ∈ linesOf F m ↔ p.1 < m ∧ F p.1 = p.2 ∧ p.1 < p.2 := by
  unfold linesOf
  rw [List.mem_filterMap]
  constructor
  · rintro ⟨e, he, h⟩
    split at h
    · cases h
      exact ⟨List.mem_range.mp he, rfl, by assumption⟩
    · cases h
  · rintro ⟨h1, h2, h3⟩
    refine ⟨p.1, List.mem_range.mpr h1, ?_⟩
    rw [h2, if_pos h3]
theorem linesOf_up (F : Nat → Nat) : ∀ m, (linesOf F m).Pairwise ltP
  | 0 => .nil
  | m + 1 => by
    rw [linesOf_snoc]
    refine List.pairwise_append.mpr ⟨linesOf_up F m, ?_, fun a ha b hb => ?_⟩
    · split
      · exact List.pairwise_singleton _ _
      · exact .nil
    · split at hb
      · rw [List.mem_singleton.mp hb]
        exact .inl (linesOf_mem.mp ha).1
      · cases hb
theorem yard_linesOf {n : Nat} {ps : List (Nat × Nat)} (y : Yard n ps) : linesOf (far ps) (4 * n) = ps := by
  refine sorted_ext ltP_irr ltP_tr (linesOf_up _ _) y.up fun p => ⟨fun h => ?_, fun h => ?_⟩
  · obtain ⟨h1, h2, h3⟩ := linesOf_mem.mp h
    obtain ⟨z | z, _⟩ := far_line y.lines.nd (ends_full y.lines h1)
    · rw [h2] at z
      exact z
    · rw [h2] at z
      have := y.low _ z
      simp only at this
      omega
  · have h1 := y.lines.lt _ (mem_ends.mpr ⟨p, h, .inl rfl⟩)
    exact linesOf_mem.mpr ⟨h1, (far_of y.lines.nd h).1, y.low p h⟩
end One
end P_M5

section P_M6
set_option linter.all false
namespace One
/-- what lies behind b, seen through crossing c sewn out at way w; k turns at most -/
def backK (F : Nat → Nat) (c w : Nat) : Nat → Nat → Option Nat
  | 0, b => if b / 4 = c then none else some b
  | k + 1, b => if b / 4 = c then backK F c w k (F (b ^^^ (w + 1))) else some b
theorem xor_two : ∀ n, n < 64 → (4 * n) ^^^ 2 = 4 * n + 2 ∧ (4 * n + 1) ^^^ 2 = 4 * n + 3 ∧ (4 * n + 2) ^^^ 2 = 4 * n ∧ (4 * n + 3) ^^^ 2 = 4 * n + 1 := by
  have h : ∀ n : Fin 64, (4 * (n : Nat)) ^^^ 2 = 4 * (n : Nat) + 2 ∧ (4 * (n : Nat) + 1) ^^^ 2 = 4 * (n : Nat) + 3 ∧ (4 * (n : Nat) + 2) ^^^ 2 = 4 * (n : Nat) ∧ (4 * (n : Nat) + 3) ^^^ 2 = 4 * (n : Nat) + 1 := by decide +kernel
  exact fun n hn => h ⟨n, hn⟩
theorem backK_out {F : Nat → Nat} {c w k b : Nat} (h : b / 4 ≠ c) : backK F c w k b = some b := by
  cases k <;> exact if_neg h
theorem backK_in {F : Nat → Nat} {c w k b : Nat} (h : b / 4 = c) : backK F c w (k + 1) b = backK F c w k (F (b ^^^ (w + 1))) := if_pos h
theorem put_yard {n : Nat} {ps T : List (Nat × Nat)} {i j : Nat} {a b : Nat × Nat} (y : Yard n ps) (ha : ps[i]? = some a) (hb : ps[j]? = some b) (hp : T.Perm (putOn n ps i j a b)) (hs : T.Pairwise leP) : Yard (n + 1) T := by
  refine yard_of_sorted (Nat.succ_pos _) (put_lines y.lines ha hb) (put_whole y.pos y.lines y.whole ha hb) (fun p m => ?_) hp hs
  have lt : ∀ q ∈ ps, q.1 < 4 * n ∧ q.2 < 4 * n := fun q hq => ⟨y.lines.lt _ (mem_ends.mpr ⟨q, hq, .inl rfl⟩), y.lines.lt _ (mem_ends.mpr ⟨q, hq, .inr rfl⟩)⟩
  obtain ⟨a1, a2⟩ := lt a (List.mem_of_getElem? ha)
  obtain ⟨b1, b2⟩ := lt b (List.mem_of_getElem? hb)
  rcases List.mem_append.mp m with m | m
  · exact Nat.le_of_lt (y.low p (mem_keep _ _ _ _ m))
  · unfold fresh at m
    split at m
    · simp only [List.mem_cons, List.not_mem_nil, or_false] at m
      rcases m with rfl | rfl | rfl <;> simp only <;> omega
    · simp only [List.mem_cons, List.not_mem_nil, or_false] at m
      rcases m with rfl | rfl | rfl | rfl <;> simp only <;> omega
theorem sew_back {n : Nat} {ps T : List (Nat × Nat)} {i j : Nat} {a b : Nat × Nat} (L : Lines n ps) (ha : ps[i]? = some a) (hb : ps[j]? = some b) (hp : T.Perm (putOn n ps i j a b)) (hn : n < 64) :
    (∀ e, e < 4 * n → backK (far T) n 1 2 (far T e) = some (far ps e)) ∧ (far T (4 * n) ≠ (4 * n) ^^^ 2 ∧ far T (4 * n + 1) ≠ (4 * n + 1) ^^^ 2 ∧ far T (4 * n + 2) ≠ (4 * n + 2) ^^^ 2 ∧ far T (4 * n + 3) ≠ (4 * n + 3) ^^^ 2) := by
  have LT : Lines (n + 1) T := (put_lines L ha hb).perm hp.symm
  obtain ⟨x0, x1, x2, x3⟩ := xor_two n hn
  have lt : ∀ q ∈ ps, q.1 < 4 * n ∧ q.2 < 4 * n := fun q hq => ⟨L.lt _ (mem_ends.mpr ⟨q, hq, .inl rfl⟩), L.lt _ (mem_ends.mpr ⟨q, hq, .inr rfl⟩)⟩
  have ma := List.mem_of_getElem? ha
  have mb := List.mem_of_getElem? hb
  obtain ⟨a1, a2⟩ := lt a ma
  obtain ⟨b1, b2⟩ := lt b mb
  have d0 : (4 * n) / 4 = n := by omega
  have d1 : (4 * n + 1) / 4 = n := by omega
  have d2 : (4 * n + 2) / 4 = n := by omega
  have d3 : (4 * n + 3) / 4 = n := by omega
  have out : ∀ {b k}, b < 4 * n → backK (far T) n 1 k b = some b := fun h => backK_out (by omega)
  have isT : ∀ {p}, p ∈ putOn n ps i j a b → far T p.1 = p.2 ∧ far T p.2 = p.1 := fun m => far_of LT.nd (hp.mem_iff.mpr m)
  have kept : ∀ p ∈ keepIx (notIJ i j) 0 ps, ∀ e, e = p.1 ∨ e = p.2 → backK (far T) n 1 2 (far T e) = some (far ps e) := fun p m e he => by
    have mp := mem_keep _ _ _ _ m
    obtain ⟨t1, t2⟩ := isT (p := p) (List.mem_append_left _ m)
    obtain ⟨o1, o2⟩ := far_of L.nd mp
    obtain ⟨l1, l2⟩ := lt p mp
    rcases he with rfl | rfl
    · rw [t1, o1]; exact out l2
    · rw [t2, o2]; exact out l1
  by_cases hij : i = j
  · subst hij
    have eab : b = a := Option.some.inj (hb.symm.trans ha)
    subst eab
    have fr : fresh n i i b b = [(b.1, 4 * n), (4 * n + 1, 4 * n + 2), (b.2, 4 * n + 3)] := if_pos rfl
    have mem : ∀ q ∈ fresh n i i b b, far T q.1 = q.2 ∧ far T q.2 = q.1 := fun q m => isT (List.mem_append_right _ m)
    rw [fr] at mem
    obtain ⟨p1, p2⟩ := mem (b.1, 4 * n) (by simp)
    obtain ⟨p3, p4⟩ := mem (4 * n + 1, 4 * n + 2) (by simp)
    obtain ⟨p5, p6⟩ := mem (b.2, 4 * n + 3) (by simp)
    simp only at p1 p2 p3 p4 p5 p6
    obtain ⟨g1, g2⟩ := far_of L.nd mb
    refine ⟨fun e he => ?_, ?_, ?_, ?_, ?_⟩
    · obtain ⟨p, m, z⟩ := mem_ends.mp (ends_full L he)
      rcases List.mem_cons.mp ((keep_one ha).mem_iff.mp m) with e1 | m
      · subst e1
        rcases z with rfl | rfl
        · rw [p1, g1, backK_in d0, x0, p4, backK_in d1, x1, p6]
          exact out b2
        · rw [p5, g2, backK_in d3, x3, p3, backK_in d2, x2, p2]
          exact out b1
      · exact kept p m e z
    · rw [p2, x0]; omega
    · rw [p3, x1]; omega
    · rw [p4, x2]; omega
    · rw [p6, x3]; omega
  · have fr : fresh n i j a b = [(a.1, 4 * n), (a.2, 4 * n + 2), (b.1, 4 * n + 1), (b.2, 4 * n + 3)] := if_neg hij
    have mem : ∀ q ∈ fresh n i j a b, far T q.1 = q.2 ∧ far T q.2 = q.1 := fun q m => isT (List.mem_append_right _ m)
    rw [fr] at mem
    obtain ⟨p1, p2⟩ := mem (a.1, 4 * n) (by simp)
    obtain ⟨p3, p4⟩ := mem (a.2, 4 * n + 2) (by simp)
    obtain ⟨p5, p6⟩ := mem (b.1, 4 * n + 1) (by simp)
    obtain ⟨p7, p8⟩ := mem (b.2, 4 * n + 3) (by simp)
    simp only at p1 p2 p3 p4 p5 p6 p7 p8
    obtain ⟨g1, g2⟩ := far_of L.nd ma
    obtain ⟨g3, g4⟩ := far_of L.nd mb
    refine ⟨fun e he => ?_, ?_, ?_, ?_, ?_⟩
    · obtain ⟨p, m, z⟩ := mem_ends.mp (ends_full L he)
      rcases List.mem_cons.mp ((keep_two hij ha hb).mem_iff.mp m) with e1 | m
      · subst e1
        rcases z with rfl | rfl
        · rw [p1, g1, backK_in d0, x0, p4]
          exact out a2
        · rw [p3, g2, backK_in d2, x2, p2]
          exact out a1
      · rcases List.mem_cons.mp m with e1 | m
        · subst e1
          rcases z with rfl | rfl
          · rw [p5, g3, backK_in d1, x1, p8]
            exact out b2
          · rw [p7, g4, backK_in d3, x3, p6]
            exact out b1
        · exact kept p m e z
    · rw [p2, x0]; omega
    · rw [p6, x1]; omega
    · rw [p4, x2]; omega
    · rw [p8, x3]; omega
end One
end P_M6

section P_M8
set_option linter.all false
/-! Sewing out any crossing, at any way, where nothing closes: what lies behind an end. -/
namespace One
theorem mate_block {e w : Nat} (hw : w < 3) : (e ^^^ (w + 1)) / 4 = e / 4 := by
  have h := Nat.xor_div_two_pow (a := e) (b := w + 1) (n := 2)
  rw [show (2 : Nat) ^ 2 = 4 from rfl] at h
  rw [h, show (w + 1) / 4 = 0 by omega, Nat.xor_zero]
theorem mate_mate (e w : Nat) : (e ^^^ (w + 1)) ^^^ (w + 1) = e := by rw [Nat.xor_assoc, Nat.xor_self, Nat.xor_zero]
theorem mate_ne (e w : Nat) : e ^^^ (w + 1) ≠ e := fun h => by
  have h2 : e ^^^ (e ^^^ (w + 1)) = e ^^^ e := by rw [h]
  rw [← Nat.xor_assoc, Nat.xor_self, Nat.zero_xor] at h2
  omega
/-- far ends of lines: no end is its own far end, far of far is the end -/
structure Inv2 (F : Nat → Nat) (m : Nat) : Prop where
  lt : ∀ e, e < 4 * m → F e < 4 * m
  inv : ∀ e, e < 4 * m → F (F e) = e
  ne : ∀ e, e < 4 * m → F e ≠ e
theorem far_inv {n : Nat} {ps : List (Nat × Nat)} (L : Lines n ps) : Inv2 (far ps) n := by
  refine ⟨fun e he => far_lt L he, fun e he => (far_line L.nd (ends_full L he)).2, fun e he h => ?_⟩
  obtain ⟨z | z, _⟩ := far_line L.nd (ends_full L he)
  · rw [h] at z
    exact nodup_pair L.nd _ z rfl
  · rw [h] at z
    exact nodup_pair L.nd _ z rfl
/-- nothing closes at crossing c, way w -/
def Open (F : Nat → Nat) (c w : Nat) : Prop := ∀ e, e / 4 = c → F e ≠ e ^^^ (w + 1)
section
variable {F : Nat → Nat} {m c w : Nat}
/-- the walk behind an end ends within two turns -/
theorem back_some (I : Inv2 F m) (hc : c < m) (hw : w < 3) (O : Open F c w) {e : Nat} (he : e < 4 * m) (ho : e / 4 ≠ c) : ∃ g, backK F c w 2 (F e) = some g ∧ g < 4 * m ∧ g / 4 ≠ c := by
  by_cases h0 : F e / 4 = c
  · rw [backK_in h0]
    have m0 : (F e ^^^ (w + 1)) / 4 = c := (mate_block hw).trans h0
    have l0 : F e ^^^ (w + 1) < 4 * m := by omega
    by_cases h1 : F (F e ^^^ (w + 1)) / 4 = c
    · rw [backK_in h1]
      have m1 : (F (F e ^^^ (w + 1)) ^^^ (w + 1)) / 4 = c := (mate_block hw).trans h1
      have l1 : F (F e ^^^ (w + 1)) ^^^ (w + 1) < 4 * m := by omega
      have h2 : F (F (F e ^^^ (w + 1)) ^^^ (w + 1)) / 4 ≠ c := by
        intro h2
        -- four ends of c: x, its mate, y, its mate, and where the last leads
        generalize hx : F e = x at *
        generalize hx' : x ^^^ (w + 1) = x' at *
        generalize hy : F x' = y at *
        generalize hy' : y ^^^ (w + 1) = y' at *
        generalize hz : F y' = z at *
        have fx : F x = e := by rw [← hx]; exact I.inv e he
        have fy : F y = x' := by rw [← hy]; exact I.inv x' l0
        have fz : F z = y' := by rw [← hz]; exact I.inv y' l1
        have mx : x' ^^^ (w + 1) = x := by rw [← hx']; exact mate_mate x w
        have my : y' ^^^ (w + 1) = y := by rw [← hy']; exact mate_mate y w
        have a1 : y ≠ x := fun q => O x' m0 (by rw [hy, mx]; exact q)
        have a2 : y ≠ x' := fun q => I.ne x' l0 (hy.trans q)
        have b1 : z ≠ y := fun q => O y' m1 (by rw [hz, my]; exact q)
        have b2 : z ≠ y' := fun q => I.ne y' l1 (hz.trans q)
        have b3 : z ≠ x := fun q => by
          rw [q, fx] at fz
          rw [fz] at ho
          exact ho m1
        have b4 : z ≠ x' := fun q => by
          rw [q, hy] at fz
          exact mate_ne y w (hy'.trans fz.symm)
        have d1 : x' ≠ x := fun q => mate_ne x w (hx'.trans q)
        have d2 : y' ≠ y := fun q => mate_ne y w (hy'.trans q)
        have d3 : y' ≠ x := fun q => by
          rw [q] at my
          exact a2 (my.symm.trans hx')
        have d4 : y' ≠ x' := fun q => by
          rw [q] at my
          exact a1 (my.symm.trans mx)
        omega
      rw [show backK F c w 0 (F (F (F e ^^^ (w + 1)) ^^^ (w + 1))) = some (F (F (F e ^^^ (w + 1)) ^^^ (w + 1))) from backK_out h2]
      exact ⟨_, rfl, I.lt _ l1, h2⟩
    · rw [backK_out h1]
      exact ⟨_, rfl, I.lt _ l0, h1⟩
  · rw [backK_out h0]
    exact ⟨_, rfl, I.lt _ he, h0⟩
end
end One
end P_M8

section P_M9
set_option linter.all false
namespace One
/-- walking from an end through crossing c to g -/
inductive Through (F : Nat → Nat) (c w : Nat) : Nat → Nat → Prop
  | out {e : Nat} : F e / 4 ≠ c → Through F c w e (F e)
  | step {e g : Nat} : F e / 4 = c → Through F c w (F e ^^^ (w + 1)) g → Through F c w e g
section
variable {F : Nat → Nat} {m c w : Nat}
theorem through_of : ∀ (k e g : Nat), backK F c w k (F e) = some g → Through F c w e g
  | 0, e, g, h => by
    by_cases h0 : F e / 4 = c
    · have z : (none : Option Nat) = some g := (if_pos h0).symm.trans h
      cases z
    · rw [backK_out h0] at h
      cases h
      exact .out h0
  | k + 1, e, g, h => by
    by_cases h0 : F e / 4 = c
    · rw [backK_in h0] at h
      exact .step h0 (through_of k _ _ h)
    · rw [backK_out h0] at h
      cases h
      exact .out h0
theorem Through.one {e g : Nat} (h : Through F c w e g) : ∀ {g' : Nat}, Through F c w e g' → g = g' := by
  induction h with
  | out h0 =>
    intro g' k
    cases k with
    | out _ => rfl
    | step h1 _ => exact absurd h1 h0
  | step h0 _ ih =>
    intro g' k
    cases k with
    | out h1 => exact absurd h0 h1
    | step _ k => exact ih k
/-- the walk back -/
theorem Through.back (I : Inv2 F m) (hc : c < m) (hw : w < 3) {e g : Nat} (h : Through F c w e g) : e < 4 * m → ∀ x, ((e / 4 ≠ c ∧ x = e) ∨ (e / 4 = c ∧ Through F c w (e ^^^ (w + 1)) x)) → Through F c w g x := by
  induction h with
  | @out e h0 =>
    intro he x hx
    have fe := I.inv e he
    rcases hx with ⟨h1, rfl⟩ | ⟨h1, h2⟩
    · have := Through.out (F := F) (c := c) (w := w) (e := F x) (by rw [fe]; exact h1)
      rw [fe] at this
      exact this
    · exact .step (by rw [fe]; exact h1) (by rw [fe]; exact h2)
  | @step e g h0 _ ih =>
    intro he x hx
    have fe := I.inv e he
    have mb : (F e ^^^ (w + 1)) / 4 = c := (mate_block hw).trans h0
    refine ih (by omega) x (.inr ⟨mb, ?_⟩)
    rw [mate_mate]
    rcases hx with ⟨h1, rfl⟩ | ⟨h1, h2⟩
    · have := Through.out (F := F) (c := c) (w := w) (e := F x) (by rw [fe]; exact h1)
      rw [fe] at this
      exact this
    · exact .step (by rw [fe]; exact h1) (by rw [fe]; exact h2)
/-- what lies behind an end, once crossing c is sewn out at way w -/
def behindF (F : Nat → Nat) (c w e : Nat) : Nat := (backK F c w 2 (F e)).getD 0
theorem behind_is (I : Inv2 F m) (hc : c < m) (hw : w < 3) (O : Open F c w) {e : Nat} (he : e < 4 * m) (ho : e / 4 ≠ c) :
    backK F c w 2 (F e) = some (behindF F c w e) ∧ behindF F c w e < 4 * m ∧ behindF F c w e / 4 ≠ c := by
  obtain ⟨g, h1, h2, h3⟩ := back_some I hc hw O he ho
  have e1 : behindF F c w e = g := by
    unfold behindF
    rw [h1]
    rfl
  rw [e1]
  exact ⟨h1, h2, h3⟩
theorem behind_inv (I : Inv2 F m) (hc : c < m) (hw : w < 3) (O : Open F c w) {e : Nat} (he : e < 4 * m) (ho : e / 4 ≠ c) : behindF F c w (behindF F c w e) = e := by
  obtain ⟨h1, h2, h3⟩ := behind_is I hc hw O he ho
  obtain ⟨k1, _, _⟩ := behind_is I hc hw O h2 h3
  have t1 := through_of _ _ _ h1
  have t2 := through_of _ _ _ k1
  exact t2.one (t1.back I hc hw he e (.inl ⟨ho, rfl⟩))
theorem behind_ne (I : Inv2 F m) (hc : c < m) (hw : w < 3) (O : Open F c w) {e : Nat} (he : e < 4 * m) (ho : e / 4 ≠ c) : behindF F c w e ≠ e := by
  intro h
  obtain ⟨h1, _, _⟩ := behind_is I hc hw O he ho
  rw [h] at h1
  by_cases h0 : F e / 4 = c
  · rw [backK_in h0] at h1
    have m0 : (F e ^^^ (w + 1)) / 4 = c := (mate_block hw).trans h0
    have l0 : F e ^^^ (w + 1) < 4 * m := by omega
    by_cases h2 : F (F e ^^^ (w + 1)) / 4 = c
    · rw [backK_in h2] at h1
      have m1 : (F (F e ^^^ (w + 1)) ^^^ (w + 1)) / 4 = c := (mate_block hw).trans h2
      have l1 : F (F e ^^^ (w + 1)) ^^^ (w + 1) < 4 * m := by omega
      by_cases h4 : F (F (F e ^^^ (w + 1)) ^^^ (w + 1)) / 4 = c
      · have z : (none : Option Nat) = some e := (if_pos h4).symm.trans h1
        cases z
      · rw [backK_out h4] at h1
        have z := Option.some.inj h1
        have z2 := I.inv _ l1
        rw [z] at z2
        have z3 : F (F e ^^^ (w + 1)) = F e ^^^ (w + 1) := ((congrArg (· ^^^ (w + 1)) z2).trans (mate_mate _ w)).symm
        exact I.ne _ l0 z3
    · rw [backK_out h2] at h1
      have z := Option.some.inj h1
      have z2 := I.inv _ l0
      rw [z] at z2
      exact mate_ne (F e) w z2.symm
  · rw [backK_out h0] at h1
    exact I.ne e he (Option.some.inj h1)
end
end One
end P_M9

section P_M11
set_option linter.all false
/-! Parity: an involution without a fixed point pairs what it is closed on. -/
namespace One
/-- a list without repeats, closed under an involution that moves each item, has even length -/
theorem even_inv {F : Nat → Nat} : ∀ (n : Nat) (l : List Nat), l.length = n → l.Nodup → (∀ x ∈ l, F x ∈ l ∧ F (F x) = x ∧ F x ≠ x) → l.length % 2 = 0
  | 0, l, h, _, _ => by rw [h]
  | 1, [a], _, _, h => by
    obtain ⟨h1, _, h3⟩ := h a (List.mem_cons_self ..)
    exact absurd (List.mem_singleton.mp h1) h3
  | n + 2, [], h, _, _ => by cases h
  | n + 2, a :: r, h, nd, k => by
    obtain ⟨n1, n2⟩ := List.nodup_cons.mp nd
    obtain ⟨k1, k2, k3⟩ := k a (List.mem_cons_self ..)
    have hr : F a ∈ r := by
      rcases List.mem_cons.mp k1 with e | m
      · exact absurd e k3
      · exact m
    have le := List.length_erase_of_mem hr
    have hl : r.length = n + 1 := by
      rw [List.length_cons] at h
      omega
    have hn : (r.erase (F a)).length = n := by omega
    have ih := even_inv n (r.erase (F a)) hn (n2.erase _) fun x hx => by
      obtain ⟨x1, x2⟩ := n2.mem_erase_iff.mp hx
      obtain ⟨y1, y2, y3⟩ := k x (List.mem_cons_of_mem _ x2)
      refine ⟨n2.mem_erase_iff.mpr ⟨fun e => ?_, ?_⟩, y2, y3⟩
      · have e2 : F (F x) = F (F a) := by rw [e]
        rw [y2, k2] at e2
        exact n1 (e2 ▸ x2)
      · rcases List.mem_cons.mp y1 with e | m
        · rw [e] at y2
          exact absurd y2.symm x1
        · exact m
    rw [List.length_cons]
    omega
/-- the ends of the crossings that a predicate takes -/
def endsOf (P : Nat → Bool) (m : Nat) : List Nat := (List.range (4 * m)).filter fun e => P (e / 4)
theorem endsOf_len (P : Nat → Bool) : ∀ m, (endsOf P m).length % 4 = 0
  | 0 => rfl
  | m + 1 => by
    have ih := endsOf_len P m
    unfold endsOf at *
    rw [show 4 * (m + 1) = 4 * m + 1 + 1 + 1 + 1 by omega, List.range_succ, List.range_succ, List.range_succ, List.range_succ]
    simp only [List.filter_append, List.length_append, List.filter_cons, List.filter_nil]
    rw [show 4 * m / 4 = m by omega, show (4 * m + 1) / 4 = m by omega, show (4 * m + 1 + 1) / 4 = m by omega, show (4 * m + 1 + 1 + 1) / 4 = m by omega]
    cases P m <;> simp <;> omega
end One
end P_M11

section P_D0
set_option maxRecDepth 100000
set_option maxHeartbeats 4000000
namespace One
open PySem L2
def top (i : Nat) : Stmt := PySem.Challenge.pw_oneround_k08_whole_sewn_down_and_grown.main.body.getD i (.Pass ⟨0, 0, 0, 0⟩)
abbrev sBegun : Stmt := top 36
abbrev sDraw : Stmt := top 37
theorem scBegun : FnScope ["script"] ["script"] (defScope sBegun) := ⟨rfl, rfl, rfl, by decide +kernel, rfl, by decide +kernel, by decide +kernel⟩
end One
end P_D0

section P_D1
set_option maxRecDepth 100000
set_option maxHeartbeats 4000000
/-! The draws: what the top's first two helpers of a law promise. -/
namespace One
open PySem PySem.Spec PyProof.Rows L2
/-! ### a list that is only read, with a list behind it -/
theorem add_read (l : Addr) (items : Array Value) (n : Nat) (sl : Array (Option Value)) (b : Addr) (items2 : Array Value) (n2 : Nat) (hc0 : items.size + items2.size ≤ sizeLine) :
    Meets (Builtin.«list.__add__» ⟨[.ref l, .ref b], []⟩) (fun _ R s => s.heap.get? l = some ⟨.type "list", none, .seq items n, sl⟩ ∧ s.heap.get? b = some ⟨.type "list", none, .seq items2 n2, #[]⟩ ∧
      R (.ok (.ret (Value.ref s.heap.objs.size))) { s with heap := s.heap.push { cls := Value.type "list", data := Data.seq (items ++ items2) }, toks := s.toks }) :=
  .of_wp fun prog w A R s h => by
    obtain ⟨hp, g, d, tk, os⟩ := s
    obtain ⟨hl, hb, h⟩ := h
    have f1 := PySem.AutoSeq1.idx_int
    have f3 := PySem.AutoSeq1.sub_list_list
    wp_walk using PySem.AutoSeq1.wpAny_loadPart' hl, PySem.AutoSeq1.wpAny_loadPart' hb
    exact ⟨_, rfl, h⟩
section
variable {X : Cx}
def rCatS (K : PySem.W.Frag) : R2 := fun x y H Q => ∃ l b xs zs, x = .ref l ∧ y = .ref b ∧ SqL K H l xs ∧ H b = some (.lst zs) ∧ xs.length + zs.length ≤ sizeLine ∧ ∀ p, H p = none → Q (.ref p) (upd H p (.lst (xs ++ zs)))
theorem op_catS : OpR X (binaryOp .Add) (rCatS X.K) := by
  intro pins s σ H x y v u Q I rx ry h
  obtain ⟨l, b, xs, zs, rfl, rfl, hS, hB, hz, q⟩ := h
  cases rx
  cases ry
  obtain ⟨its, r, ⟨⟨oc, od, oda, osl⟩, n, e, ec, ed, edd⟩, hl⟩ := I.list hS
  dsimp only at ec ed edd
  subst ec ed edd
  obtain ⟨z2, its2, n2, r2, hl2, e2⟩ := I.lstM hB
  have ha : s.TypeIs (.ref l) "list" := ⟨_, e, rfl⟩
  have hb : s.TypeIs (.ref b) "list" := ⟨_, e2, rfl⟩
  have hsz : its.toArray.size + its2.toArray.size ≤ sizeLine := by
    rw [List.size_toArray, List.size_toArray, ← r.length, ← r2.length]
    exact hz
  refine PySem.concat_meets ha hb PySem.noFill_list_add PySem.seq_list_add F.slot_list_add F.entry_list_add (F.args_list_add_2 _ _) (add_read l its.toArray n osl b its2.toArray n2 hsz) ⟨e, e2, ?_⟩
  have ea : its.toArray ++ its2.toArray = (its ++ its2).toArray := by simp
  rw [ea]
  exact ⟨.ref _, _, I.lnew (t' := s.toks) (r.append r2) (by rw [List.length_append]; exact hz), rfl, q _ I.fresh⟩
end
end One
end P_D1

section P_D2
set_option maxRecDepth 100000
set_option maxHeartbeats 4000000
namespace One
open PySem PySem.Spec PyProof.Rows L2
/-! ### the dict of the draws -/
abbrev kC : Key := Sum.inr ("cells" : Str)
abbrev kA : Key := Sum.inr ("at" : Str)
abbrev kL : Key := Sum.inr ("left" : Str)
abbrev kM : Key := Sum.inr ("mixed" : Str)
def mkv (c : Addr) (a l x : Int) : List (Key × V) := [(kC, .ref c), (kA, .int a), (kL, .int l), (kM, .int x)]
theorem nCA : ¬ (kC = kA) := by decide +kernel
theorem nCL : ¬ (kC = kL) := by decide +kernel
theorem nCM : ¬ (kC = kM) := by decide +kernel
theorem nAL : ¬ (kA = kL) := by decide +kernel
theorem nAM : ¬ (kA = kM) := by decide +kernel
theorem nLM : ¬ (kL = kM) := by decide +kernel
section
variable (c : Addr) (a l x : Int)
theorem mkv_C : valV (mkv c a l x) kC = some (.ref c) := valV_pos rfl
theorem mkv_A : valV (mkv c a l x) kA = some (.int a) := (valV_neg nCA).trans (valV_pos rfl)
theorem mkv_L : valV (mkv c a l x) kL = some (.int l) := (valV_neg nCL).trans ((valV_neg nAL).trans (valV_pos rfl))
theorem mkv_M : valV (mkv c a l x) kM = some (.int x) := (valV_neg nCM).trans ((valV_neg nAM).trans ((valV_neg nLM).trans (valV_pos rfl)))
theorem put_at (p : List (Key × V)) (k : Key) (v : V) (h : (p.any fun kv => decide (kv.1 = k)) = true) : putK p k v = p.map (fun kv => if kv.1 = k then (kv.1, v) else kv) := by
  unfold putK
  rw [if_pos h]
theorem mkv_putA (b : Int) : putK (mkv c a l x) kA (.int b) = mkv c b l x := by
  rw [put_at _ _ _ (by rw [valV_any, mkv_A]; rfl)]
  simp only [mkv, List.map_cons, List.map_nil, if_neg nCA, if_neg (Ne.symm nAL), if_neg (Ne.symm nAM), if_true]
theorem mkv_putL (b : Int) : putK (mkv c a l x) kL (.int b) = mkv c a b x := by
  rw [put_at _ _ _ (by rw [valV_any, mkv_L]; rfl)]
  simp only [mkv, List.map_cons, List.map_nil, if_neg nCL, if_neg nAL, if_neg (Ne.symm nLM), if_true]
theorem mkv_putM (b : Int) : putK (mkv c a l x) kM (.int b) = mkv c a l b := by
  rw [put_at _ _ _ (by rw [valV_any, mkv_M]; rfl)]
  simp only [mkv, List.map_cons, List.map_nil, if_neg nCM, if_neg nAM, if_neg nLM, if_true]
theorem mkv_make : mergeK [] [(kC, V.ref c), (kA, .int a), (kL, .int l), (kM, .int x)] = mkv c a l x := by
  have e1 : putK ([] : List (Key × V)) kC (.ref c) = [(kC, .ref c)] := putK_new _ valV_nil
  have e2 : putK [(kC, V.ref c)] kA (.int a) = [(kC, .ref c), (kA, .int a)] := putK_new _ (by rw [valV_neg nCA]; rfl)
  have e3 : putK [(kC, V.ref c), (kA, V.int a)] kL (.int l) = [(kC, .ref c), (kA, .int a), (kL, .int l)] := putK_new _ (by rw [valV_neg nCL, valV_neg nAL]; rfl)
  have e4 : putK [(kC, V.ref c), (kA, V.int a), (kL, V.int l)] kM (.int x) = [(kC, .ref c), (kA, .int a), (kL, .int l), (kM, .int x)] := putK_new _ (by rw [valV_neg nCM, valV_neg nAM, valV_neg nLM]; rfl)
  simp only [mergeK, List.foldl_cons, List.foldl_nil]
  rw [e1, e2, e3, e4]
  rfl
end
/-- the draws' dict at p, its cells at c, with at most n mixed draws so far -/
structure MS (H : Hp) (p c : Addr) (n : Nat) : Prop where
  ex : ∃ (cells : List Int) (a l x : Int), H p = some (.dK (mkv c a l x)) ∧ H c = some (.lst (cells.map V.int)) ∧ 0 < cells.length ∧ cells.length ≤ 64 ∧ 0 ≤ a ∧ 0 ≤ l ∧ 0 ≤ x ∧ x ≤ (n : Int)
  nn : n ≤ 1000000
/-- all but p stands as it stood -/
def But (p : Addr) (H H' : Hp) : Prop := ∀ b, b ≠ p → H' b = H b
/-- all that stood but p stands as it stood -/
def Ext (p : Addr) (H H' : Hp) : Prop := ∀ b o, b ≠ p → H b = some o → H' b = some o
theorem But.ext {p : Addr} {H H' : Hp} (h : But p H H') : Ext p H H' := fun b o hb e => (h b hb).trans e
theorem But.trans {p : Addr} {H H1 H2 : Hp} (h : But p H H1) (k : But p H1 H2) : But p H H2 := fun b hb => (k b hb).trans (h b hb)
theorem Ext.refl (p : Addr) (H : Hp) : Ext p H H := fun _ _ _ e => e
theorem Ext.trans {p : Addr} {H H1 H2 : Hp} (h : Ext p H H1) (k : Ext p H1 H2) : Ext p H H2 := fun b o hb e => k b o hb (h b o hb e)
theorem Ext.same {p : Addr} {H H1 : Hp} (h : Same H H1) : Ext p H H1 := fun b o _ e => h b o e
theorem Ext.new {p q : Addr} {H : Hp} {o : HO} (h : H q = none) : Ext p H (upd H q o) := fun b u _ e => by
  rw [upd_ne (ne_of_none e h)]
  exact e
theorem MS.lt {H : Hp} {p c : Addr} {n k : Nat} (M : MS H p c n) (h : n ≤ k) (hk : k ≤ 1000000) : MS H p c k := by
  obtain ⟨cells, a, l, x, h1, h2, h3, h4, h5, h6, h7, h8⟩ := M.ex
  exact ⟨⟨cells, a, l, x, h1, h2, h3, h4, h5, h6, h7, by omega⟩, hk⟩
theorem MS.ne {H : Hp} {p c : Addr} {n : Nat} (M : MS H p c n) : p ≠ c := by
  obtain ⟨cells, a, l, x, h1, h2, _⟩ := M.ex
  exact ne_of h1 h2 (by intro z; cases z)
theorem MS.there {H : Hp} {p c : Addr} {n : Nat} (M : MS H p c n) : ∃ o, H p = some o := by
  obtain ⟨cells, a, l, x, h1, _⟩ := M.ex
  exact ⟨_, h1⟩
/-- kept where what stood at both places stands -/
theorem MS.keep {H H' : Hp} {p c : Addr} {n : Nat} (M : MS H p c n) (k : Same H H') : MS H' p c n := by
  obtain ⟨cells, a, l, x, h1, h2, r⟩ := M.ex
  exact ⟨⟨cells, a, l, x, k _ _ h1, k _ _ h2, r⟩, M.nn⟩
theorem MS.new {H : Hp} {p c q : Addr} {n : Nat} {o : HO} (M : MS H p c n) (h : H q = none) : MS (upd H q o) p c n :=
  M.keep fun b u e => by
    rw [upd_ne (ne_of_none e h)]
    exact e
end One
end P_D2

section P_D3
set_option linter.all false
set_option maxRecDepth 100000
set_option maxHeartbeats 4000000
namespace One
open PySem PySem.Spec PyProof.Rows L2
/-- the names that the program's top leaves to the built-ins -/
structure TB (mg : Str → Option Value) : Prop where
  len : mg "len" = none
  range : mg "range" = none
  tuple : mg "tuple" = none
  list : mg "list" = none
  sorted : mg "sorted" = none
  enumerate : mg "enumerate" = none
  isinstance : mg "isinstance" = none
  int : mg "int" = none
  bool : mg "bool" = none
  repr : mg "repr" = none
  all : mg "all" = none
def spBegun (K : PySem.W.Frag) : Sp := fun vs H Q _ => ∃ (a : Addr) (ns : List Int), vs = [.ref a] ∧ SqL K H a (ns.map V.int) ∧ ns.length ≤ 63 ∧
  ∀ (H' : Hp) (p c : Addr), Same H H' → H p = none → MS H' p c 0 → Q (.ref p) H'
def spDraw : Sp := fun vs H Q _ => ∃ (p c : Addr) (n : Nat) (many : Int), vs = [.ref p, .int many] ∧ MS H p c n ∧ n < 1000000 ∧ 0 < many ∧ many < 1073741824 ∧
  ∀ (H' : Hp) (f : Int), MS H' p c (n + 1) → But p H H' → 0 ≤ f → f < many → Q (.int f) H'
section
variable {P : Program} {w : World} {K : PySem.W.Frag} {mg : Str → Option Value} {base : Heap}
theorem ok_begun {f : Addr} {fd : FuncData} (F : Fun K "_law_begun" "_law_begun" sBegun f fd) (T : TB mg) : FnOk P w K mg base CX0 1 f fd ["script"] (spBegun K) := by
  refine F.ok scBegun (fun vs H Q E h => ?_) (fun cdv A outer s H vs Q E hr h => ?_)
  · obtain ⟨a, ns, rfl, _⟩ := h
    rfl
  · obtain ⟨a, ns, rfl, hS, hl, k⟩ := h
    refine ⟨_, pss_one (ps_ret (pe_disp (pps_cons pe_str (pe_op op_catS (pv 0) (pe_lst (pa_cons (pe_callB call_len_seq (by rfl) T.len PySem.boot_len (pa_cons (pv 0) pa_nil)) pa_nil)))
      (pps_cons pe_str pe_int (pps_cons pe_str pe_int (pps_cons pe_str pe_int pps_nil)))) (by rfl) (by rfl) (fun z => by cases z) (by decide))), ?_⟩
    intro p hp
    have s0 : Same H (upd H p (.dK [])) := fun b o e => by
      rw [upd_ne (ne_of_none e hp)]
      exact e
    refine ⟨_, rfl, _, rfl, a, _, rfl, .inl (s0.seq hS), ?_⟩
    refine ⟨by show 1 ≤ sizeLine; decide, fun l hl1 => ?_⟩
    have hpl : p ≠ l := fun z => by
      rw [← z, upd_same] at hl1
      cases hl1
    have hl0 : H l = none := s0.free hl1
    have s1 : Same (upd H p (.dK [])) (upd (upd H p (.dK [])) l (.lst [V.int ((ns.map V.int).length : Nat)])) := fun b o e => by
      rw [upd_ne (ne_of_none e hl1)]
      exact e
    refine ⟨a, l, _, _, rfl, rfl, s1.seq (s0.seq hS), upd_same, by rw [List.length_map]; show ns.length + 1 ≤ sizeLine; exact Nat.le_of_lt (small1000 (by omega)), fun c hc => ?_⟩
    have s2 : Same (upd (upd H p (.dK [])) l (.lst [V.int ((ns.map V.int).length : Nat)])) (upd (upd (upd H p (.dK [])) l (.lst [V.int ((ns.map V.int).length : Nat)])) c (.lst (ns.map V.int ++ [V.int ((ns.map V.int).length : Nat)]))) := fun b o e => by
      rw [upd_ne (ne_of_none e hc)]
      exact e
    have hp2 := s2 _ _ (s1 _ _ upd_same)
    have hpc : p ≠ c := ne_of_none (s1 _ _ upd_same) hc
    refine ⟨hp2, [(kC, .ref c), (kA, .int 0), (kL, .int 0), (kM, .int 0)], rfl, by show 4 ≤ 15; decide, ?_⟩
    refine k _ p c (fun b o e => ?_) hp ⟨⟨ns ++ [(ns.length : Int)], 0, 0, 0, ?_, ?_, ?_, ?_, Int.le_refl _, Int.le_refl _, Int.le_refl _, by decide⟩, by decide⟩
    · rw [upd_ne (ne_of_none e hp)]
      exact s2 _ _ (s1 _ _ (s0 _ _ e))
    · rw [upd_same, mkv_make]
    · rw [upd_ne (Ne.symm hpc), upd_same, List.map_append, List.length_map]
      rfl
    · rw [List.length_append]
      exact Nat.succ_pos _
    · rw [List.length_append]
      show ns.length + 1 ≤ 64
      omega
end
end One
end P_D3

section P_D4
set_option linter.all false
set_option maxRecDepth 100000
set_option maxHeartbeats 4000000
namespace One
open PySem PySem.Spec PyProof.Rows L2
theorem scDraw : FnScope ["m", "many", "cell", "k", "number", "found"] ["m", "many"] (defScope sDraw) := ⟨rfl, rfl, rfl, by decide +kernel, rfl, by decide +kernel, by decide +kernel⟩
theorem get_cell {cells : List Int} {i : Int} (h0 : 0 ≤ i) (h1 : i < (cells.length : Int)) : ∃ z, atI (cells.map V.int) i = some (V.int z) := by
  have hlt : i.toNat < cells.length := by omega
  refine ⟨cells[i.toNat], at_of (j := i.toNat) (by omega) ?_⟩
  rw [List.getElem?_map, List.getElem?_eq_getElem hlt]
  rfl
theorem gC {H : Hp} {p c : Addr} {a l x : Int} (h : H p = some (.dK (mkv c a l x))) : DGet H p (.str ("cells" : Str)) (some (.ref c)) := by
  have q := DGet.k (k := kC) h
  rw [mkv_C] at q
  exact q
theorem gA {H : Hp} {p c : Addr} {a l x : Int} (h : H p = some (.dK (mkv c a l x))) : DGet H p (.str ("at" : Str)) (some (.int a)) := by
  have q := DGet.k (k := kA) h
  rw [mkv_A] at q
  exact q
theorem gL {H : Hp} {p c : Addr} {a l x : Int} (h : H p = some (.dK (mkv c a l x))) : DGet H p (.str ("left" : Str)) (some (.int l)) := by
  have q := DGet.k (k := kL) h
  rw [mkv_L] at q
  exact q
theorem gM {H : Hp} {p c : Addr} {a l x : Int} (h : H p = some (.dK (mkv c a l x))) : DGet H p (.str ("mixed" : Str)) (some (.int x)) := by
  have q := DGet.k (k := kM) h
  rw [mkv_M] at q
  exact q
theorem len4 (c : Addr) (a l x : Int) : (mkv c a l x).length < sizeLine := by
  show 4 < sizeLine
  decide
theorem pA {H : Hp} {p c : Addr} {a l x b : Int} (h : H p = some (.dK (mkv c a l x))) : DPut H p (.str ("at" : Str)) (.int b) (upd H p (.dK (mkv c b l x))) := by
  have q := DPut.k (k := kA) (v := .int b) h (len4 _ _ _ _)
  rw [mkv_putA] at q
  exact q
theorem pL {H : Hp} {p c : Addr} {a l x b : Int} (h : H p = some (.dK (mkv c a l x))) : DPut H p (.str ("left" : Str)) (.int b) (upd H p (.dK (mkv c a b x))) := by
  have q := DPut.k (k := kL) (v := .int b) h (len4 _ _ _ _)
  rw [mkv_putL] at q
  exact q
theorem pM {H : Hp} {p c : Addr} {a l x b : Int} (h : H p = some (.dK (mkv c a l x))) : DPut H p (.str ("mixed" : Str)) (.int b) (upd H p (.dK (mkv c a l b))) := by
  have q := DPut.k (k := kM) (v := .int b) h (len4 _ _ _ _)
  rw [mkv_putM] at q
  exact q
theorem But.upd {p : Addr} {H H' : Hp} {o : HO} (h : But p H H') : But p H (upd H' p o) := fun b hb => (upd_ne hb).trans (h b hb)
/-- the number of a mixed draw -/
theorem mix_bound {z k : Int} (h0 : 0 ≤ k) (h1 : k ≤ 1000001) : -(2 ^ 64) < z % 2147483629 + 104729 * k ∧ z % 2147483629 + 104729 * k < 2 ^ 64 := by
  have a := Int.emod_nonneg z (b := 2147483629) (by decide)
  have b := Int.emod_lt_of_pos z (b := 2147483629) (by decide)
  constructor <;> omega
/-- a test, then what comes of it, with a word between them -/
def tMid (t : TT) : TT := fun σ H Q => ∃ M : Bool → Hp → Prop, t σ H M ∧ ∀ b H', M b H' → Q b H'
theorem pt_mid {X : Cx} {e : Expr} {t : TT} (h : PT X e t) : PT X e (tMid t) := ⟨fun pins s σ H Q I ⟨M, h1, h2⟩ =>
  thn (h.run pins s σ H M I h1) fun b s' ⟨H', I', q⟩ => ⟨H', I', h2 b H' q⟩⟩
/-- an expression, then what comes of it, with a word between them -/
def tMidE (t : TE) : TE := fun σ H Q => ∃ M : V → Hp → Prop, t σ H M ∧ ∀ v H', M v H' → Q v H'
theorem pe_mid {X : Cx} {e : Expr} {t : TE} (h : PE X e t) : PE X e (tMidE t) := ⟨fun pins s σ H Q I ⟨M, h1, h2⟩ =>
  thn (h.run pins s σ H M I h1) fun u s' ⟨v, H', I', r, q⟩ => ⟨v, H', I', r, h2 v H' q⟩⟩
section
variable {P : Program} {w : World} {K : PySem.W.Frag} {mg : Str → Option Value} {base : Heap}
theorem ok_draw {f : Addr} {fd : FuncData} (F : Fun K "_law_draw" "_law_draw" sDraw f fd) (T : TB mg) : FnOk P w K mg base CX0 1 f fd ["m", "many"] spDraw := by
  refine F.ok scDraw (fun vs H Q E h => ?_) (fun cdv A outer s H vs Q E hr h => ?_)
  · obtain ⟨p, c, n, many, rfl, _⟩ := h
    rfl
  · obtain ⟨p, c, n, many, rfl, M, hn, h0, h1, k⟩ := h
    obtain ⟨cells, a, l, x, hm, hc, hne, h64, ha, hl, hx, hxn⟩ := M.ex
    have hu := hu_of hr
    have npc : p ≠ c := M.ne
    refine ⟨_, C8.pss_cut
      (ps_if (pt_cmpR op_eq (pe_dget hu (pv 0) pe_str (fun _ _ => rfl)) pe_int (nomark _))
        (pss_cons (ps_set (i := 2) scDraw.nd rfl (Or.inl rfl) (pe_ix ix_list (pe_dget hu (pv 0) pe_str (fun _ _ => rfl)) (pe_op op_mod (pe_dget hu (pv 0) pe_str (fun _ _ => rfl)) (pe_callB call_len_seq (by rfl) T.len PySem.boot_len (pa_cons (pe_dget hu (pv 0) pe_str (fun _ _ => rfl)) pa_nil))) (fun _ _ => rfl)))
        (pss_cons (ps_dput hu (pv 0) pe_str (pe_op op_add (pe_dget hu (pv 0) pe_str (fun _ _ => rfl)) pe_int) rfl)
        (pss_one (ps_if (pt_mid (PW.pt (pw_and (pt_cmpR op_ge (pv 2) (pe_op op_pow pe_int pe_int) (nomark _)) (pw_and1 (pt_cmpR op_le (pe_dget hu (pv 0) pe_str (fun _ _ => rfl)) (pe_callB call_len_seq (by rfl) T.len PySem.boot_len (pa_cons (pe_dget hu (pv 0) pe_str (fun _ _ => rfl)) pa_nil)) (nomark _))))))
          (pss_one (ps_dput hu (pv 0) pe_str (pv 2) rfl))
          (pss_cons (ps_set (i := 3) scDraw.nd rfl (Or.inl rfl) (pe_op op_add (pe_dget hu (pv 0) pe_str (fun _ _ => rfl)) pe_int))
          (pss_cons (ps_dput hu (pv 0) pe_str (pv 3) rfl)
          (pss_cons (ps_set (i := 4) scDraw.nd rfl (Or.inl rfl) (pe_mid (pe_op op_mod (pe_op op_mul (pe_op op_add (pe_op op_mod (pv 2) pe_int) (pe_op op_mul pe_int (pv 3))) (pe_op op_add (pe_op op_mul (pv 3) (pv 3)) pe_int)) pe_int)))
          (pss_cons (ps_dput hu (pv 0) pe_str (pe_op op_mul (pe_op op_mod (pe_op op_mul (pv 4) pe_int) pe_int) pe_int) rfl)
          (pss_one (ps_dput hu (pv 0) pe_str (pe_op op_add (pe_op op_add (pe_dget hu (pv 0) pe_str (fun _ _ => rfl)) (pe_op op_mod (pe_op op_mul (pv 4) (pv 4)) pe_int)) pe_int) rfl))))))))))
        pss_nil)
      (pss_cons (ps_set (i := 5) scDraw.nd rfl (Or.inl rfl) (pe_op op_mod (pe_dget hu (pv 0) pe_str (fun _ _ => rfl)) (pv 1)))
      (pss_cons (ps_dput hu (pv 0) pe_str (pe_op op_fdiv (pe_dget hu (pv 0) pe_str (fun _ _ => rfl)) (pv 1)) rfl)
      (pss_one (ps_ret (pv 5))))), ?_⟩
    refine ⟨fun σ H2 => ∃ (a' l' x' : Int) (v2 v3 v4 : Option V), σ = [some (.ref p), some (.int many), v2, v3, v4, none] ∧ H2 p = some (.dK (mkv c a' l' x')) ∧ But p H H2 ∧ 0 ≤ a' ∧ 0 ≤ l' ∧ 0 ≤ x' ∧ x' ≤ (n : Int) + 1, ?_, ?_⟩
    · refine ⟨_, rfl, p, _, rfl, gL hm, rfl, _, rfl, ?_⟩
      refine ite2 (fun _ => ?_) (fun _ => ?_)
      · have hmod0 : 0 ≤ a % (cells.length : Int) := Int.emod_nonneg _ (by omega)
        have hmod1 : a % (cells.length : Int) < (cells.length : Int) := Int.emod_lt_of_pos _ (by omega)
        obtain ⟨z, hz⟩ := get_cell (cells := cells) hmod0 hmod1
        -- cell
        refine ⟨_, rfl, p, _, rfl, gC hm, _, rfl, p, _, rfl, gA hm, _, rfl, p, _, rfl, gC hm, c, _, rfl, .inl (SqL.of hc), _, _, rfl, rfl, (by rw [List.length_map]; omega), ?_⟩
        refine ⟨c, _, _, _, rfl, rfl, SqL.of hc, (by rw [List.length_map]; exact hz), ?_⟩
        -- m['at'] = m['at'] + 1
        refine ⟨_, rfl, p, _, rfl, gA hm, _, _, rfl, rfl, _, rfl, p, _, rfl, pA hm, ?_⟩
        have hm1 : (upd H p (.dK (mkv c (a + 1) l x))) p = some (.dK (mkv c (a + 1) l x)) := upd_same
        have b1 : But p H (upd H p (.dK (mkv c (a + 1) l x))) := But.upd fun _ _ => rfl
        have hc1 : (upd H p (.dK (mkv c (a + 1) l x))) c = some (.lst (cells.map V.int)) := (b1 c (Ne.symm npc)).trans hc
        -- if cell >= 10 ** 18 and ..
        refine ⟨fun b H3 => H3 = upd H p (.dK (mkv c (a + 1) l x)) ∧ (b = true → 10 ^ 18 ≤ z), ?_, ?_⟩
        · refine ⟨_, rfl, _, _, rfl, rfl, ⟨by decide, by decide, by decide⟩, _, _, rfl, rfl, _, rfl, ?_⟩
          refine ite2 (fun hc18 => ?_) (fun _ => ⟨rfl, fun z => nomatch z⟩)
          exact ⟨_, rfl, p, _, rfl, gA hm1, _, rfl, p, _, rfl, gC hm1, c, _, rfl, .inl (SqL.of hc1), _, _, rfl, rfl, _, rfl, rfl, fun _ => of_decide_eq_true hc18⟩
        · rintro b H3 ⟨rfl, hb⟩
          refine ite2 (fun e => ?_) (fun _ => ?_)
          · have hz18 : 0 ≤ z := Int.le_trans (by decide) (hb e)
            exact ⟨_, rfl, _, rfl, p, _, rfl, pL hm1, a + 1, z, x, _, _, _, rfl, upd_same, b1.upd, by omega, hz18, hx, by omega⟩
          · refine ⟨_, rfl, p, _, rfl, gM hm1, _, _, rfl, rfl, ?_⟩
            refine ⟨_, rfl, _, rfl, p, _, rfl, pM hm1, ?_⟩
            have hm2 : (upd (upd H p (.dK (mkv c (a + 1) l x))) p (.dK (mkv c (a + 1) l (x + 1)))) p = some (.dK (mkv c (a + 1) l (x + 1))) := upd_same
            have b2 := b1.upd (o := .dK (mkv c (a + 1) l (x + 1)))
            have hnn := M.nn
            have hk0 : 0 ≤ x + 1 := by omega
            have hk1 : x + 1 ≤ 1000001 := by omega
            refine ⟨fun v H3 => H3 = _ ∧ ∃ N : Int, v = .int N ∧ 0 ≤ N ∧ N < 2147483647, ⟨_, rfl, _, _, rfl, rfl, (by show (0 : Int) < 2147483629; decide), _, rfl, _, _, rfl, rfl, .inl ⟨by decide, by decide⟩, _, _, rfl, rfl, _, rfl, _, rfl, _, _, rfl, rfl, .inl ⟨by omega, by omega⟩, _, _, rfl, rfl, _, _, rfl, rfl, .inl (mix_bound hk0 hk1), _, _, rfl, rfl, (by show (0 : Int) < 2147483647; decide),
              rfl, _, rfl, Int.emod_nonneg _ (by decide), Int.emod_lt_of_pos _ (by decide)⟩, ?_⟩
            rintro v H3 ⟨rfl, N, rfl, hN0, hN1⟩
            have hr0 := Int.emod_nonneg (N * 1000003) (b := 2147483587) (by decide)
            have hr1 := Int.emod_lt_of_pos (N * 1000003) (b := 2147483587) (by decide)
            have hs0 := Int.emod_nonneg (N * N) (b := 2147483563) (by decide)
            refine ⟨_, rfl, _, _, rfl, rfl, .inr ⟨by decide, by decide⟩, _, _, rfl, rfl, (by show (0 : Int) < 2147483587; decide), _, _, rfl, rfl, .inr ⟨by decide, by decide⟩, _, rfl, p, _, rfl, pL hm2, ?_⟩
            have hm3 : (upd (upd (upd H p (.dK (mkv c (a + 1) l x))) p (.dK (mkv c (a + 1) l (x + 1)))) p (.dK (mkv c (a + 1) (N * 1000003 % 2147483587 * 2147483647) (x + 1)))) p = some (.dK (mkv c (a + 1) (N * 1000003 % 2147483587 * 2147483647) (x + 1))) := upd_same
            have b3 := b2.upd (o := .dK (mkv c (a + 1) (N * 1000003 % 2147483587 * 2147483647) (x + 1)))
            refine ⟨_, rfl, p, _, rfl, gL hm3, _, rfl, _, rfl, _, _, rfl, rfl, .inl ⟨by omega, by omega⟩, _, _, rfl, rfl, (by show (0 : Int) < 2147483563; decide), _, _, rfl, rfl, _, _, rfl, rfl, _, rfl, p, _, rfl, pL hm3, ?_⟩
            exact ⟨a + 1, _, x + 1, _, _, _, rfl, upd_same, b3.upd, by omega, by omega, by omega, by omega⟩
      · exact ⟨a, l, x, none, none, none, rfl, hm, fun _ _ => rfl, ha, hl, hx, by omega⟩
    · rintro σ H2 ⟨a', l', x', v2, v3, v4, rfl, hm2, b2, ha', hl', hx', hxn'⟩
      refine ⟨_, rfl, p, _, rfl, gL hm2, _, rfl, _, _, rfl, rfl, h0, ?_⟩
      refine ⟨_, rfl, p, _, rfl, gL hm2, _, rfl, _, _, rfl, rfl, ⟨h0, h1⟩, _, rfl, p, _, rfl, pL hm2, ?_⟩
      refine ⟨_, rfl, ?_⟩
      refine k _ _ ⟨⟨cells, a', l' / many, x', upd_same, ?_, hne, h64, ha', Int.ediv_nonneg hl' (Int.le_of_lt h0), hx', by omega⟩, by omega⟩ b2.upd (Int.emod_nonneg _ (by omega)) (Int.emod_lt_of_pos _ h0)
      exact (upd_ne (Ne.symm npc)).trans ((b2 c (Ne.symm npc)).trans hc)
end
end One
end P_D4

section P_D5
set_option linter.all false
set_option maxRecDepth 100000
set_option maxHeartbeats 4000000
namespace One
open PySem PySem.Spec PyProof.Rows L2
/-- a def that is called by its name -/
structure Cal (K : PySem.W.Frag) (mg : Str → Option Value) (x : Str) (f : Addr) (fd : FuncData) (ps : List Str) : Prop where
  g : mg x = some (.ref f)
  kp : PySem.W.keepIn K (.ref f) = true
  b : Binds K fd ps []
/-- at a stands the pair p -/
def PAt (H : Hp) (a : Addr) (p : Nat × Nat) : Prop := H a = some (.tup [.int (p.1 : Nat), .int (p.2 : Nat)])
/-- at these addresses stand these pairs -/
inductive PL (H : Hp) : List Addr → List (Nat × Nat) → Prop
  | nil : PL H [] []
  | cons {a p as ps} : PAt H a p → PL H as ps → PL H (a :: as) (p :: ps)
theorem PL.len {H : Hp} {as : List Addr} {ps : List (Nat × Nat)} (h : PL H as ps) : as.length = ps.length := by
  induction h with
  | nil => rfl
  | cons _ _ ih => simp [ih]
theorem PL.get {H : Hp} {as : List Addr} {ps : List (Nat × Nat)} (h : PL H as ps) : ∀ {i : Nat} {p : Nat × Nat}, ps[i]? = some p → ∃ a, as[i]? = some a ∧ PAt H a p := by
  induction h with
  | nil => intro i p e; simp at e
  | cons h1 _ ih =>
    intro i p e
    cases i with
    | zero =>
      have e := Option.some.inj e
      subst e
      exact ⟨_, rfl, h1⟩
    | succ i => exact ih (i := i) (by simpa using e)
theorem PL.got {H : Hp} {as : List Addr} {ps : List (Nat × Nat)} (h : PL H as ps) : ∀ {i : Nat} {a : Addr}, as[i]? = some a → ∃ p, ps[i]? = some p ∧ PAt H a p := by
  induction h with
  | nil => intro i p e; simp at e
  | cons h1 _ ih =>
    intro i p e
    cases i with
    | zero =>
      have e := Option.some.inj e
      subst e
      exact ⟨_, rfl, h1⟩
    | succ i => exact ih (i := i) (by simpa using e)
theorem PL.app {H : Hp} {as bs : List Addr} {ps qs : List (Nat × Nat)} (h : PL H as ps) (k : PL H bs qs) : PL H (as ++ bs) (ps ++ qs) := by
  induction h with
  | nil => exact k
  | cons h1 _ ih => exact .cons h1 ih
theorem PL.mono {H H' : Hp} {as : List Addr} {ps : List (Nat × Nat)} (h : PL H as ps) (k : ∀ b xs, H b = some (.tup xs) → H' b = some (.tup xs)) : PL H' as ps := by
  induction h with
  | nil => exact .nil
  | cons h1 _ ih => exact .cons (k _ _ h1) ih
theorem PL.keep {H : Hp} {as : List Addr} {ps : List (Nat × Nat)} (h : PL H as ps) (f : Nat → Bool) : ∀ k, PL H (keepIx f k as) (keepIx f k ps) := by
  induction h with
  | nil => intro k; exact .nil
  | cons h1 _ ih =>
    intro k
    unfold keepIx
    split
    · exact .cons h1 (ih _)
    · exact ih _
theorem tupK {p c : Addr} {H H' : Hp} {n : Nat} (M : MS H p c n) (e : Ext p H H') : ∀ b xs, H b = some (.tup xs) → H' b = some (.tup xs) := fun b xs h => by
  obtain ⟨cells, a, l, x, h1, _⟩ := M.ex
  exact e b _ (ne_of h h1 (by intro z; cases z)) h
theorem sameT {H H' : Hp} (e : Same H H') : ∀ b xs, H b = some (.tup xs) → H' b = some (.tup xs) := fun b xs h => e b _ h
theorem Same.new {H : Hp} {q : Addr} {o : HO} (h : H q = none) : Same H (upd H q o) := fun b u e => by
  rw [upd_ne (ne_of_none e h)]
  exact e
abbrev refs (as : List Addr) : List V := as.map V.ref
/-- a display of two pairs of written numbers -/
theorem rd_two {a b c d : Int} {σ : L2.St} {H : Hp} {Q : VK} (h : ∀ (H' : Hp) (l t1 t2 : Addr), Same H H' → H' l = some (.lst [.ref t1, .ref t2]) → H' t1 = some (.tup [.int a, .int b]) → H' t2 = some (.tup [.int c, .int d]) → Q (.ref l) H') :
    tLst (tCons (tTup (tCons (tC (.int a)) (tCons (tC (.int b)) tNil))) (tCons (tTup (tCons (tC (.int c)) (tCons (tC (.int d)) tNil))) tNil)) σ H Q := by
  refine ⟨by show 2 ≤ sizeLine; decide, fun t1 h1 => ⟨by show 2 ≤ sizeLine; decide, fun t2 h2 => ⟨by show 2 ≤ sizeLine; decide, fun l hl => ?_⟩⟩⟩
  have s1 := Same.new (o := .tup [.int a, .int b]) h1
  have s2 := Same.new (o := .tup [.int c, .int d]) h2
  have s3 := Same.new (o := .lst [.ref t1, .ref t2]) hl
  exact h _ l t1 t2 (s1.trans (s2.trans s3)) upd_same (s3 _ _ (s2 _ _ upd_same)) (s3 _ _ upd_same)
end One
end P_D5

section P_D6
set_option linter.all false
set_option maxRecDepth 100000
set_option maxHeartbeats 4000000
namespace One
open PySem PySem.Spec PyProof.Rows L2
abbrev sGrown : Stmt := top 38
abbrev nGrown : List Str := ["m", "many", "found", "crossing", "one", "other", "first", "begin", "end", "fresh", "start", "stop", "k", "line"]
theorem scGrown : FnScope nGrown ["m", "many"] (defScope sGrown) := ⟨rfl, rfl, rfl, by decide +kernel, rfl, by decide +kernel, by decide +kernel⟩
def spGrown : Sp := fun vs H Q _ => ∃ (p c : Addr) (n many : Nat), vs = [.ref p, .int (many : Nat)] ∧ MS H p c n ∧ n ≤ 900000 ∧ 0 < many ∧ many ≤ 40 ∧
  ∀ (H' : Hp) (L : Addr) (as : List Addr) (ps : List (Nat × Nat)), MS H' p c (n + 2 * many) → Ext p H H' → H' L = some (.lst (refs as)) → PL H' as ps → Grown many ps → Q (.ref L) H'
theorem two_le : 2 ≤ sizeLine := by decide
/-- two tuples and a list of both, made one behind another -/
theorem made_two {H : Hp} {t1 t2 l : Addr} {x y : List V} {zs : List V} (h1 : H t1 = none) (h2 : upd H t1 (.tup x) t2 = none) (h3 : upd (upd H t1 (.tup x)) t2 (.tup y) l = none) :
    ∃ H', H' = upd (upd (upd H t1 (.tup x)) t2 (.tup y)) l (.lst zs) ∧ Same H H' ∧ H' l = some (.lst zs) ∧ H' t1 = some (.tup x) ∧ H' t2 = some (.tup y) := by
  have s1 := Same.new (o := .tup x) h1
  have s2 := Same.new (o := .tup y) h2
  have s3 := Same.new (o := .lst zs) h3
  exact ⟨_, rfl, s1.trans (s2.trans s3), upd_same, s3 _ _ (s2 _ _ upd_same), s3 _ _ upd_same⟩
theorem PAt.of {H : Hp} {t : Addr} {x y : Int} {a b : Nat} (h : H t = some (.tup [.int x, .int y])) (hx : x = (a : Nat)) (hy : y = (b : Nat)) : PAt H t (a, b) := by
  subst hx hy
  exact h
theorem refs_app (a b : List Addr) : refs (a ++ b) = refs a ++ refs b := List.map_append
theorem in_two (j j1 j2 : Nat) : (!inV (V.int (j : Nat)) [V.int (j1 : Nat), V.int (j2 : Nat)]) = notIJ j1 j2 j := by
  unfold inV notIJ
  simp only [List.any_cons, List.any_nil, Bool.or_false]
  have e : ∀ k : Nat, eqV (V.int (k : Nat)) (V.int (j : Nat)) = decide (j = k) := by
    intro k
    show ((k : Int) == (j : Int)) = decide (j = k)
    by_cases q : j = k
    · subst q
      simp
    · have q' : ¬ (k : Int) = (j : Int) := by omega
      simp [q, q']
  rw [e, e, Bool.not_or]
theorem MS.neL {H : Hp} {p c L : Addr} {n : Nat} {xs : List V} (M : MS H p c n) (h : H L = some (.lst xs)) : L ≠ p := fun z => by
  obtain ⟨cells, a, l, x, q, _⟩ := M.ex
  rw [z, q] at h
  cases h
theorem ref_at {as : List Addr} {i : Nat} {a : Addr} (h : as[i]? = some a) : atI (refs as) (i : Nat) = some (.ref a) := at_of (j := i) rfl (by rw [List.getElem?_map, h]; rfl)
section
variable {P : Program} {w : World} {K : PySem.W.Frag} {mg : Str → Option Value} {base : Heap}
theorem ok_grown {f fD : Addr} {fd fdD : FuncData} (F : Fun K "_law_grown" "_law_grown" sGrown f fd) (T : TB mg) (D : Cal K mg "_law_draw" fD fdD ["m", "many"])
    (GD : FnOk P w K mg base CX0 1 fD fdD ["m", "many"] spDraw) : FnOk P w K mg base CX0 2 f fd ["m", "many"] spGrown := by
  refine F.ok scGrown (fun vs H Q E h => ?_) (fun cdv A outer s H vs Q E hr h => ?_)
  · obtain ⟨p, c, n, many, rfl, _⟩ := h
    rfl
  · obtain ⟨p, c, n, many, rfl, M, hn, h0, h40, k⟩ := h
    have hu := hu_of hr
    have nd := scGrown.nd
    refine ⟨_, pss_cons (ps_set (i := 2) nd rfl (Or.inl rfl) (pe_mid (pe_ix ix_list (pe_lst (pa_cons (pe_lst (pa_cons (pe_tup (pa_cons pe_int (pa_cons pe_int pa_nil))) (pa_cons (pe_tup (pa_cons pe_int (pa_cons pe_int pa_nil))) pa_nil)))
        (pa_cons (pe_lst (pa_cons (pe_tup (pa_cons pe_int (pa_cons pe_int pa_nil))) (pa_cons (pe_tup (pa_cons pe_int (pa_cons pe_int pa_nil))) pa_nil)))
        (pa_cons (pe_lst (pa_cons (pe_tup (pa_cons pe_int (pa_cons pe_int pa_nil))) (pa_cons (pe_tup (pa_cons pe_int (pa_cons pe_int pa_nil))) pa_nil))) pa_nil))))
        (pe_call GD hr rfl D.g D.kp D.b .nil pass0 (pa_cons (pv 0) (pa_cons pe_int pa_nil))) (fun _ _ => rfl))))
      (pss_cons (ps_for PassesOwn.never rfl (pi_range2 (by rfl) T.range (pa_cons pe_int (pa_cons (pv 1) pa_nil))) (pg_name (i := 3) nd rfl (Or.inl rfl))
        (pss_cons (ps_asg (pe_tup (pa_cons (pe_call GD hr rfl D.g D.kp D.b .nil pass0 (pa_cons (pv 0) (pa_cons (pe_callB call_len_seq (by rfl) T.len PySem.boot_len (pa_cons (pv 2) pa_nil)) pa_nil)))
            (pa_cons (pe_call GD hr rfl D.g D.kp D.b .nil pass0 (pa_cons (pv 0) (pa_cons (pe_callB call_len_seq (by rfl) T.len PySem.boot_len (pa_cons (pv 2) pa_nil)) pa_nil)))
            (pa_cons (pe_op op_mul pe_int (pv 3)) pa_nil)))) (pg_tup rfl (pgs_cons (pg_name (i := 4) nd rfl (Or.inr rfl)) (pgs_cons (pg_name (i := 5) nd rfl (Or.inr rfl)) (pgs_cons (pg_name (i := 6) nd rfl (Or.inl rfl)) pgs_nil)))))
        (pss_cons (ps_asg (pe_ix ix_list (pv 2) (pv 4) (fun _ _ => rfl)) (pg_tup rfl (pgs_cons (pg_name (i := 7) nd rfl (Or.inl rfl)) (pgs_cons (pg_name (i := 8) nd rfl (Or.inl rfl)) pgs_nil))))
        (pss_cons (ps_set (i := 9) nd rfl (Or.inl rfl) (pe_lst (pa_cons (pe_tup (pa_cons (pv 7) (pa_cons (pv 6) pa_nil))) (pa_cons (pe_tup (pa_cons (pe_op op_add (pv 6) pe_int) (pa_cons (pe_op op_add (pv 6) pe_int) pa_nil))) (pa_cons (pe_tup (pa_cons (pv 8) (pa_cons (pe_op op_add (pv 6) pe_int) pa_nil))) pa_nil)))))
        (C8.pss_cut (ps_if (pt_cmpR op_ne (pv 4) (pv 5) (nomark _))
            (pss_cons (ps_asg (pe_ix ix_list (pv 2) (pv 5) (fun _ _ => rfl)) (pg_tup rfl (pgs_cons (pg_name (i := 10) nd rfl (Or.inl rfl)) (pgs_cons (pg_name (i := 11) nd rfl (Or.inl rfl)) pgs_nil))))
              (pss_one (ps_set (i := 9) nd rfl (Or.inl rfl) (pe_lst (pa_cons (pe_tup (pa_cons (pv 7) (pa_cons (pv 6) pa_nil))) (pa_cons (pe_tup (pa_cons (pv 8) (pa_cons (pe_op op_add (pv 6) pe_int) pa_nil))) (pa_cons (pe_tup (pa_cons (pv 10) (pa_cons (pe_op op_add (pv 6) pe_int) pa_nil))) (pa_cons (pe_tup (pa_cons (pv 11) (pa_cons (pe_op op_add (pv 6) pe_int) pa_nil))) pa_nil))))))))
            pss_nil)
        (pss_one (ps_set (i := 2) nd rfl (Or.inl rfl) (pe_op op_cat (pe_lc (own := [("k", 12), ("line", 13)]) (g := gTup K 2 (gCons (gName 12) (gCons (gName 13) gNil))) (tt := tTest (tOp (rIn K true) (tVar 12) (tTup (tCons (tVar 4) (tCons (tVar 5) tNil))))) rfl nd (pi_enum (by rfl) T.enumerate (pa_cons (pv 2) pa_nil)) (blkOk_by (N := nGrown) (sc := defScope sGrown) (by decide +kernel))
            (fun _ _ _ _ _ => pg_tup rfl (pgs_cons (pg_name (i := 12) nd rfl (Or.inl rfl)) (pgs_cons (pg_name (i := 13) nd rfl (Or.inl rfl)) pgs_nil)))
            (fun _ _ _ _ _ => pts_one (pt_cmpR op_notIn_seq (pv 12) (pe_tup (pa_cons (pv 4) (pa_cons (pv 5) pa_nil))) (by rfl))) (fun _ _ _ _ _ => pv 13)) (pv 9)))))))))
      (pss_one (ps_ret (pv 2)))), ?_⟩
    refine ⟨fun v H1 => ∃ (L : Addr) (as : List Addr) (ps : List (Nat × Nat)), v = .ref L ∧ MS H1 p c (n + 1) ∧ Ext p H H1 ∧ H1 L = some (.lst (refs as)) ∧ PL H1 as ps ∧ Grown 1 ps, ?_, ?_⟩
    · refine ⟨two_le, fun t1 ht1 => ⟨two_le, fun u1 hu1 => ⟨two_le, fun l1 hl1 => ?_⟩⟩⟩
      obtain ⟨H1, eH1, s1, a1, b1, c1⟩ := made_two ht1 hu1 hl1
      rw [← eH1]
      refine ⟨two_le, fun t2 ht2 => ⟨two_le, fun u2 hu2 => ⟨two_le, fun l2 hl2 => ?_⟩⟩⟩
      obtain ⟨H2, eH2, s2, a2, b2, c2⟩ := made_two ht2 hu2 hl2
      rw [← eH2]
      refine ⟨two_le, fun t3 ht3 => ⟨two_le, fun u3 hu3 => ⟨two_le, fun l3 hl3 => ?_⟩⟩⟩
      obtain ⟨H3, eH3, s3, a3, b3, c3⟩ := made_two ht3 hu3 hl3
      rw [← eH3]
      refine ⟨by show 3 ≤ sizeLine; decide, fun l hl => ?_⟩
      have s4 := Same.new (o := .lst [.ref l1, .ref l2, .ref l3]) hl
      have M4 := M.keep (s1.trans (s2.trans (s3.trans s4)))
      refine ⟨_, rfl, p, c, n, 3, rfl, M4, by omega, by decide, by decide, fun H' r M' B r0 r3 => ?_⟩
      have npl : l ≠ p := fun z => by
        obtain ⟨o, ho⟩ := M.there
        have := (s1.trans (s2.trans s3)) _ _ ho
        rw [← z, hl] at this
        cases this
      have e' : Ext p H H' := (Ext.same (s1.trans (s2.trans (s3.trans s4)))).trans B.ext
      have hL' : H' l = some (.lst [.ref l1, .ref l2, .ref l3]) := (B l npl).trans upd_same
      have keepT : ∀ b xs, H3 b = some (.tup xs) → H' b = some (.tup xs) := fun b xs h => tupK M4 B.ext b xs (s4 _ _ h)
      have keepL : ∀ b xs, H3 b = some (.lst xs) → H' b = some (.lst xs) := fun b xs h => (B b fun z => by
        obtain ⟨cells, a, l0, x, q, _⟩ := (M.keep (s1.trans (s2.trans s3))).ex
        rw [z, q] at h
        cases h).trans (s4 _ _ h)
      have r012 : r = 0 ∨ r = 1 ∨ r = 2 := by omega
      rcases r012 with rfl | rfl | rfl
      · exact ⟨l, _, _, _, rfl, rfl, SqL.of hL', rfl, l1, [t1, u1], [(0, 1), (2, 3)], rfl, M', e', keepL _ _ (s3 _ _ (s2 _ _ a1)), .cons (keepT _ _ (s3 _ _ (s2 _ _ b1))) (.cons (keepT _ _ (s3 _ _ (s2 _ _ c1))) .nil), grown_one (by decide)⟩
      · exact ⟨l, _, _, _, rfl, rfl, SqL.of hL', rfl, l2, [t2, u2], [(0, 2), (1, 3)], rfl, M', e', keepL _ _ (s3 _ _ a2), .cons (keepT _ _ (s3 _ _ b2)) (.cons (keepT _ _ (s3 _ _ c2)) .nil), grown_one (by decide)⟩
      · exact ⟨l, _, _, _, rfl, rfl, SqL.of hL', rfl, l3, [t3, u3], [(0, 3), (1, 2)], rfl, M', e', keepL _ _ a3, .cons (keepT _ _ b3) (.cons (keepT _ _ c3) .nil), grown_one (by decide)⟩
    · rintro v H1 ⟨L, as, ps, rfl, M1, e1, hL, hP, G⟩
      refine ⟨_, rfl, 1, many, rfl, ⟨by decide, by decide, by omega, by omega⟩, ?_⟩
      refine for_range (lo := 1) (n := ((many : Int) - 1).toNat) (fun i σ H' => ∃ (L : Addr) (as : List Addr) (ps : List (Nat × Nat)) (v3 v4 v5 v6 v7 v8 v9 v10 v11 : Option V), σ = [some (.ref p), some (.int (many : Nat)), some (.ref L), v3, v4, v5, v6, v7, v8, v9, v10, v11, none, none] ∧
        MS H' p c (n + 1 + 2 * i) ∧ Ext p H H' ∧ H' L = some (.lst (refs as)) ∧ PL H' as ps ∧ Grown (1 + i) ps)
        ⟨L, as, ps, none, none, none, none, none, none, none, none, none, rfl, M1, e1, hL, hP, G⟩ ?_ ?_
      · rintro i σ H' hi ⟨L, as, ps, v3, v4, v5, v6, v7, v8, v9, v10, v11, rfl, M', e', hL', hP', G'⟩
        have hlen : as.length = 2 * (1 + i) := by rw [hP'.len, G'.lines.len]
        have hrl : ((refs as).length : Nat) = 2 * (1 + i) := by rw [List.length_map, hlen]
        have nLp := M'.neL hL'
        refine ⟨_, rfl, _, rfl, L, _, rfl, .inl (SqL.of hL'), p, c, _, _, rfl, M', by omega, by omega, by omega, fun H1 r1 M1 B1 r10 r11 => ?_⟩
        have hL1 : H1 L = some (.lst (refs as)) := (B1 L nLp).trans hL'
        refine ⟨_, rfl, _, rfl, L, _, rfl, .inl (SqL.of hL1), p, c, _, _, rfl, M1, by omega, by omega, by omega, fun H2 r2 M2 B2 r20 r21 => ?_⟩
        have hL2 : H2 L = some (.lst (refs as)) := (B2 L nLp).trans hL1
        have hP2 : PL H2 as ps := hP'.mono fun b xs h => tupK M1 B2.ext b xs (tupK M' B1.ext b xs h)
        have e2 : Ext p H H2 := e'.trans (B1.ext.trans B2.ext)
        obtain ⟨j1, rfl⟩ : ∃ j : Nat, r1 = (j : Nat) := ⟨r1.toNat, by omega⟩
        obtain ⟨j2, rfl⟩ : ∃ j : Nat, r2 = (j : Nat) := ⟨r2.toNat, by omega⟩
        refine ⟨_, rfl, _, _, rfl, rfl, .inl ⟨by decide, by decide⟩, (by show 3 ≤ sizeLine; decide), fun t ht => ?_⟩
        have s3 := Same.new (o := .tup [V.int (j1 : Nat), V.int (j2 : Nat), V.int (4 * (1 + (i : Nat)))]) ht
        have M3 := M2.keep s3
        have hL3 := s3 _ _ hL2
        have hP3 := hP2.mono (sameT s3)
        have h1 : j1 < ps.length := by rw [← hP'.len]; omega
        have h2 : j2 < ps.length := by rw [← hP'.len]; omega
        obtain ⟨A1, hA1⟩ : ∃ a, ps[j1]? = some a := ⟨_, List.getElem?_eq_getElem h1⟩
        obtain ⟨B1', hB1⟩ : ∃ a, ps[j2]? = some a := ⟨_, List.getElem?_eq_getElem h2⟩
        obtain ⟨a1, ha1, pa1⟩ := hP3.get hA1
        refine ⟨t, _, rfl, SqT.of upd_same, rfl, _, _, rfl, _, _, rfl, _, _, rfl, rfl, ?_⟩
        refine ⟨_, rfl, _, rfl, L, _, _, _, rfl, rfl, SqL.of hL3, ref_at ha1, a1, _, rfl, SqT.of pa1, rfl, _, _, rfl, _, _, rfl, rfl, ?_⟩
        refine ⟨_, rfl, _, rfl, two_le, fun t1 ht1 => ⟨_, rfl, _, _, rfl, rfl, _, rfl, _, _, rfl, rfl, two_le, fun t2 ht2 => ⟨_, rfl, _, rfl, _, _, rfl, rfl, two_le, fun t3 ht3 => ⟨(by show 3 ≤ sizeLine; decide), fun l9 hl9 => ?_⟩⟩⟩⟩
        have u1 := Same.new (o := .tup [V.int (A1.1 : Nat), V.int (4 * (1 + (i : Nat)))]) ht1
        have u2 := Same.new (o := .tup [V.int (4 * (1 + (i : Nat)) + 1), V.int (4 * (1 + (i : Nat)) + 2)]) ht2
        have u3 := Same.new (o := .tup [V.int (A1.2 : Nat), V.int (4 * (1 + (i : Nat)) + 3)]) ht3
        have u9 := Same.new (o := .lst [V.ref t1, V.ref t2, V.ref t3]) hl9
        have uA := u1.trans (u2.trans (u3.trans u9))
        refine ⟨fun σ H5 => ∃ (l : Addr) (fa : List Addr) (v10 v11 : Option V), σ = [some (.ref p), some (.int (many : Nat)), some (.ref L), some (.int (1 + (i : Nat))), some (.int (j1 : Nat)), some (.int (j2 : Nat)), some (.int (4 * (1 + (i : Nat)))), some (.int (A1.1 : Nat)), some (.int (A1.2 : Nat)), some (.ref l), v10, v11, none, none] ∧
          MS H5 p c (n + 1 + 2 * i + 1 + 1) ∧ Ext p H H5 ∧ H5 L = some (.lst (refs as)) ∧ PL H5 as ps ∧ H5 l = some (.lst (refs fa)) ∧ PL H5 fa (fresh (1 + i) j1 j2 A1 B1'), ?_, ?_⟩
        · refine ⟨_, rfl, _, rfl, rfl, _, rfl, ?_⟩
          have M5 := M3.keep uA
          have e5 : Ext p H _ := e2.trans (Ext.same (s3.trans uA))
          have hL5 := uA _ _ hL3
          have hP5 := hP3.mono (sameT uA)
          refine ite2 (fun hne => ?_) (fun heq => ?_)
          · have hj : j1 ≠ j2 := fun z => by
              subst z
              simp at hne
            obtain ⟨b1, hb1, pb1⟩ := hP5.get hB1
            refine ⟨_, rfl, _, rfl, L, _, _, _, rfl, rfl, SqL.of hL5, ref_at hb1, b1, _, rfl, SqT.of pb1, rfl, _, _, rfl, _, _, rfl, rfl, ?_⟩
            refine ⟨_, rfl, _, rfl, two_le, fun t4 ht4 => ⟨_, rfl, _, rfl, _, _, rfl, rfl, two_le, fun t5 ht5 => ⟨_, rfl, _, rfl, _, _, rfl, rfl, two_le, fun t6 ht6 => ⟨_, rfl, _, rfl, _, _, rfl, rfl, two_le, fun t7 ht7 => ⟨(by show 4 ≤ sizeLine; decide), fun l8 hl8 => ?_⟩⟩⟩⟩⟩
            have w4 := Same.new (o := .tup [V.int (A1.1 : Nat), V.int (4 * (1 + (i : Nat)))]) ht4
            have w5 := Same.new (o := .tup [V.int (A1.2 : Nat), V.int (4 * (1 + (i : Nat)) + 2)]) ht5
            have w6 := Same.new (o := .tup [V.int (B1'.1 : Nat), V.int (4 * (1 + (i : Nat)) + 1)]) ht6
            have w7 := Same.new (o := .tup [V.int (B1'.2 : Nat), V.int (4 * (1 + (i : Nat)) + 3)]) ht7
            have w8 := Same.new (o := .lst [V.ref t4, V.ref t5, V.ref t6, V.ref t7]) hl8
            have wA := w4.trans (w5.trans (w6.trans (w7.trans w8)))
            refine ⟨l8, [t4, t5, t6, t7], _, _, rfl, M5.keep wA, e5.trans (Ext.same wA), wA _ _ hL5, hP5.mono (sameT wA), upd_same, ?_⟩
            unfold fresh
            rw [if_neg hj]
            exact .cons (PAt.of (w8 _ _ (w7 _ _ (w6 _ _ (w5 _ _ upd_same)))) rfl (by omega)) (.cons (PAt.of (w8 _ _ (w7 _ _ (w6 _ _ upd_same))) rfl (by omega)) (.cons (PAt.of (w8 _ _ (w7 _ _ upd_same)) rfl (by omega)) (.cons (PAt.of (w8 _ _ upd_same) rfl (by omega)) .nil)))
          · have hj : j1 = j2 := by
              have q : (j1 : Int) = (j2 : Int) := by simpa using heq
              omega
            refine ⟨l9, [t1, t2, t3], _, _, rfl, M5, e5, hL5, hP5, upd_same, ?_⟩
            unfold fresh
            rw [if_pos hj]
            exact .cons (PAt.of (u9 _ _ (u3 _ _ (u2 _ _ upd_same))) rfl (by omega)) (.cons (PAt.of (u9 _ _ (u3 _ _ upd_same)) (by omega) (by omega)) (.cons (PAt.of (u9 _ _ upd_same) rfl (by omega)) .nil))
        · rintro σ H5 ⟨l, fa, v10, v11, rfl, M5, e5, hL5, hP5, hl5, hF5⟩
          refine ⟨_, rfl, L, _, rfl, SqL.of hL5, fun D hD => ?_⟩
          have sD := Same.new (o := .lst []) hD
          refine lc_it (walk_enum (K := K) (a := L) (xs := refs as)) (fun j H6 => H6 D = some (.lst (refs (keepIx (notIJ j1 j2) 0 (as.take j)))) ∧ Same H5 H6) ⟨upd_same, sD⟩ (fun j H6 _ h => SqL.of (h.2 _ _ hL5)) ?_ ?_
          · rintro j x H6 H7 hj ⟨hD6, s6⟩ ⟨T, x', y', rfl, hT, rfl, ex, ey⟩
            cases ex
            have hj' : j < as.length := by rw [List.length_map] at hj; exact hj
            have ey : (refs as)[j]? = some y' := ey
            rw [List.getElem?_map, List.getElem?_eq_getElem hj'] at ey
            cases ey
            have s7 := Same.new (o := .tup [V.int (j : Nat), V.ref as[j]]) hT
            refine ⟨T, _, rfl, SqT.of upd_same, rfl, _, _, rfl, _, _, rfl, rfl, rfl, ?_⟩
            refine ⟨_, rfl, _, rfl, _, rfl, two_le, fun q hq => ?_⟩
            have s8 := Same.new (o := .tup [V.int (j1 : Nat), V.int (j2 : Nat)]) hq
            refine ⟨q, _, rfl, .inr (SqT.of upd_same), rfl, rfl, _, rfl, ?_⟩
            have hin := in_two j j1 j2
            have hsn : keepIx (notIJ j1 j2) 0 (as.take (j + 1)) = keepIx (notIJ j1 j2) 0 (as.take j) ++ (if notIJ j1 j2 j then [as[j]] else []) := by
              rw [List.take_succ, List.getElem?_eq_getElem hj', Option.toList_some, keepIx_snoc, List.length_take, Nat.zero_add, Nat.min_eq_left (Nat.le_of_lt hj')]
            have hD8 := s8 _ _ (s7 _ _ hD6)
            have s58 : Same H5 _ := s6.trans (s7.trans s8)
            refine ite2 (fun hb => ?_) (fun hb => ?_)
            · have hb : (!inV (V.int (j : Nat)) [V.int (j1 : Nat), V.int (j2 : Nat)]) = true := hb
              rw [hin] at hb
              refine ⟨_, rfl, _, hD8, small1000 ?_, ?_, ?_⟩
              · rw [List.length_map]
                exact Nat.le_trans (keepIx_length_le _ _ _) (by rw [List.length_take]; omega)
              · rw [upd_same, hsn, if_pos hb, refs_app]
                rfl
              · intro b o h
                have nb : b ≠ D := ne_of_none h hD
                rw [upd_ne nb]
                exact s58 _ _ h
            · have hb : ¬ (!inV (V.int (j : Nat)) [V.int (j1 : Nat), V.int (j2 : Nat)]) = true := hb
              rw [hin] at hb
              refine ⟨?_, s58⟩
              rw [hD8, hsn, if_neg hb, List.append_nil]
          · rintro H6 ⟨hD6, s6⟩
            rw [List.length_map, List.take_length] at hD6
            refine ⟨_, rfl, D, l, _, _, rfl, rfl, hD6, s6 _ _ hl5, Nat.le_of_lt (small1000 ?_), fun L2 hL2 => ?_⟩
            · have q1 := keepIx_length_le (notIJ j1 j2) 0 as
              have q2 := hF5.len
              rw [List.length_map, List.length_map, q2]
              unfold fresh
              split <;> simp <;> omega
            have s9 := Same.new (o := .lst (refs (keepIx (notIJ j1 j2) 0 as) ++ refs fa)) hL2
            have sA := s6.trans s9
            refine ⟨L2, keepIx (notIJ j1 j2) 0 as ++ fa, _, _, _, _, _, _, _, _, _, _, rfl, (M5.keep sA).lt (by omega) (by omega), e5.trans (Ext.same sA), ?_, ((hP5.mono (sameT sA)).keep _ 0).app (hF5.mono (sameT sA)), ?_⟩
            · rw [upd_same, refs_app]
            · rw [show 1 + (i + 1) = (1 + i) + 1 by omega]
              exact G'.put hA1 hB1
      · rintro σ H' ⟨L, as, ps, v3, v4, v5, v6, v7, v8, v9, v10, v11, rfl, M', e', hL', hP', G'⟩
        refine ⟨_, rfl, ?_⟩
        have en : 1 + ((many : Int) - 1).toNat = many := by omega
        rw [en] at G'
        exact k _ L as ps (M'.lt (by omega) (by omega)) e' hL' hP' G'
end
end One
end P_D6

section P_D7
set_option linter.all false
set_option maxRecDepth 100000
set_option maxHeartbeats 4000000
namespace One
open PySem PySem.Spec PyProof.Rows L2
abbrev sCalled : Stmt := top 39
abbrev nCalled : List Str := ["m", "many", "left", "found", "k", "crossing", "places", "j"]
theorem scCalled : FnScope nCalled ["m", "many"] (defScope sCalled) := ⟨rfl, rfl, rfl, by decide +kernel, rfl, by decide +kernel, by decide +kernel⟩
abbrev nats (ns : List Nat) : List V := ns.map fun x => V.int (x : Nat)
theorem nats_app (a b : List Nat) : nats (a ++ b) = nats a ++ nats b := List.map_append
theorem nats_at {ns : List Nat} {i x : Nat} (h : ns[i]? = some x) : (nats ns)[i]? = some (V.int (x : Nat)) := by rw [List.getElem?_map, h]; rfl
theorem nats_erase : ∀ (ns : List Nat) (k : Nat), (nats ns).eraseIdx k = nats (ns.eraseIdx k)
  | [], _ => rfl
  | x :: r, 0 => rfl
  | x :: r, k + 1 => by
    show V.int (x : Nat) :: (nats r).eraseIdx k = V.int (x : Nat) :: nats (r.eraseIdx k)
    rw [nats_erase r k]
theorem nats_range (n : Nat) : rgV 0 (n : Nat) = nats (List.range n) := by
  unfold rgV
  have e : (((n : Nat) : Int) - 0).toNat = n := by omega
  rw [e]
  refine List.map_congr_left fun x _ => ?_
  rw [Int.zero_add]
theorem seq_ix {j n : Nat} (h : j < n) : seqIndex? ((j : Nat) : Int) n = some j := by
  unfold seqIndex?
  simp
  omega
theorem erase_perm : ∀ {l : List Nat} {k x : Nat}, l[k]? = some x → l.Perm (x :: l.eraseIdx k)
  | [], k, x, h => by simp at h
  | y :: r, 0, x, h => by
    have e : y = x := Option.some.inj h
    subst e
    exact .refl _
  | y :: r, k + 1, x, h => (List.Perm.cons y (erase_perm (l := r) (k := k) (by simpa using h))).trans (.swap _ _ _)
theorem MS.cAt {H : Hp} {p c : Addr} {n : Nat} (M : MS H p c n) : ∃ o, H c = some o := by
  obtain ⟨cells, a, l, x, _, h2, _⟩ := M.ex
  exact ⟨_, h2⟩
theorem MS.wr {H : Hp} {p c q : Addr} {n : Nat} {o : HO} (M : MS H p c n) (h1 : q ≠ p) (h2 : q ≠ c) : MS (upd H q o) p c n := by
  obtain ⟨cells, a, l, x, q1, q2, r⟩ := M.ex
  exact ⟨⟨cells, a, l, x, by rw [upd_ne (Ne.symm h1)]; exact q1, by rw [upd_ne (Ne.symm h2)]; exact q2, r⟩, M.nn⟩
theorem Ext.wr {p q : Addr} {H H' : Hp} {o : HO} (e : Ext p H H') (h : H q = none) : Ext p H (upd H' q o) := fun b u hb hu => by
  rw [upd_ne (ne_of_none hu h)]
  exact e b u hb hu
theorem Ext.free {p q : Addr} {H H' : Hp} (e : Ext p H H') (hq : q ≠ p) (h : H' q = none) : H q = none := by
  cases z : H q with
  | none => rfl
  | some o =>
    rw [e q o hq z] at h
    cases h
theorem yes {σ : L2.St} {H : Hp} {A B : Hp → Prop} (h : A H) : tYes σ H (fun b H3 => if b = true then A H3 else B H3) := by
  show if true = true then A H else B H
  rw [if_pos rfl]
  exact h
def rLen (K : PySem.W.Frag) : List V → Hp → VK → Prop := fun xs H Q => ∃ p ys, xs = [.ref p] ∧ (SqL K H p ys ∨ SqT K H p ys) ∧ Q (.int ys.length) H
def spCalled : Sp := fun vs H Q _ => ∃ (p c : Addr) (n many : Nat), vs = [.ref p, .int (many : Nat)] ∧ MS H p c n ∧ n ≤ 900000 ∧ many ≤ 40 ∧
  ∀ (H' : Hp) (L : Addr) (ns : List Nat), MS H' p c (n + 5 * many) → Ext p H H' → H' L = some (.lst (nats ns)) → Called many ns → Q (.ref L) H'
section
variable {P : Program} {w : World} {K : PySem.W.Frag} {mg : Str → Option Value} {base : Heap}
theorem ok_called {f fD : Addr} {fd fdD : FuncData} (F : Fun K "_law_called" "_law_called" sCalled f fd) (T : TB mg) (D : Cal K mg "_law_draw" fD fdD ["m", "many"])
    (GD : FnOk P w K mg base CX0 1 fD fdD ["m", "many"] spDraw) : FnOk P w K mg base CX0 2 f fd ["m", "many"] spCalled := by
  refine F.ok scCalled (fun vs H Q E h => ?_) (fun cdv A outer s H vs Q E hr h => ?_)
  · obtain ⟨p, c, n, many, rfl, _⟩ := h
    rfl
  · obtain ⟨p, c, n, many, rfl, M, hn, h40, k⟩ := h
    have nd := scCalled.nd
    refine ⟨_, pss_cons (ps_par (i := 2) (j := 3) (by rfl) nd rfl rfl (by decide) rfl rfl (pa_cons (pe_listRg (by rfl) (by rfl) T.list (prg_1 (by rfl) T.range (pv 1))) (pa_cons (pe_lst pa_nil) pa_nil)) (by rfl))
      (pss_cons (ps_for PassesOwn.never rfl (pi_range1 (by rfl) T.range (pa_cons (pv 1) pa_nil)) (pg_name (i := 4) nd rfl (Or.inl rfl))
        (pss_cons (ps_asg (pe_tup (pa_cons (pe_bm PySem.F.plainAttrs_list PySem.F.slot_list_pop PySem.F.type_list_pop mt_popAt (pv 2) (pa_cons (pe_call GD hr rfl D.g D.kp D.b .nil pass0 (pa_cons (pv 0) (pa_cons (pe_callB call_len_seq (by rfl) T.len PySem.boot_len (pa_cons (pv 2) pa_nil)) pa_nil))) pa_nil))
            (pa_cons (pe_lst (pa_cons pe_int (pa_cons pe_int (pa_cons pe_int (pa_cons pe_int pa_nil))))) pa_nil))) (pg_tup rfl (pgs_cons (pg_name (i := 5) nd rfl (Or.inr rfl)) (pgs_cons (pg_name (i := 6) nd rfl (Or.inr rfl)) pgs_nil))))
        (pss_one (ps_set (i := 3) nd rfl (Or.inl rfl) (pe_op op_cat (pv 3) (pe_lc (own := [("j", 7)]) (g := gName 7) (tt := tYes) (te := tOp (rI0 fun i j => .int (i + j)) (tOp (rI CMul fun i j => .int (i * j)) (tC (.int 4)) (tVar 5)) (tBM K "list" rPopAt (tVar 6) (tCons (tCall spDraw [] E0 (tCons (tVar 0) (tCons (tCB (rLen K) (tCons (tVar 6) tNil)) tNil))) tNil))) rfl nd (pi_range1 (by rfl) T.range (pa_cons pe_int pa_nil)) (blkOk_by (N := nCalled) (sc := defScope sCalled) (by decide +kernel))
            (fun _ _ _ _ _ => pg_name (i := 7) nd rfl (Or.inl rfl)) (fun _ _ _ _ _ => pts_nil)
            (fun _ _ _ _ _ => pe_op op_add (pe_op op_mul pe_int (pv 5)) (by exact (pe_bm PySem.F.plainAttrs_list PySem.F.slot_list_pop PySem.F.type_list_pop mt_popAt (pv 6) (pa_cons (by exact (pe_call GD hr rfl D.g D.kp D.b .nil pass0 (pa_cons (pv 0) (pa_cons (pe_callB call_len_seq (by rfl) T.len PySem.boot_len (pa_cons (pv 6) pa_nil)) pa_nil)))) pa_nil))))))))))
      (pss_one (ps_ret (pv 3)))), ?_⟩
    refine ⟨_, rfl, many, rfl, RgOk.of_le (Int.le_refl _) (by omega) (by omega) (by omega), fun lf hlf => ⟨Nat.zero_le _, fun fo hfo => ⟨_, _, rfl, ?_⟩⟩⟩
    rw [nats_range] at hfo ⊢
    have s1 := Same.new (o := .lst (nats (List.range many))) hlf
    have s2 := Same.new (o := .lst []) hfo
    refine ⟨_, rfl, many, rfl, by omega, by omega, ?_⟩
    refine for_range (lo := 0) (n := (many : Int).toNat) (fun i σ H' => ∃ (fo : Addr) (left : List Nat) (bl : List (Nat × List Nat)) (v4 v5 v6 : Option V), σ = [some (.ref p), some (.int (many : Nat)), some (.ref lf), some (.ref fo), v4, v5, v6, none] ∧
      MS H' p c (n + 5 * i) ∧ Ext p H H' ∧ H' lf = some (.lst (nats left)) ∧ H' fo = some (.lst (nats (blocks bl))) ∧ (bl.map Prod.fst ++ left).Perm (List.range many) ∧ (∀ b ∈ bl, b.2.Perm [0, 1, 2, 3]) ∧ bl.length = i ∧ fo ≠ lf)
      ⟨fo, List.range many, [], none, none, none, rfl, (M.keep s1).keep s2, Ext.same (s1.trans s2), s2 _ _ upd_same, upd_same, .refl _, fun b hb => absurd hb (by simp), rfl, (ne_of_none upd_same hfo).symm⟩ ?_ ?_
    · rintro i σ H' hi ⟨fo, left, bl, v4, v5, v6, rfl, M', e', hl', hf', hp, hb, hlen, nfl⟩
      have hll : left.length + i = many := by
        have := hp.length_eq
        rw [List.length_append, List.length_map, List.length_range] at this
        omega
      have hi' : i < many := by omega
      have nlp := M'.neL hl'
      have nfp := M'.neL hf'
      have nl : ((nats left).length : Nat) = left.length := List.length_map _
      refine ⟨_, rfl, .inl ⟨rfl, _, SqL.of hl'⟩, _, rfl, _, rfl, lf, _, rfl, .inl (SqL.of hl'), p, c, _, _, rfl, M', by omega, by omega, by omega, fun H1 r1 M1 B1 r10 r11 => ?_⟩
      obtain ⟨j, rfl⟩ : ∃ j : Nat, r1 = (j : Nat) := ⟨r1.toNat, by omega⟩
      have hj : j < left.length := by omega
      obtain ⟨cr, hcr⟩ : ∃ x, left[j]? = some x := ⟨_, List.getElem?_eq_getElem hj⟩
      have hl1 : H1 lf = some (.lst (nats left)) := (B1 lf nlp).trans hl'
      refine ⟨lf, _, _, j, _, rfl, rfl, hl1, by omega, by omega, (by rw [nl]; exact seq_ix hj), nats_at hcr, ?_⟩
      rw [nats_erase]
      have hp0 : ∃ o, H p = some o := M.there
      have nlc : lf ≠ c := by
        obtain ⟨o, ho⟩ := M.cAt
        exact (ne_of_none ho hlf).symm
      have M2 := M1.wr (o := .lst (nats (left.eraseIdx j))) nlp nlc
      have e1 : Ext p H H1 := e'.trans B1.ext
      have e2 : Ext p H (upd H1 lf (.lst (nats (left.eraseIdx j)))) := e1.wr hlf
      have hf2 : (upd H1 lf (.lst (nats (left.eraseIdx j)))) fo = some (.lst (nats (blocks bl))) := by
        rw [upd_ne nfl]
        exact (B1 fo nfp).trans hf'
      refine ⟨by show 4 ≤ sizeLine; decide, fun pl hpl => ⟨two_le, fun t ht => ?_⟩⟩
      have s3 := Same.new (o := .lst [V.int 0, V.int 1, V.int 2, V.int 3]) hpl
      have s4 := Same.new (o := .tup [V.int (cr : Nat), V.ref pl]) ht
      have M4 := (M2.keep s3).keep s4
      refine ⟨t, _, rfl, SqT.of upd_same, rfl, _, _, rfl, _, _, rfl, rfl, ?_⟩
      refine ⟨_, rfl, 4, rfl, by decide, by decide, fun D hD => ?_⟩
      have s5 := Same.new (o := .lst []) hD
      have M5 := M4.keep s5
      have nplp : pl ≠ p := by
        obtain ⟨o, ho⟩ := M2.there
        exact (ne_of_none ho hpl).symm
      have nplc : pl ≠ c := by
        obtain ⟨o, ho⟩ := M2.cAt
        exact (ne_of_none ho hpl).symm
      have hpl0 : H pl = none := e2.free nplp hpl
      have nDp : D ≠ p := by
        obtain ⟨o, ho⟩ := M4.there
        exact (ne_of_none ho hD).symm
      have nDc : D ≠ c := by
        obtain ⟨o, ho⟩ := M4.cAt
        exact (ne_of_none ho hD).symm
      have hDpl : pl ≠ D := ne_of_none (s4 _ _ upd_same) hD
      have hD0 : H D = none := (e2.trans (Ext.same (s3.trans s4))).free nDp hD
      have hlD : lf ≠ D := ne_of_none (s4 _ _ (s3 _ _ upd_same)) hD
      have hfD : fo ≠ D := ne_of_none (s4 _ _ (s3 _ _ hf2)) hD
      have hlpl : lf ≠ pl := ne_of_none upd_same hpl
      have hfpl : fo ≠ pl := ne_of_none hf2 hpl
      refine lc_it (walk_range (lo := 0) (n := (4 : Int).toNat)) (fun jj H6 => ∃ done rest : List Nat, H6 D = some (.lst (nats (done.map (4 * cr + ·)))) ∧ H6 pl = some (.lst (nats rest)) ∧ (done ++ rest).Perm [0, 1, 2, 3] ∧ done.length = jj ∧
          MS H6 p c (n + 5 * i + 1 + jj) ∧ Ext p H H6 ∧ H6 lf = some (.lst (nats (left.eraseIdx j))) ∧ H6 fo = some (.lst (nats (blocks bl))))
        ⟨[], [0, 1, 2, 3], upd_same, s5 _ _ (s4 _ _ upd_same), .refl _, rfl, M5, (e2.trans (Ext.same (s3.trans s4))).trans (Ext.same s5), s5 _ _ (s4 _ _ (s3 _ _ upd_same)), s5 _ _ (s4 _ _ (s3 _ _ hf2))⟩ (fun _ _ _ _ => trivial) ?_ ?_
      · rintro jj x H6 H7 hjj ⟨done, rest, hD6, hp6, hperm, hdl, M6, e6, hl6, hf6⟩ ⟨rfl, rfl⟩
        have hr4 : rest.length + jj = 4 := by
          have := hperm.length_eq
          rw [List.length_append] at this
          simp at this
          omega
        have hjj4 : jj < 4 := hjj
        have nrl : ((nats rest).length : Nat) = rest.length := List.length_map _
        refine ⟨rfl, yes ?_⟩
        refine ⟨_, rfl, _, _, rfl, rfl, .inl ⟨by decide, by decide⟩, _, rfl, .inl ⟨rfl, _, SqL.of hp6⟩, _, rfl, _, rfl, pl, _, rfl, .inl (SqL.of hp6), p, c, _, _, rfl, M6, by omega, by omega, by omega, fun H8 r M8 B8 r0 r1 => ?_⟩
        obtain ⟨q, rfl⟩ : ∃ q : Nat, r = (q : Nat) := ⟨r.toNat, by omega⟩
        have hq : q < rest.length := by omega
        obtain ⟨pc, hpc⟩ : ∃ x, rest[q]? = some x := ⟨_, List.getElem?_eq_getElem hq⟩
        have hp8 : H8 pl = some (.lst (nats rest)) := (B8 pl nplp).trans hp6
        have hD8 : H8 D = some (.lst (nats (done.map (4 * cr + ·)))) := (B8 D nDp).trans hD6
        refine ⟨pl, _, _, q, _, rfl, rfl, hp8, by omega, by omega, (by rw [nrl]; exact seq_ix hq), nats_at hpc, ?_⟩
        rw [nats_erase]
        refine ⟨_, _, rfl, rfl, _, (upd_ne (Ne.symm hDpl)).trans hD8, small1000 ?_, done ++ [pc], rest.eraseIdx q, ?_, ?_, ?_, ?_, ?_, ?_, ?_, ?_⟩
        · rw [List.length_map, List.length_map]
          omega
        · rw [upd_same, List.map_append, nats_app]
          have e : ((4 : Int) * (cr : Nat) + (pc : Nat)) = ((4 * cr + pc : Nat) : Int) := by omega
          show some (HO.lst (_ ++ [V.int ((4 : Int) * (cr : Nat) + (pc : Nat))])) = _
          rw [e]
          rfl
        · rw [upd_ne hDpl, upd_same]
        · refine List.Perm.trans ?_ hperm
          rw [List.append_assoc]
          exact List.Perm.append_left _ (erase_perm hpc).symm
        · rw [List.length_append, hdl]
          rfl
        · exact (M8.wr nplp nplc).wr nDp nDc
        · exact ((e6.trans B8.ext).wr hpl0).wr hD0
        · rw [upd_ne hlD, upd_ne hlpl]
          exact (B8 lf nlp).trans hl6
        · rw [upd_ne hfD, upd_ne hfpl]
          exact (B8 fo nfp).trans hf6
      · rintro H6 ⟨done, rest, hD6, hp6, hperm, hdl, M6, e6, hl6, hf6⟩
        have hrest : rest = [] := by
          have := hperm.length_eq
          rw [List.length_append] at this
          simp at this
          have hdl : done.length = 4 := hdl
          exact List.eq_nil_of_length_eq_zero (by omega)
        subst hrest
        rw [List.append_nil] at hperm
        have M6 : MS H6 p c (n + 5 * i + 1 + 4) := M6
        refine ⟨fo, D, _, _, rfl, rfl, hf6, hD6, ?_, fun L2 hL2 => ?_⟩
        · refine Nat.le_of_lt (small1000 ?_)
          have q1 := blocks_len (l := bl) fun b hb' => (hb b hb').length_eq
          have hdl : done.length = 4 := hdl
          rw [List.length_map, List.length_map, List.length_map, q1]
          omega
        have s9 := Same.new (o := .lst (nats (blocks bl) ++ nats (done.map (4 * cr + ·)))) hL2
        refine ⟨L2, left.eraseIdx j, bl ++ [(cr, done)], _, _, _, rfl, (M6.keep s9).lt (by omega) (by omega), e6.trans (Ext.same s9), s9 _ _ hl6, ?_, ?_, ?_, ?_, ?_⟩
        · rw [upd_same, blocks_snoc, nats_app]
        · refine List.Perm.trans ?_ hp
          rw [List.map_append, List.append_assoc]
          exact List.Perm.append_left _ (erase_perm hcr).symm
        · intro b hb'
          rcases List.mem_append.mp hb' with z | z
          · exact hb b z
          · rw [List.mem_singleton.mp z]
            exact hperm
        · rw [List.length_append, hlen]
          rfl
        · exact (ne_of_none hl6 hL2).symm
    · rintro σ H' ⟨fo, left, bl, v4, v5, v6, rfl, M', e', hl', hf', hp, hb, hlen, nfl⟩
      have e0 : (many : Int).toNat = many := by omega
      rw [e0] at M' hlen
      have hll : left = [] := by
        have := hp.length_eq
        rw [List.length_append, List.length_map, List.length_range] at this
        exact List.eq_nil_of_length_eq_zero (by omega)
      subst hll
      rw [List.append_nil] at hp
      exact ⟨_, rfl, k _ fo _ M' e' hf' (called_of_blocks hp hb)⟩
end
end One
end P_D7

section P_D8
set_option linter.all false
set_option maxRecDepth 100000
set_option maxHeartbeats 4000000
namespace One
open PySem PySem.Spec PyProof.Rows L2
/-! ### sorting pairs -/
/-- the pair that stands at an address -/
def keyN (H : Hp) (a : Addr) : Nat × Nat := match H a with
  | some (.tup [.int i, .int j]) => (i.toNat, j.toNat)
  | _ => (0, 0)
theorem keyN_of {H : Hp} {a : Addr} {p : Nat × Nat} (h : PAt H a p) : keyN H a = p := by
  unfold keyN
  rw [show H a = some (.tup [.int (p.1 : Nat), .int (p.2 : Nat)]) from h]
  rfl
theorem PL.keys {H : Hp} {as : List Addr} {ps : List (Nat × Nat)} (h : PL H as ps) : ps = as.map (keyN H) ∧ ∀ a ∈ as, PAt H a (keyN H a) := by
  induction h with
  | nil => exact ⟨rfl, fun a m => absurd m (by simp)⟩
  | cons h1 _ ih =>
    rw [List.map_cons, keyN_of h1]
    refine ⟨by rw [← ih.1], fun a m => ?_⟩
    rcases List.mem_cons.mp m with e | m
    · subst e
      rw [keyN_of h1]
      exact h1
    · exact ih.2 a m
theorem PL.of_keys {H : Hp} : ∀ {as : List Addr}, (∀ a ∈ as, PAt H a (keyN H a)) → PL H as (as.map (keyN H))
  | [], _ => .nil
  | a :: r, h => .cons (h a (List.mem_cons.mpr (.inl rfl))) (PL.of_keys fun b hb => h b (List.mem_cons.mpr (.inr hb)))
def backA : V → Addr
  | .ref a => a
  | _ => 0
theorem refs_of : ∀ {ys : List V}, (∀ y ∈ ys, ∃ a, y = V.ref a) → ys = refs (ys.map backA)
  | [], _ => rfl
  | y :: r, h => by
    obtain ⟨a, rfl⟩ := h y (List.mem_cons.mpr (.inl rfl))
    show V.ref a :: r = V.ref a :: refs (r.map backA)
    rw [← refs_of fun z hz => h z (List.mem_cons.mpr (.inr hz))]
theorem back_refs (as : List Addr) : (refs as).map backA = as := by
  rw [refs, List.map_map]
  exact List.map_id' as
/-- sorted(xs), xs a list of pairs -/
theorem rd_sorted {K : PySem.W.Frag} {H : Hp} {Q : VK} {a : Addr} {as : List Addr} {ps : List (Nat × Nat)} (hs : SqL K H a (refs as)) (hP : PL H as ps)
    (h : ∀ (bs : List Addr) (qs : List (Nat × Nat)) (p : Addr), PL H bs qs → qs.Perm ps → qs.Pairwise leP → H p = none → Q (.ref p) (upd H p (.lst (refs bs)))) : rSortedPO K [.ref a] H Q := by
  obtain ⟨e1, e2⟩ := hP.keys
  refine ⟨a, refs as, fun v => (((keyN H (backA v)).1 : Nat), ((keyN H (backA v)).2 : Nat)), rfl, hs, fun x hx => ?_, fun ys p h1 h2 hp => ?_⟩
  · obtain ⟨b, hb, rfl⟩ := List.mem_map.mp hx
    exact ⟨b, rfl, e2 b hb⟩
  · have hy : ys = refs (ys.map backA) := refs_of fun y m => by
      obtain ⟨b, _, e⟩ := List.mem_map.mp (h2.perm.mem_iff.mp m)
      exact ⟨b, e.symm⟩
    have hb : (ys.map backA).Perm as := by
      have := h2.perm.map backA
      rwa [back_refs] at this
    rw [hy]
    refine h (ys.map backA) ((ys.map backA).map (keyN H)) p (PL.of_keys fun b m => e2 b (hb.mem_iff.mp m)) (by rw [e1]; exact hb.map _) ?_ hp
    rw [List.map_map, List.pairwise_map]
    refine List.Pairwise.imp ?_ h1
    intro x y hxy
    have q := SrtO.lexB_no.mp hxy
    show leP (keyN H (backA x)) (keyN H (backA y))
    unfold leP
    simp only at q
    omega
/-- sorted([x, y]) -/
theorem low_of {x y : Nat} {ns : List Int} (hp : ns.Perm [((x : Nat) : Int), ((y : Nat) : Int)]) (hs : ns.Pairwise (· ≤ ·)) : ns = [(((low x y).1 : Nat) : Int), (((low x y).2 : Nat) : Int)] := by
  have hl := hp.length_eq
  match ns, hl with
  | [a, b], _ =>
    have hab : a ≤ b := by
      have := (List.pairwise_cons.mp hs).1 b (by simp)
      exact this
    have ha := hp.mem_iff (a := a)
    have hb := hp.mem_iff (a := b)
    have c1 := hp.count_eq a
    have c2 := hp.count_eq b
    simp only [List.mem_cons, List.not_mem_nil, or_false, true_or, or_true, true_iff] at ha hb
    unfold low
    rcases ha with rfl | rfl <;> rcases hb with rfl | rfl
    · simp only [List.count_cons, List.count_nil, beq_self_eq_true, if_true] at c1
      by_cases q : ((y : Int) == (x : Int)) = true
      · have : y = x := by
          have z : (y : Int) = (x : Int) := by simpa using q
          omega
        subst this
        split <;> rfl
      · rw [if_neg q] at c1
        omega
    · rw [if_neg (by omega)]
    · by_cases q : y < x
      · rw [if_pos q]
      · have : x = y := by omega
        subst this
        rw [if_neg q]
    · simp only [List.count_cons, List.count_nil, beq_self_eq_true, if_true] at c1
      by_cases q : ((x : Int) == (y : Int)) = true
      · have : x = y := by
          have z : (x : Int) = (y : Int) := by simpa using q
          omega
        subst this
        split <;> rfl
      · rw [if_neg q] at c1
        omega
end One
end P_D8

section P_D9
set_option linter.all false
set_option maxRecDepth 100000
set_option maxHeartbeats 4000000
namespace One
open PySem PySem.Spec PyProof.Rows L2
abbrev sYard : Stmt := top 40
abbrev nYard : List Str := ["m", "most", "many", "lines", "names", "one", "other"]
theorem scYard : FnScope nYard ["m", "most"] (defScope sYard) := ⟨rfl, rfl, rfl, by decide +kernel, rfl, by decide +kernel, by decide +kernel⟩
/-- at t stands a yard of n crossings, a tuple of these pairs -/
def YAt (H : Hp) (t : Addr) (n : Nat) (ps : List (Nat × Nat)) : Prop := Yard n ps ∧ ∃ as : List Addr, H t = some (.tup (refs as)) ∧ PL H as ps
theorem YAt.mono {H H' : Hp} {t : Addr} {n : Nat} {ps : List (Nat × Nat)} (h : YAt H t n ps) (k : ∀ b xs, H b = some (.tup xs) → H' b = some (.tup xs)) : YAt H' t n ps := by
  obtain ⟨y, as, h1, h2⟩ := h
  exact ⟨y, as, k _ _ h1, h2.mono k⟩
def spYard : Sp := fun vs H Q _ => ∃ (p c : Addr) (n most : Nat), vs = [.ref p, .int (most : Nat)] ∧ MS H p c n ∧ n ≤ 800000 ∧ 0 < most ∧ most ≤ 40 ∧
  ∀ (H' : Hp) (t : Addr) (k : Nat) (ps : List (Nat × Nat)), MS H' p c (n + 1 + 7 * most) → Ext p H H' → YAt H' t k ps → k ≤ most → Q (.ref t) H'
section
variable {P : Program} {w : World} {K : PySem.W.Frag} {mg : Str → Option Value} {base : Heap}
theorem ok_yard {f fD fG fC : Addr} {fd fdD fdG fdC : FuncData} (F : Fun K "_law_yard" "_law_yard" sYard f fd) (T : TB mg) (D : Cal K mg "_law_draw" fD fdD ["m", "many"]) (GD : FnOk P w K mg base CX0 1 fD fdD ["m", "many"] spDraw)
    (DG : Cal K mg "_law_grown" fG fdG ["m", "many"]) (GG : FnOk P w K mg base CX0 2 fG fdG ["m", "many"] spGrown) (DC : Cal K mg "_law_called" fC fdC ["m", "many"]) (GC : FnOk P w K mg base CX0 2 fC fdC ["m", "many"] spCalled) :
    FnOk P w K mg base CX0 3 f fd ["m", "most"] spYard := by
  refine F.ok scYard (fun vs H Q E h => ?_) (fun cdv A outer s H vs Q E hr h => ?_)
  · obtain ⟨p, c, n, most, rfl, _⟩ := h
    rfl
  · obtain ⟨p, c, n, most, rfl, M, hn, h0, h40, k⟩ := h
    have nd := scYard.nd
    have hr1 : Room 1 _ := hr.mono (by decide)
    refine ⟨_, pss_cons (ps_set (i := 2) nd rfl (Or.inl rfl) (pe_op op_add pe_int (pe_call GD hr1 rfl D.g D.kp D.b .nil pass0 (pa_cons (pv 0) (pa_cons (pv 1) pa_nil)))))
      (pss_cons (ps_asg (pe_tup (pa_cons (pe_call GG hr rfl DG.g DG.kp DG.b .nil pass0 (pa_cons (pv 0) (pa_cons (pv 2) pa_nil))) (pa_cons (pe_call GC hr rfl DC.g DC.kp DC.b .nil pass0 (pa_cons (pv 0) (pa_cons (pv 2) pa_nil))) pa_nil)))
          (pg_tup rfl (pgs_cons (pg_name (i := 3) nd rfl (Or.inl rfl)) (pgs_cons (pg_name (i := 4) nd rfl (Or.inr rfl)) pgs_nil))))
      (pss_one (ps_ret (pe_tupleOf (by rfl) T.tuple (pe_callB cr_sortedPO (by rfl) T.sorted boot_sorted (pa_cons
          (pe_lc (own := [("one", 5), ("other", 6)]) (g := gTup K 2 (gCons (gName 5) (gCons (gName 6) gNil))) (tt := tYes)
            (te := tThen (tCB (rSorted K) (tCons (tLst (tCons (tOp (rIxL K) (tVar 4) (tVar 5)) (tCons (tOp (rIxL K) (tVar 4) (tVar 6)) tNil))) tNil)) (kTup K)) rfl nd (pi_list (pv 3)) (blkOk_by (N := nYard) (sc := defScope sYard) (by decide +kernel))
            (fun _ _ _ _ _ => pg_tup rfl (pgs_cons (pg_name (i := 5) nd rfl (Or.inl rfl)) (pgs_cons (pg_name (i := 6) nd rfl (Or.inl rfl)) pgs_nil))) (fun _ _ _ _ _ => pts_nil)
            (fun _ _ _ _ _ => pe_tupleOf (by rfl) T.tuple (pe_callB cr_sorted (by rfl) T.sorted boot_sorted (pa_cons (pe_lst (pa_cons (pe_ix ix_list (pv 4) (pv 5) (fun _ _ => rfl)) (pa_cons (pe_ix ix_list (pv 4) (pv 6) (fun _ _ => rfl)) pa_nil))) pa_nil)))) pa_nil)))))), ?_⟩
    refine ⟨_, rfl, _, rfl, p, c, n, _, rfl, M, by omega, by omega, by omega, fun H1 r M1 B1 r0 r1 => ⟨_, _, rfl, rfl, ?_⟩⟩
    obtain ⟨j, rfl⟩ : ∃ j : Nat, r = (j : Nat) := ⟨r.toNat, by omega⟩
    have em : (1 : Int) + (j : Nat) = ((1 + j : Nat) : Int) := by omega
    refine ⟨_, rfl, _, rfl, p, c, _, 1 + j, (by rw [← em]; rfl), M1, by omega, by omega, by omega, fun H2 L as ps M2 e2 hL hP hG => ?_⟩
    refine ⟨_, rfl, _, rfl, p, c, _, 1 + j, (by rw [← em]; rfl), M2, by omega, by omega, fun H3 N ns M3 e3 hN hC => ?_⟩
    refine ⟨two_le, fun t ht => ?_⟩
    have hL3 : H3 L = some (.lst (refs as)) := e3 _ _ (M2.neL hL) hL
    have hP3 := hP.mono (tupK M2 e3)
    have s4 := Same.new (o := .tup [V.ref L, V.ref N]) ht
    have M4 := M3.keep s4
    have hL4 := s4 _ _ hL3
    have hN4 := s4 _ _ hN
    have hP4 := hP3.mono (sameT s4)
    have e4 : Ext p H (upd H3 t (.tup [V.ref L, V.ref N])) := B1.ext.trans (e2.trans (e3.trans (Ext.same s4)))
    refine ⟨t, _, rfl, SqT.of upd_same, rfl, _, _, rfl, _, _, rfl, rfl, ?_⟩
    refine ⟨_, rfl, L, rfl, ⟨_, SqL.of hL4⟩, fun D hD => ?_⟩
    have s5 := Same.new (o := .lst []) hD
    have hlen : as.length = ps.length := hP4.len
    have nl : (refs as).length = as.length := List.length_map _
    refine lc_it (walk_list (K := K) (a := L) (xs := refs as)) (fun i H6 => ∃ bs : List Addr, H6 D = some (.lst (refs bs)) ∧ PL H6 bs ((ps.take i).map (callL ns)) ∧ Same (upd H3 t (.tup [V.ref L, V.ref N])) H6) ⟨[], upd_same, .nil, s5⟩ (fun i H6 _ ⟨bs, h1, h2, h3⟩ => SqL.of (h3 _ _ hL4)) ?_ ?_
    · rintro i x H6 H7 hi ⟨bs, hD6, hB6, s6⟩ ⟨rfl, hx⟩
      have hi' : i < ps.length := by rw [← hlen, ← nl]; exact hi
      obtain ⟨q, hq⟩ : ∃ q, ps[i]? = some q := ⟨_, List.getElem?_eq_getElem hi'⟩
      obtain ⟨a, ha, pa⟩ := hP4.get hq
      rw [List.getElem?_map, ha] at hx
      cases hx
      have q1 : q.1 < 4 * (1 + j) := hG.lines.lt _ (mem_ends.mpr ⟨q, List.mem_of_getElem? hq, .inl rfl⟩)
      have q2 : q.2 < 4 * (1 + j) := hG.lines.lt _ (mem_ends.mpr ⟨q, List.mem_of_getElem? hq, .inr rfl⟩)
      have get : ∀ y, y < 4 * (1 + j) → atI (nats ns) ((y : Nat) : Int) = some (V.int (ns.getD y 0 : Nat)) := fun y hy => by
        have hy' : y < ns.length := by rw [hC.len]; exact hy
        refine at_of (j := y) rfl ?_
        rw [List.getElem?_map, List.getElem?_eq_getElem hy', List.getD_eq_getElem?_getD, List.getElem?_eq_getElem hy']
        rfl
      have hN6 := s6 _ _ hN4
      refine ⟨a, _, rfl, SqT.of (s6 _ _ pa), rfl, _, _, rfl, _, _, rfl, rfl, rfl, yes ?_⟩
      refine ⟨_, rfl, _, rfl, N, _, _, _, rfl, rfl, SqL.of hN6, get _ q1, _, rfl, _, rfl, N, _, _, _, rfl, rfl, SqL.of hN6, get _ q2, two_le, fun l hl => ?_⟩
      have s7 := Same.new (o := .lst [V.int (ns.getD q.1 0 : Nat), V.int (ns.getD q.2 0 : Nat)]) hl
      refine ⟨l, [((ns.getD q.1 0 : Nat) : Int), ((ns.getD q.2 0 : Nat) : Int)], rfl, SqL.of upd_same, (by show 2 < 64; decide), fun ns' l2 hp hs hl2 => ?_⟩
      have s8 := Same.new (o := .lst (ns'.map V.int)) hl2
      have en := low_of hp hs
      subst en
      refine .inl ⟨l2, _, rfl, SqL.of upd_same, fun u hu => ?_⟩
      have s9 := Same.new (o := .tup [V.int ((callL ns q).1 : Nat), V.int ((callL ns q).2 : Nat)]) hu
      have sA := s7.trans (s8.trans s9)
      have hD9 := sA _ _ hD6
      refine ⟨refs bs, hD9, small1000 ?_, bs ++ [u], ?_, ?_, ?_⟩
      · rw [List.length_map, hB6.len, List.length_map, List.length_take]
        have := hG.lines.len
        omega
      · rw [upd_same, refs_app]
        rfl
      · have hne : ∀ b xs, H7 b = some (.tup xs) → (upd _ D (HO.lst (refs bs ++ [V.ref u]))) b = some (.tup xs) := fun b xs h => (upd_ne (ne_of (sA _ _ h) hD9 (by intro z; cases z))).trans (sA _ _ h)
        have hun : u ≠ D := ne_of (upd_same : (upd _ u _) u = _) hD9 (by intro z; cases z)
        rw [List.take_succ, hq, Option.toList_some, List.map_append]
        exact (hB6.mono hne).app (.cons ((upd_ne hun).trans upd_same) .nil)
      · intro b o h
        have nb : b ≠ D := ne_of_none h hD
        rw [upd_ne nb]
        exact sA _ _ (s6 _ _ h)
    · rintro H6 ⟨bs, hD6, hB6, s6⟩
      rw [nl, hlen, List.take_length] at hB6
      show rSortedPO K [V.ref D] H6 (fun x H1 => kTup K x H1 Q)
      refine rd_sorted (SqL.of hD6) hB6 fun cs qs l hC6 hperm hle hl => ?_
      have s7 := Same.new (o := .lst (refs cs)) hl
      refine .inl ⟨l, _, rfl, SqL.of upd_same, fun u hu => ?_⟩
      have s8 := Same.new (o := .tup (refs cs)) hu
      have sA := s6.trans (s7.trans s8)
      exact k _ u (1 + j) qs ((M4.keep sA).lt (by omega) (by omega)) (e4.trans (Ext.same sA)) ⟨called_yard hG hC hperm hle, cs, upd_same, hC6.mono (sameT (s7.trans s8))⟩ (by omega)
end
end One
end P_D9

section P_E1
set_option linter.all false
set_option maxRecDepth 100000
set_option maxHeartbeats 4000000
/-! Ranges with a step as values; what kind a value is. -/
namespace One
open PySem PySem.Spec PyProof.Rows L2
def RngO (a : Addr) (lo hi c : Int) : HO := .ext fun h => ∃ t u v, h.get? a = some { cls := .type "range", data := .fields #[.int lo t, .int hi u, .int c v] }
theorem rng_has (r : Addr) (a b c i : Int) (t u v k : Tok) :
    Meets (Builtin.«range.__contains__» ⟨[.ref r, .int i k], []⟩) (fun _ R s => s.heap.get? r = some ⟨.type "range", none, .fields #[.int a t, .int b u, .int c v], #[]⟩ ∧ R (.ok (.ret (.bool (Builtin.Range.rangePlace? a b c i).isSome))) s) :=
  .of_wp fun prog w A R s h => by
    obtain ⟨hp, g, d, tk, os⟩ := s
    obtain ⟨hl, h⟩ := h
    wp_walk
    exact ⟨_, rfl, h⟩
section
variable {X : Cx}
theorem op_in_rngC : OpR X (compareOp .In) (fun x y H Q => ∃ i a lo hi c, x = V.int i ∧ y = V.ref a ∧ H a = some (RngO a lo hi c) ∧ Q (.bl (Builtin.Range.rangePlace? lo hi c i).isSome) H) := by
  intro pins s σ H x y v u Q I rx ry h
  obtain ⟨i, a, lo, hi, c, rfl, rfl, ha, q⟩ := h
  obtain ⟨k, rfl⟩ := rx
  obtain rfl : u = Value.ref a := ry
  obtain ⟨⟨t1, t2, t3, ho⟩, _, _⟩ := I.hok a _ ha
  refine (show wpAny _ _ (do return Value.bool (← contains (Value.ref a) (Value.int i k))) _ _ s from ?_)
  exact wpAny_bind (wpAny_contains_slot (T := "range") ⟨_, ho, rfl⟩ F.slot_range_contains (call_meets F.slot_range_contains ⟨_, ho, rfl⟩ F.entry_range_contains (F.args_range_contains_2 _ _) (rng_has a lo hi c i t1 t2 t3 k)
    ⟨ho, wpAny_truthy_bool (wpAny_pure ⟨.bl _, H, I, rfl, q⟩)⟩))
theorem cr_range3 : CallR X (.type "range") (fun vs H Q => ∃ i j c, vs = [V.int i, V.int j, V.int c] ∧ (c ≠ 0 ∧ c.natAbs < 1073741824) ∧ ∀ p, H p = none → Q (.ref p) (upd H p (RngO p i j c))) := by
  intro pins s σ H vs us Q I r h
  obtain ⟨i, j, c, rfl, hc, q⟩ := h
  obtain ⟨u1, u2, u3, rfl, ri, rj, rc⟩ : ∃ u1 u2 u3, us = [u1, u2, u3] ∧ RelV (V.int i) u1 ∧ RelV (V.int j) u2 ∧ RelV (V.int c) u3 := by
    cases r with
    | cons p q =>
      cases q with
      | cons p' q' =>
        cases q' with
        | cons p'' q'' =>
          cases q''
          exact ⟨_, _, _, rfl, p, p', p''⟩
  obtain ⟨t, rfl⟩ := ri
  obtain ⟨t2, rfl⟩ := rj
  obtain ⟨t3, rfl⟩ := rc
  have hget : (s.heap.push { cls := .type "range", data := .fields #[.int i t, .int j t2, .int c t3] }).get? s.heap.objs.size = some { cls := .type "range", data := .fields #[.int i t, .int j t2, .int c t3] } := Heap.get?_push_size _ rfl
  refine call_range_3 hc.1 ?_ (.inl (PyProof.noPylong_small hc.2))
  exact ⟨.ref s.heap.objs.size, upd H s.heap.objs.size (RngO s.heap.objs.size i j c), I.laid (t' := s.toks) (fun b o e => Heap.get?_push_of_some _ e) (Nat.le_refl _) ⟨⟨t, t2, t3, hget⟩, ⟨_, hget⟩, fun h1 h2 ⟨a, b, d, e⟩ st => ⟨a, b, d, st _ e⟩⟩, rfl, q _ (I.hok.fresh (Nat.le_refl _))⟩
end
end One
end P_E1

section P_E2
set_option linter.all false
set_option maxRecDepth 100000
set_option maxHeartbeats 4000000
namespace One
open PySem PySem.Spec PyProof.Rows L2
/-! ### what kind a value is -/
inductive TV (H : Hp) : V → String → Prop
  | non : TV H .non "NoneType"
  | bl (b : Bool) : TV H (.bl b) "bool"
  | int (i : Int) : TV H (.int i) "int"
  | str (x : Str) : TV H (.str x) "str"
  | tup {a : Addr} {xs : List V} (e : H a = some (.tup xs)) : TV H (.ref a) "tuple"
  | lst {a : Addr} {xs : List V} (e : H a = some (.lst xs)) : TV H (.ref a) "list"
  | dct {a : Addr} {kvs : List (Key × V)} (e : H a = some (.dK kvs)) : TV H (.ref a) "dict"
theorem TV.tyx {K : PySem.W.Frag} {H : Hp} {v : V} {T : String} (h : TV H v T) : TyX K H v (.type T) := by
  cases h with
  | non => exact .base .non
  | bl b => exact .base (.bl b)
  | int i => exact .base (.int i)
  | str x => exact .base (.str x)
  | tup e => exact .base (.tup e)
  | lst e => exact .base (.lst e)
  | dct e => exact .base (.dK e)
def isI : V → Bool
  | .int _ => true
  | _ => false
def belowV (v : V) (n : Int) : Bool := match v with
  | .int i => decide (0 ≤ i) && decide (i < n)
  | _ => false
theorem nof {p : Prop} (z : false = true) : p := by cases z
theorem noT {p : Prop} (z : true = false) : p := by cases z
theorem TV.kInt {K : PySem.W.Frag} {H : Hp} {v : V} {T : String} (h : TV H v T) : ∃ b, PySem.W.kitOne K (.type T) (.type "int") = some b ∧ (b = true → ∃ b2, PySem.W.kitOne K (.type T) (.type "bool") = some b2 ∧ isI v = !b2) ∧ (b = false → isI v = false) := by
  cases h with
  | non => exact ⟨false, kit_ty (by decide +kernel), nof, fun _ => rfl⟩
  | bl b => exact ⟨true, kit_ty (by decide +kernel), fun _ => ⟨true, kit_ty (by decide +kernel), rfl⟩, noT⟩
  | int i => exact ⟨true, kit_ty (by decide +kernel), fun _ => ⟨false, kit_ty (by decide +kernel), rfl⟩, noT⟩
  | str x => exact ⟨false, kit_ty (by decide +kernel), nof, fun _ => rfl⟩
  | tup e => exact ⟨false, kit_ty (by decide +kernel), nof, fun _ => rfl⟩
  | lst e => exact ⟨false, kit_ty (by decide +kernel), nof, fun _ => rfl⟩
  | dct e => exact ⟨false, kit_ty (by decide +kernel), nof, fun _ => rfl⟩
def isTup (T : String) : Bool := T == "tuple"
theorem TV.kTup {K : PySem.W.Frag} {H : Hp} {v : V} {T : String} (h : TV H v T) : PySem.W.kitOne K (.type T) (.type "tuple") = some (isTup T) := by
  cases h <;> exact kit_ty (by decide +kernel)
/-- the constants of the program's top -/
structure TC (mg : Str → Option Value) : Prop where
  most : ∃ t, mg "MOST_CROSSINGS" = some (.int 40 t)
  places : ∃ t, mg "PLACES" = some (.int 4 t)
abbrev sIsNum : Stmt := top 11
abbrev sIsBelow : Stmt := top 12
abbrev sCanBe : Stmt := top 22
abbrev sIsLine : Stmt := top 23
theorem scIsNum : FnScope ["thing"] ["thing"] (defScope sIsNum) := ⟨rfl, rfl, rfl, by decide +kernel, rfl, by decide +kernel, by decide +kernel⟩
theorem scIsBelow : FnScope ["thing", "many"] ["thing", "many"] (defScope sIsBelow) := ⟨rfl, rfl, rfl, by decide +kernel, rfl, by decide +kernel, by decide +kernel⟩
theorem scCanBe : FnScope ["many"] ["many"] (defScope sCanBe) := ⟨rfl, rfl, rfl, by decide +kernel, rfl, by decide +kernel, by decide +kernel⟩
theorem scIsLine : FnScope ["thing", "many_ends", "low", "high"] ["thing", "many_ends"] (defScope sIsLine) := ⟨rfl, rfl, rfl, by decide +kernel, rfl, by decide +kernel, by decide +kernel⟩
def spIsNum : Sp := fun vs H Q _ => ∃ (v : V) (T : String), vs = [v] ∧ TV H v T ∧ Q (.bl (isI v)) H
def spIsBelow : Sp := fun vs H Q _ => ∃ (v : V) (n : Int) (T : String), vs = [v, .int n] ∧ TV H v T ∧ Q (.bl (belowV v n)) H
/-- as many lines as a yard may have -/
def canBe (n : Int) : Bool := decide (2 ≤ n) && decide (n ≤ 80) && decide (n % 2 = 0)
def spCanBe : Sp := fun vs H Q _ => ∃ n : Int, vs = [.int n] ∧ ∀ H', Same H H' → Q (.bl (canBe n)) H'
section
variable {P : Program} {w : World} {K : PySem.W.Frag} {mg : Str → Option Value} {base : Heap}
theorem ok_isnum {f : Addr} {fd : FuncData} (F : Fun K "is_number" "is_number" sIsNum f fd) (T : TB mg) : FnOk P w K mg base CX0 1 f fd ["thing"] spIsNum := by
  refine F.ok scIsNum (fun vs H Q E h => ?_) (fun cdv A outer s H vs Q E hr h => ?_)
  · obtain ⟨v, _, rfl, _⟩ := h
    rfl
  · obtain ⟨v, ty, rfl, hv, k⟩ := h
    refine ⟨_, pss_one (ps_ret (pe_and (pe_callB call_isi (by rfl) T.isinstance boot_isinstance (pa_cons (pv 0) (pa_cons (pe_bltn (v := .ty "int") (by rfl) T.int PyProof.Rows.boot_int rfl) pa_nil)))
      (pe_one (pe_not (pe_callB call_isi (by rfl) T.isinstance boot_isinstance (pa_cons (pv 0) (pa_cons (pe_bltn (v := .ty "bool") (by rfl) T.bool (by decide +kernel) rfl) pa_nil))))))), ?_⟩
    obtain ⟨b, kb, h1, h2⟩ := hv.kInt (K := K)
    refine ⟨_, rfl, v, _, _, _, b, rfl, .ty _, hv.tyx, kb, b, rfl, ?_⟩
    cases b with
    | true =>
      obtain ⟨b2, kb2, e⟩ := h1 rfl
      refine iteT ⟨_, rfl, v, _, _, _, b2, rfl, .ty _, hv.tyx, kb2, b2, rfl, ?_⟩
      rw [← e]
      exact k
    | false =>
      refine iteF ?_
      rw [h2 rfl] at k
      exact k
theorem ok_isbelow {f fN : Addr} {fd fdN : FuncData} (F : Fun K "is_below" "is_below" sIsBelow f fd) (N : Cal K mg "is_number" fN fdN ["thing"]) (GN : FnOk P w K mg base CX0 1 fN fdN ["thing"] spIsNum) : FnOk P w K mg base CX0 2 f fd ["thing", "many"] spIsBelow := by
  refine F.ok scIsBelow (fun vs H Q E h => ?_) (fun cdv A outer s H vs Q E hr h => ?_)
  · obtain ⟨v, n, _, rfl, _⟩ := h
    rfl
  · obtain ⟨v, n, ty, rfl, hv, k⟩ := h
    refine ⟨_, pss_one (ps_ret (pe_and (pe_call GN hr rfl N.g N.kp N.b .nil pass0 (pa_cons (pv 0) pa_nil)) (pe_one (pe_chain op_le op_lt pe_int (pv 0) (pv 1))))), ?_⟩
    refine ⟨_, rfl, v, ty, rfl, hv, _, rfl, ?_⟩
    cases v with
    | int i =>
      refine iteT ⟨_, rfl, _, _, rfl, rfl, _, rfl, ?_⟩
      by_cases h0 : 0 ≤ i
      · rw [if_pos (decide_eq_true h0)]
        refine ⟨_, rfl, _, _, rfl, rfl, ?_⟩
        have e : belowV (.int i) n = decide (i < n) := by
          show (decide (0 ≤ i) && decide (i < n)) = _
          rw [decide_eq_true h0, Bool.true_and]
        rw [e] at k
        exact k
      · rw [if_neg (by rw [decide_eq_false h0]; decide)]
        have e : belowV (.int i) n = false := by
          show (decide (0 ≤ i) && decide (i < n)) = _
          rw [decide_eq_false h0, Bool.false_and]
        rw [e] at k
        exact k
    | _ => exact iteF k
theorem ok_canbe {f : Addr} {fd : FuncData} (F : Fun K "can_be_many_lines" "can_be_many_lines" sCanBe f fd) (T : TB mg) (C : TC mg) : FnOk P w K mg base CX0 1 f fd ["many"] spCanBe := by
  refine F.ok scCanBe (fun vs H Q E h => ?_) (fun cdv A outer s H vs Q E hr h => ?_)
  · obtain ⟨n, rfl, _⟩ := h
    rfl
  · obtain ⟨n, rfl, k⟩ := h
    obtain ⟨t, ht⟩ := C.most
    refine ⟨_, pss_one (ps_ret (pe_cmpR op_in_rngC (pv 0) (pe_callTy cr_range3 (by rfl) T.range boot_range (pa_cons pe_int (pa_cons (pe_op op_add (pe_op op_mul pe_int (pe_glob (v := .int 40) rfl ht ⟨_, rfl⟩)) pe_int) (pa_cons pe_int pa_nil)))) (by rfl))), ?_⟩
    refine ⟨_, rfl, _, _, rfl, rfl, .inl ⟨by decide, by decide⟩, _, _, rfl, rfl, _, _, _, rfl, ⟨by decide, by decide⟩, fun p hp => ?_⟩
    refine ⟨n, p, _, _, _, rfl, rfl, upd_same, ?_⟩
    have e : (Builtin.Range.rangePlace? 2 (2 * 40 + 1) 2 n).isSome = canBe n := by
      unfold Builtin.Range.rangePlace? canBe
      rw [Bool.eq_iff_iff]
      simp only [show (2 : Int) > 0 from by decide, if_true, Bool.and_eq_true, decide_eq_true_eq, beq_iff_eq]
      constructor
      · intro q
        split at q
        · omega
        · cases q
      · intro q
        rw [if_pos (by omega)]
        rfl
    show Q (.bl (Builtin.Range.rangePlace? 2 (2 * 40 + 1) 2 n).isSome) _
    rw [e]
    exact k _ (Same.new hp)
end
end One
end P_E2

section P_E3
set_option linter.all false
set_option maxRecDepth 100000
set_option maxHeartbeats 4000000
namespace One
open PySem PySem.Spec PyProof.Rows L2
abbrev sIsWhole : Stmt := top 24
abbrev nWhole : List Str := ["lines"]
theorem scIsWhole : FnScope nWhole ["lines"] (defScope sIsWhole) := ⟨rfl, rfl, rfl, by decide +kernel, rfl, by decide +kernel, by decide +kernel⟩
def ltB : V → V → Bool
  | .int a, .int b => decide (a < b)
  | _, _ => false
def lineB (xs : List V) (n : Int) : Bool := match xs with
  | [x, y] => belowV x n && belowV y n && ltB x y
  | _ => false
def spIsLine : Sp := fun vs H Q _ => ∃ (v : V) (n : Int), vs = [v, .int n] ∧ ((∃ T, TV H v T ∧ isTup T = false ∧ Q (.bl false) H) ∨ ∃ (a : Addr) (xs : List V), v = .ref a ∧ H a = some (.tup xs) ∧ (∀ x ∈ xs, ∃ T, TV H x T) ∧ Q (.bl (lineB xs n)) H)
/-- lines that are asked whether they hang together -/
structure Asked (n : Nat) (ps : List (Nat × Nat)) : Prop where
  pos : 0 < n
  len : ps.length = 2 * n
  lt : ∀ p ∈ ps, p.1 < 4 * n ∧ p.2 < 4 * n
def spIsWhole : Sp := fun vs H Q _ => ∃ (t : Addr) (n : Nat) (as : List Addr) (ps : List (Nat × Nat)), vs = [.ref t] ∧ H t = some (.tup (refs as)) ∧ PL H as ps ∧ Asked n ps ∧ n ≤ 100 ∧
  ∀ (H' : Hp) (b : Bool), Same H H' → (b = true ↔ Whole n ps) → Q (.bl b) H'
section
variable {P : Program} {w : World} {K : PySem.W.Frag} {mg : Str → Option Value} {base : Heap}
theorem ok_isline {f fB : Addr} {fd fdB : FuncData} (F : Fun K "is_line" "is_line" sIsLine f fd) (T : TB mg) (B : Cal K mg "is_below" fB fdB ["thing", "many"]) (GB : FnOk P w K mg base CX0 2 fB fdB ["thing", "many"] spIsBelow) :
    FnOk P w K mg base CX0 3 f fd ["thing", "many_ends"] spIsLine := by
  refine F.ok scIsLine (fun vs H Q E h => ?_) (fun cdv A outer s H vs Q E hr h => ?_)
  · obtain ⟨v, n, rfl, _⟩ := h
    rfl
  · obtain ⟨v, n, rfl, h⟩ := h
    have nd := scIsLine.nd
    refine ⟨_, pss_cons (ps_if (PW.pt (pw_or (pt_not (pt_val (pe_callB call_isi (by rfl) T.isinstance boot_isinstance (pa_cons (pv 0) (pa_cons (pe_bltn (v := .ty "tuple") (by rfl) T.tuple boot_tuple rfl) pa_nil)))))
        (pw_or1 (pt_cmpR op_ne (pe_callB call_len_seq (by rfl) T.len PySem.boot_len (pa_cons (pv 0) pa_nil)) pe_int (nomark _))))) (pss_one (ps_ret pe_bl)) pss_nil)
      (pss_cons (ps_asg (pv 0) (pg_tup rfl (pgs_cons (pg_name (i := 2) nd rfl (Or.inl rfl)) (pgs_cons (pg_name (i := 3) nd rfl (Or.inl rfl)) pgs_nil))))
      (pss_one (ps_ret (pe_and (pe_call GB hr rfl B.g B.kp B.b .nil pass0 (pa_cons (pv 2) (pa_cons (pv 1) pa_nil))) (pe_and (pe_call GB hr rfl B.g B.kp B.b .nil pass0 (pa_cons (pv 3) (pa_cons (pv 1) pa_nil)))
        (pe_one (pe_cmpR op_lt (pv 2) (pv 3) (nomark _)))))))), ?_⟩
    rcases h with ⟨ty, hv, hT, k⟩ | ⟨a, xs, rfl, ha, hx, k⟩
    · refine ⟨_, rfl, v, _, _, _, _, rfl, .ty _, hv.tyx, hv.kTup, _, rfl, ?_⟩
      rw [hT]
      exact iteT k
    · refine ⟨_, rfl, _, _, _, _, _, rfl, .ty _, (TV.tup ha).tyx, (TV.tup ha).kTup, _, rfl, ?_⟩
      refine iteF ⟨_, rfl, a, _, rfl, .inr (SqT.of ha), rfl, _, rfl, ?_⟩
      refine ite2 (fun hne => ?_) (fun heq => ?_)
      · have e : lineB xs n = false := by
          match xs, hne with
          | [], _ => rfl
          | [_], _ => rfl
          | [_, _], hne => simp at hne
          | _ :: _ :: _ :: _, _ => rfl
        rw [e] at k
        exact k
      · have hl : xs.length = 2 := by
          have q : ((xs.length : Nat) : Int) = 2 := by simpa using heq
          omega
        match xs, hl, hx, ha, k with
        | [x, y], _, hx, ha, k =>
          obtain ⟨t1, h1⟩ := hx x (by simp)
          obtain ⟨t2, h2⟩ := hx y (by simp)
          refine ⟨_, rfl, a, _, rfl, SqT.of ha, rfl, _, _, rfl, _, _, rfl, rfl, ?_⟩
          refine ⟨_, rfl, _, rfl, x, n, t1, rfl, h1, _, rfl, ?_⟩
          have k : Q (.bl (belowV x n && belowV y n && ltB x y)) H := k
          refine ite2 (fun b1 => ?_) (fun b1 => ?_)
          · refine ⟨_, rfl, _, rfl, y, n, t2, rfl, h2, _, rfl, ?_⟩
            refine ite2 (fun b2 => ?_) (fun b2 => ?_)
            · rw [b1, b2] at k
              cases x with
              | int i =>
                cases y with
                | int j => exact ⟨_, rfl, _, rfl, _, _, rfl, rfl, k⟩
                | _ => cases b2
              | _ => cases b1
            · rw [b1, Bool.eq_false_iff.mpr b2] at k
              exact k
          · rw [Bool.eq_false_iff.mpr b1] at k
            exact k
end
end One
end P_E3

section P_R1
set_option linter.all false
set_option maxRecDepth 100000
set_option maxHeartbeats 8000000
namespace One
open PySem PySem.Spec PyProof.Rows L2
/-- a list of lists of numbers at B, at bl, f says what stands in each; all made behind H0 -/
structure BSt (H0 H : Hp) (B : Addr) (bl : List Addr) (f : Nat → List Nat) : Prop where
  same : Same H0 H
  b : H B = some (.lst (refs bl))
  at_ : ∀ i a, bl[i]? = some a → H a = some (.lst (nats (f i)))
  new : ∀ a ∈ bl, H0 a = none
  nd : bl.Nodup
  nb : B ∉ bl
theorem BSt.keep {H0 H H' : Hp} {B : Addr} {bl : List Addr} {f : Nat → List Nat} (s : BSt H0 H B bl f) (k : Same H H') : BSt H0 H' B bl f :=
  ⟨s.same.trans k, k _ _ s.b, fun i a h => k _ _ (s.at_ i a h), s.new, s.nd, s.nb⟩
theorem BSt.wr {H0 H : Hp} {B q : Addr} {bl : List Addr} {f : Nat → List Nat} {o : HO} (s : BSt H0 H B bl f) (h0 : H0 q = none) (h1 : q ≠ B) (h2 : q ∉ bl) : BSt H0 (upd H q o) B bl f := by
  refine ⟨fun b u e => ?_, by rw [upd_ne (Ne.symm h1)]; exact s.b, fun i a h => ?_, s.new, s.nd, s.nb⟩
  · rw [upd_ne (ne_of_none e h0)]
    exact s.same _ _ e
  · rw [upd_ne (fun z => h2 (by rw [← z]; exact List.mem_of_getElem? h))]
    exact s.at_ i a h
theorem BSt.add {H0 H : Hp} {B a : Addr} {bl : List Addr} {f : Nat → List Nat} {i x : Nat} (s : BSt H0 H B bl f) (ha : bl[i]? = some a) : BSt H0 (upd H a (.lst (nats (f i) ++ [V.int (x : Nat)]))) B bl (addTo f i x) := by
  have hm := List.mem_of_getElem? ha
  refine ⟨fun b u e => ?_, by rw [upd_ne (fun z => s.nb (by rw [z]; exact hm))]; exact s.b, fun j c h => ?_, s.new, s.nd, s.nb⟩
  · rw [upd_ne (ne_of_none e (s.new a hm))]
    exact s.same _ _ e
  · unfold addTo
    by_cases e : j = i
    · subst e
      rw [ha] at h
      cases h
      rw [if_pos rfl, upd_same, nats_app]
      rfl
    · rw [if_neg e, upd_ne (fun z => e (nd_ix s.nd h (by rw [z]; exact ha)))]
      exact s.at_ j c h
def lenAt (H : Hp) (a : Addr) : Nat := match H a with
  | some (.lst xs) => xs.length
  | _ => 0
def noAt (H : Hp) (a : Addr) : Nat := match H a with
  | some (.lst xs) => xs.countP fun v => match v with | .bl b => !b | _ => false
  | _ => 0
theorem lenAt_of {H : Hp} {a : Addr} {ns : List Nat} (h : H a = some (.lst (nats ns))) : lenAt H a = ns.length := by
  unfold lenAt
  rw [h]
  exact List.length_map _
theorem noAt_of {H : Hp} {a : Addr} {r : List Bool} (h : H a = some (.lst (r.map V.bl))) : noAt H a = r.count false := by
  unfold noAt
  rw [h]
  show (r.map V.bl).countP _ = _
  rw [List.countP_map]
  refine List.countP_congr fun b _ => ?_
  cases b <;> simp
theorem take_ends {H : Hp} {ps : List (Nat × Nat)} {i : Nat} {p : Nat × Nat} (h : ps[i]? = some p) : ps.take (i + 1) = ps.take i ++ [p] := by
  rw [List.take_succ, h]
  rfl
theorem fdiv4 (x : Nat) : ((x : Nat) : Int) / 4 = ((x / 4 : Nat) : Int) := by omega
theorem nodup_app {α : Type} {l : List α} {x : α} (h : l.Nodup) (hx : x ∉ l) : (l ++ [x]).Nodup := by
  refine List.nodup_append.mpr ⟨h, by simp, fun a ha b hb => ?_⟩
  rw [List.mem_singleton.mp hb]
  exact fun e => hx (e ▸ ha)
theorem ix_nat {n j : Nat} (h : j < n) : ixN n ((j : Nat) : Int) = some j := by
  unfold ixN
  rw [if_pos (by omega), if_pos (by omega)]
  rfl
theorem flat_rep {α : Type} (x : α) : ∀ n : Nat, (List.replicate n [x]).flatten = List.replicate n x
  | 0 => rfl
  | n + 1 => by
    rw [List.replicate_succ, List.flatten_cons, flat_rep x n, List.replicate_succ]
    rfl
abbrev sBesideX : Stmt := top 25
abbrev nBesideX : List Str := ["lines", "many", "beside", "low", "high", "_"]
theorem scBesideX : FnScope nBesideX ["lines", "many"] (defScope sBesideX) := ⟨rfl, rfl, rfl, by decide +kernel, rfl, by decide +kernel, by decide +kernel⟩
/-- what is beside each of n crossings by these lines, told as lists in a list, all new -/
def spBesideX : Sp := fun vs H Q _ => ∃ (t : Addr) (n : Nat) (as : List Addr) (ps : List (Nat × Nat)), vs = [.ref t, .int (n : Nat)] ∧ H t = some (.tup (refs as)) ∧ PL H as ps ∧ (∀ p ∈ ps, p.1 < 4 * n ∧ p.2 < 4 * n) ∧ n ≤ 200 ∧ ps.length ≤ 400 ∧
  ∀ (H' : Hp) (D : Addr) (bl : List Addr) (f : Nat → List Nat), BSt H H' D bl f → H D = none → bl.length = n → Beside ps f → Q (.ref D) H'
section
variable {P : Program} {w : World} {K : PySem.W.Frag} {mg : Str → Option Value} {base : Heap}
theorem ok_besideX {f : Addr} {fd : FuncData} (F : Fun K "crossings_beside" "crossings_beside" sBesideX f fd) (T : TB mg) (C : TC mg) : FnOk P w K mg base CX0 1 f fd ["lines", "many"] spBesideX := by
  refine F.ok scBesideX (fun vs H Q E h => ?_) (fun cdv A outer s H vs Q E hr h => ?_)
  · obtain ⟨t, n, as, ps, rfl, _⟩ := h
    rfl
  · obtain ⟨t, n, as, ps, rfl, ht, hP, hA, hn, hpl, k⟩ := h
    have nd := scBesideX.nd
    obtain ⟨t4, ht4⟩ := C.places
    refine ⟨_, pss_cons (ps_setLc (i := 2) (own := [("_", 5)]) (g := gName 5) (tt := tYes) (te := tLst tNil) rfl nd rfl rfl (sw_true rfl rfl rfl (by decide +kernel)) (pi_range1 (by rfl) T.range (pa_cons (pv 1) pa_nil)) (blkOk_by (N := nBesideX) (sc := defScope sBesideX) (by decide +kernel))
        (fun _ _ _ _ _ => pg_name (i := 5) nd rfl (Or.inl rfl)) (fun _ _ _ _ _ => pts_nil) (fun _ _ _ _ _ => pe_lst pa_nil))
      (pss_cons (ps_for PassesOwn.never rfl (pi_tup (pv 0)) (pg_tup rfl (pgs_cons (pg_name (i := 3) nd rfl (Or.inl rfl)) (pgs_cons (pg_name (i := 4) nd rfl (Or.inl rfl)) pgs_nil)))
        (pss_cons (ps_expr (pe_bm PySem.F.plainAttrs_list PySem.F.slot_list_append PySem.F.type_list_append mt_append (pe_ix ix_list (pv 2) (pe_op op_fdiv (pv 3) (pe_glob (v := .int 4) rfl ht4 ⟨_, rfl⟩)) (fun _ _ => rfl)) (pa_cons (pe_op op_fdiv (pv 4) (pe_glob (v := .int 4) rfl ht4 ⟨_, rfl⟩)) pa_nil)))
        (pss_one (ps_expr (pe_bm PySem.F.plainAttrs_list PySem.F.slot_list_append PySem.F.type_list_append mt_append (pe_ix ix_list (pv 2) (pe_op op_fdiv (pv 4) (pe_glob (v := .int 4) rfl ht4 ⟨_, rfl⟩)) (fun _ _ => rfl)) (pa_cons (pe_op op_fdiv (pv 3) (pe_glob (v := .int 4) rfl ht4 ⟨_, rfl⟩)) pa_nil))))))
      (pss_one (ps_ret (pv 2)))), ?_⟩
    have hal : as.length = ps.length := hP.len
    have nl : (refs as).length = as.length := List.length_map _
    refine ⟨_, rfl, n, rfl, by omega, by omega, fun D hD => ?_⟩
    refine lc_it (walk_range (lo := 0) (n := ((n : Nat) : Int).toNat)) (fun i H6 => ∃ bl : List Addr, BSt H H6 D bl (fun _ => []) ∧ bl.length = i) ⟨[], ⟨Same.new hD, upd_same, fun i a h => absurd h (by simp), fun a h => absurd h (by simp), .nil, by simp⟩, rfl⟩ (fun _ _ _ _ => trivial) ?_ ?_
    · rintro i x H6 H7 hi ⟨bl, hB, hl⟩ ⟨rfl, rfl⟩
      refine ⟨rfl, yes ⟨Nat.zero_le _, fun l hl' => ⟨_, (Same.new hl') _ _ hB.b, small1000 ?_, bl ++ [l], ?_, ?_⟩⟩⟩
      · rw [List.length_map]
        omega
      · have s1 := Same.new (o := .lst []) hl'
        have h0 : H l = none := hB.same.free hl'
        have nlD : l ≠ D := (ne_of_none hB.b hl').symm
        have nlb : l ∉ bl := fun m => by
          obtain ⟨j, hj, e⟩ := List.mem_iff_getElem.mp m
          have q := hB.at_ j l (by rw [List.getElem?_eq_getElem hj, e])
          rw [hl'] at q
          cases q
        refine ⟨fun b u e => ?_, by rw [upd_same, refs_app]; rfl, fun j a h => ?_, fun a m => ?_, nodup_app hB.nd nlb, fun m => ?_⟩
        · rw [upd_ne (ne_of_none e hD)]
          exact s1 _ _ (hB.same _ _ e)
        · by_cases hj : j < bl.length
          · rw [List.getElem?_append_left hj] at h
            have q := hB.at_ j a h
            rw [upd_ne (fun z => hB.nb (by rw [← z]; exact List.mem_of_getElem? h))]
            exact s1 _ _ q
          · rw [List.getElem?_append_right (by omega)] at h
            have ea : a = l := by
              have := List.mem_of_getElem? h
              exact List.mem_singleton.mp this
            rw [ea, upd_ne nlD, upd_same]
            rfl
        · rcases List.mem_append.mp m with m | m
          · exact hB.new a m
          · rw [List.mem_singleton.mp m]
            exact h0
        · rcases List.mem_append.mp m with m | m
          · exact hB.nb m
          · exact nlD (List.mem_singleton.mp m).symm
      · rw [List.length_append, hl]
        rfl
    · rintro H6 ⟨bl, hB, hl⟩
      have hl : bl.length = n := by rw [hl]; omega
      refine ⟨_, rfl, t, rfl, ⟨_, SqT.of (hB.same _ _ ht)⟩, for_tup (K := K) (a := t) (xs := refs as) (fun i σ H7 => ∃ (f : Nat → List Nat) (v2 v3 : Option V), σ = [some (.ref t), some (.int (n : Nat)), some (.ref D), v2, v3, none] ∧ BSt H H7 D bl f ∧ Beside (ps.take i) f ∧ ∀ j, (f j).length ≤ 2 * i)
        ⟨fun _ => [], none, none, rfl, hB, beside_nil, fun _ => Nat.zero_le _⟩ (fun i σ H7 _ ⟨f, _, _, _, h, _⟩ => SqT.of (h.same _ _ ht)) ?_ ?_⟩
      · rintro i x σ H7 hx ⟨f, v2, v3, rfl, hB7, hbs, hfl⟩
        obtain ⟨a, ha⟩ : ∃ a, as[i]? = some a := by
          rw [List.getElem?_map] at hx
          cases e : as[i]? with
          | none =>
            rw [e] at hx
            cases hx
          | some a => exact ⟨a, rfl⟩
        rw [List.getElem?_map, ha] at hx
        cases hx
        obtain ⟨p, hp, pa⟩ := hP.got ha
        have hi : i < ps.length := by
          have := (List.getElem?_eq_some_iff.mp ha).1
          omega
        obtain ⟨q1, q2⟩ := hA p (List.mem_of_getElem? hp)
        have g1 : p.1 / 4 < bl.length := by omega
        have g2 : p.2 / 4 < bl.length := by omega
        obtain ⟨b1, hb1⟩ : ∃ b, bl[p.1 / 4]? = some b := ⟨_, List.getElem?_eq_getElem g1⟩
        obtain ⟨b2, hb2⟩ : ∃ b, bl[p.2 / 4]? = some b := ⟨_, List.getElem?_eq_getElem g2⟩
        have pa7 := hB7.same _ _ pa
        refine ⟨a, _, rfl, SqT.of pa7, rfl, _, _, rfl, _, _, rfl, rfl, ?_⟩
        have c1 := hB7.at_ _ _ hb1
        refine ⟨_, rfl, _, rfl, _, _, rfl, rfl, ⟨by decide, by decide⟩, D, _, _, .ref b1, rfl, rfl, SqL.of hB7.b, (by show atI _ (((p.1 : Nat) : Int) / 4) = _; rw [fdiv4]; exact ref_at hb1), .inl ⟨rfl, _, SqL.of c1⟩, _, rfl, _, _, rfl, rfl, ⟨by decide, by decide⟩, b1, _, _, rfl, rfl, c1, small1000 ?_, ?_⟩
        · rw [List.length_map]
          have := hfl (p.1 / 4)
          omega
        have hB8 : BSt H (upd H7 b1 (.lst (nats (f (p.1 / 4)) ++ [V.int (((p.2 : Nat) : Int) / 4)]))) D bl (addTo f (p.1 / 4) (p.2 / 4)) := by
          rw [fdiv4]
          exact hB7.add hb1
        have c2 := hB8.at_ _ _ hb2
        refine ⟨_, rfl, _, rfl, _, _, rfl, rfl, ⟨by decide, by decide⟩, D, _, _, .ref b2, rfl, rfl, SqL.of hB8.b, (by show atI _ (((p.2 : Nat) : Int) / 4) = _; rw [fdiv4]; exact ref_at hb2), .inl ⟨rfl, _, SqL.of c2⟩, _, rfl, _, _, rfl, rfl, ⟨by decide, by decide⟩, b2, _, _, rfl, rfl, c2, small1000 ?_, ?_⟩
        · rw [List.length_map]
          have := hfl (p.2 / 4)
          unfold addTo
          split
          · rw [List.length_append, List.length_singleton]
            omega
          · omega
        have hB9 : BSt H (upd (upd H7 b1 (.lst (nats (f (p.1 / 4)) ++ [V.int (((p.2 : Nat) : Int) / 4)]))) b2 (.lst (nats (addTo f (p.1 / 4) (p.2 / 4) (p.2 / 4)) ++ [V.int (((p.1 : Nat) : Int) / 4)]))) D bl (addTo (addTo f (p.1 / 4) (p.2 / 4)) (p.2 / 4) (p.1 / 4)) := by
          rw [fdiv4 p.1]
          exact hB8.add hb2
        refine ⟨_, _, _, rfl, hB9, ?_, fun j => ?_⟩
        · rw [take_ends (H := H) hp]
          exact beside_add p hbs
        · have := hfl j
          unfold addTo
          split <;> split <;> (try simp only [List.length_append, List.length_singleton]) <;> omega
      · rintro σ H7 ⟨f, v2, v3, rfl, hB7, hbs, hfl⟩
        rw [nl, hP.len, List.take_length] at hbs
        exact ⟨_, rfl, k _ D bl f hB7 hD hl hbs⟩
end
end One
end P_R1

section P_R2
set_option linter.all false
set_option maxRecDepth 100000
set_option maxHeartbeats 8000000
namespace One
open PySem PySem.Spec PyProof.Rows L2
abbrev sReached : Stmt := top 14
abbrev nReached : List Str := ["beside", "start", "told", "waiting", "other"]
theorem scReached : FnScope nReached ["beside", "start"] (defScope sReached) := ⟨rfl, rfl, rfl, by decide +kernel, rfl, by decide +kernel, by decide +kernel⟩
/-- lists of numbers in a list -/
structure LL (H : Hp) (B : Addr) (bl : List Addr) (f : Nat → List Nat) : Prop where
  b : H B = some (.lst (refs bl))
  at_ : ∀ i a, bl[i]? = some a → H a = some (.lst (nats (f i)))
theorem LL.keep {H H' : Hp} {B : Addr} {bl : List Addr} {f : Nat → List Nat} (s : LL H B bl f) (k : Same H H') : LL H' B bl f := ⟨k _ _ s.b, fun i a h => k _ _ (s.at_ i a h)⟩
theorem BSt.ll {H0 H : Hp} {B : Addr} {bl : List Addr} {f : Nat → List Nat} (s : BSt H0 H B bl f) : LL H B bl f := ⟨s.b, s.at_⟩
/-- to which numbers one comes from s, told as a new list of truths -/
def spReached : Sp := fun vs H Q _ => ∃ (B : Addr) (bl : List Addr) (f : Nat → List Nat) (n s : Nat), vs = [.ref B, .int (s : Nat)] ∧ LL H B bl f ∧ bl.length = n ∧ s < n ∧ n ≤ 200 ∧ (∀ i j, i < n → j ∈ f i → j < n) ∧
  ∀ (H' : Hp) (R4 : Addr) (r : List Bool), Same H H' → H R4 = none → H' R4 = some (.lst (r.map V.bl)) → Dfs s n f r [] (fun _ => False) → Q (.ref R4) H'
section
variable {P : Program} {w : World} {K : PySem.W.Frag} {mg : Str → Option Value} {base : Heap}
theorem ok_reached {f : Addr} {fd : FuncData} (F : Fun K "reached" "reached" sReached f fd) (T : TB mg) : FnOk P w K mg base CX0 1 f fd ["beside", "start"] spReached := by
  refine F.ok scReached (fun vs H Q E h => ?_) (fun cdv A outer s H vs Q E hr h => ?_)
  · obtain ⟨B, bl, g, n, st, rfl, _⟩ := h
    rfl
  · obtain ⟨B, bl, g, n, st, rfl, hL, hl, hs, hn, flt, k⟩ := h
    have nd := scReached.nd
    refine ⟨_, pss_cons (ps_set (i := 2) nd rfl (Or.inl rfl) (pe_op op_rep (pe_lst (pa_cons pe_bl pa_nil)) (pe_callB call_len_seq (by rfl) T.len PySem.boot_len (pa_cons (pv 0) pa_nil))))
      (pss_cons (ps_asg pe_bl (pg_sub (pv 2) (pv 1) set_list))
      (C8.pss_cut (ps_set (i := 3) nd rfl (Or.inl rfl) (pe_lst (pa_cons (pv 1) pa_nil)))
      (pss_cons (ps_while PassesOwn.never (pt_truth (pv 3) (by intro _; rfl))
        (pss_one (ps_for PassesOwn.never rfl (pi_list (pe_ix ix_list (pv 0) (pe_bm0 PySem.F.plainAttrs_list PySem.F.slot_list_pop PySem.F.type_list_pop mt_pop (pv 3)) (fun _ _ => rfl))) (pg_name (i := 4) nd rfl (Or.inl rfl))
          (pss_one (ps_if (pt_not (pt_val (pe_ix ix_list (pv 2) (pv 4) (fun _ _ => rfl)))) (pss_cons (ps_asg pe_bl (pg_sub (pv 2) (pv 4) set_list))
            (pss_one (ps_expr (pe_bm PySem.F.plainAttrs_list PySem.F.slot_list_append PySem.F.type_list_append mt_append (pv 3) (pa_cons (pv 4) pa_nil))))) pss_nil)))))
      (pss_one (ps_ret (pv 2)))))), ?_⟩
    have nlb : (((refs bl).length : Nat)) = n := by rw [List.length_map]; exact hl
    refine ⟨by show 1 ≤ sizeLine; decide, fun l1 hl1 => ⟨_, rfl, B, _, rfl, .inl (SqL.of ((Same.new hl1) _ _ hL.b)), ?_⟩⟩
    have s1 := Same.new (o := .lst [V.bl false]) hl1
    refine ⟨l1, _, _, rfl, rfl, upd_same, by omega, by omega, (by rw [nlb]; show 1 * _ ≤ _; exact Nat.le_of_lt (small1000 (by omega))), fun R4 hR4 => ?_⟩
    have s2 := Same.new (o := .lst (List.replicate (((refs bl).length : Nat) : Int).toNat [V.bl false]).flatten) hR4
    have eR : (List.replicate (((refs bl).length : Nat) : Int).toNat [V.bl false]).flatten = (List.replicate n false).map V.bl := by
      rw [nlb, show ((n : Nat) : Int).toNat = n by omega, List.map_replicate]
      exact flat_rep _ n
    have hR0 : H R4 = none := s1.free hR4
    have s12 := s1.trans s2
    refine ⟨_, rfl, _, rfl, R4, _, _, st, rfl, rfl, upd_same, ix_nat (by rw [eR, List.length_map, List.length_replicate]; exact hs), ?_⟩
    rw [eR]
    rw [eR] at s12
    have sa : Same H (upd (upd (upd H l1 (.lst [V.bl false])) R4 (.lst ((List.replicate n false).map V.bl))) R4 (.lst (((List.replicate n false).map V.bl).set st (V.bl true)))) := fun b u e => by
      rw [upd_ne (ne_of_none e hR0)]
      exact s12 _ _ e
    have setR : ∀ (r : List Bool) (j : Nat), (r.map V.bl).set j (V.bl true) = (r.set j true).map V.bl := fun r j => (List.map_set).symm
    refine ⟨fun σ H9 => ∃ (W : Addr) (r : List Bool) (w : List Nat) (v4 : Option V), (H W = none ∧ W ≠ R4) ∧ σ = [some (.ref B), some (.int (st : Nat)), some (.ref R4), some (.ref W), v4] ∧ Same H H9 ∧ H9 R4 = some (.lst (r.map V.bl)) ∧ H9 W = some (.lst (nats w)) ∧ Dfs st n g r w (fun _ => False) ∧ w.length + r.count false ≤ n, ⟨_, rfl, ⟨by show 1 ≤ sizeLine; decide, fun W hW => ?_⟩⟩, ?_⟩
    · have s3 := Same.new (o := .lst [V.int (st : Nat)]) hW
      have hW0 : H W = none := sa.free hW
      have nWR : W ≠ R4 := (ne_of_none upd_same hW).symm
      refine ⟨W, (List.replicate n false).set st true, [st], none, ⟨hW0, nWR⟩, rfl, sa.trans s3, ?_, upd_same, dfs_start g hs, ?_⟩
      · rw [upd_ne (Ne.symm nWR), upd_same, setR]
      · have := count_set (r := List.replicate n false) (j := st) (by rw [List.getElem?_replicate, if_pos hs])
        rw [List.count_replicate_self] at this
        show 1 + _ ≤ n
        omega
    · rintro σ0 H0 ⟨W, r0, w0, v4', ⟨hW0, nWR⟩, rfl, sH0, hR0', hw0, hd0, hm0⟩
      unfold tSeq
      refine while_by (fun σ H9 => ∃ (r : List Bool) (w : List Nat) (v4 : Option V), σ = [some (.ref B), some (.int (st : Nat)), some (.ref R4), some (.ref W), v4] ∧ Same H H9 ∧ H9 R4 = some (.lst (r.map V.bl)) ∧ H9 W = some (.lst (nats w)) ∧ Dfs st n g r w (fun _ => False) ∧ w.length + r.count false ≤ n)
        (fun σ H9 => 2 * noAt H9 R4 + lenAt H9 W) ⟨r0, w0, v4', rfl, sH0, hR0', hw0, hd0, hm0⟩ ?_ ?_
      · rintro σ H9 ⟨r, w, v4, rfl, sH, hR, hw, hd, hm⟩
        refine ⟨_, rfl, _, .inl ⟨_, SqL.of hw, rfl⟩, ?_⟩
        rcases List.eq_nil_or_concat w with rfl | ⟨w', c, rfl⟩
        · refine iteF ?_
          exact ⟨_, rfl, k _ R4 r sH hR0 hR hd⟩
        · rw [List.concat_eq_append] at hw hd hm ⊢
          have hne : (!(nats (w' ++ [c])).isEmpty) = true := by
            rw [nats_app]
            cases nats w' <;> rfl
          rw [hne]
          refine iteT ?_
          have hlast : (nats (w' ++ [c]))[(nats (w' ++ [c])).length - 1]? = some (V.int (c : Nat)) := by
            rw [nats_app, List.length_append]
            show (nats w' ++ [V.int (c : Nat)])[(nats w').length + 1 - 1]? = _
            rw [Nat.add_sub_cancel, List.getElem?_append_right (Nat.le_refl _), Nat.sub_self]
            rfl
          have hdrop : (nats (w' ++ [c])).dropLast = nats w' := by
            rw [nats_app]
            exact List.dropLast_concat
          have sH1 : Same H (upd H9 W (.lst (nats w'))) := fun b u e => by
            rw [upd_ne (ne_of_none e hW0)]
            exact sH _ _ e
          have hL1 := hL.keep sH1
          refine ⟨_, rfl, _, rfl, .inl ⟨rfl, _, SqL.of hw⟩, W, _, _, rfl, rfl, hw, hlast, ?_⟩
          rw [hdrop]
          have hRc : R r c := hd.wt c (List.mem_append.mpr (.inr (List.mem_singleton.mpr rfl)))
          have hcn : c < n := by
            have := (List.getElem?_eq_some_iff.mp hRc).1
            rw [hd.len] at this
            exact this
          have hR1 : (upd H9 W (.lst (nats w'))) R4 = some (.lst (r.map V.bl)) := by
            rw [upd_ne (Ne.symm nWR)]
            exact hR
          obtain ⟨b, hb⟩ : ∃ b, bl[c]? = some b := ⟨_, List.getElem?_eq_getElem (by omega)⟩
          have hbf := hL.at_ _ _ hb
          rw [List.length_append, List.length_singleton] at hm
          have hmu : 2 * noAt H9 R4 + lenAt H9 W = 2 * r.count false + (w'.length + 1) := by
            rw [noAt_of hR, lenAt_of hw, List.length_append, List.length_singleton]
          refine ⟨B, _, _, .ref b, rfl, rfl, SqL.of hL1.b, ref_at hb, b, rfl, ⟨_, SqL.of (sH1 _ _ hbf)⟩, for_list (K := K) (a := b) (xs := nats (g c)) (fun m σ Hm => ∃ (r2 : List Bool) (w2 : List Nat) (v4 : Option V), σ = [some (.ref B), some (.int (st : Nat)), some (.ref R4), some (.ref W), v4] ∧
              Same H Hm ∧ Hm R4 = some (.lst (r2.map V.bl)) ∧ Hm W = some (.lst (nats w2)) ∧ Dfs st n g r2 w2 (· = c) ∧ R r2 c ∧ w2.length + r2.count false + 1 ≤ n ∧ 2 * r2.count false + w2.length + 1 ≤ 2 * r.count false + (w'.length + 1) ∧ ∀ j ∈ (g c).take m, R r2 j)
            ⟨r, w', v4, rfl, sH1, hR1, upd_same, dfs_pop hd, hRc, by omega, by omega, fun j hj => absurd hj (by simp)⟩ (fun m σ Hm _ ⟨_, _, _, _, h, _⟩ => SqL.of (h _ _ hbf)) ?_ ?_⟩
          · rintro m x σ Hm hx ⟨r2, w2, v4, rfl, sH2, hR2, hw2, hd2, hRc2, hm1, hm2, hdone⟩
            obtain ⟨j, hj⟩ : ∃ j, (g c)[m]? = some j := by
              rw [List.getElem?_map] at hx
              cases e : (g c)[m]? with
              | none =>
                rw [e] at hx
                cases hx
              | some a => exact ⟨a, rfl⟩
            rw [List.getElem?_map, hj] at hx
            cases hx
            have hjf : j ∈ g c := List.mem_of_getElem? hj
            have hjn : j < n := flt c j hcn hjf
            have hjr : j < r2.length := by rw [hd2.len]; exact hjn
            obtain ⟨b2, hb2⟩ : ∃ b, r2[j]? = some b := ⟨_, List.getElem?_eq_getElem hjr⟩
            have etake : (g c).take (m + 1) = (g c).take m ++ [j] := by
              rw [List.take_succ, hj]
              rfl
            refine ⟨_, rfl, _, rfl, R4, _, _, .bl b2, rfl, rfl, SqL.of hR2, at_of (j := j) rfl (by rw [List.getElem?_map, hb2]; rfl), b2, rfl, ?_⟩
            cases b2 with
            | true =>
              refine iteF ⟨r2, w2, _, rfl, sH2, hR2, hw2, hd2, hRc2, hm1, hm2, fun i hi => ?_⟩
              rw [etake] at hi
              rcases List.mem_append.mp hi with hi | hi
              · exact hdone i hi
              · rw [List.mem_singleton.mp hi]
                exact hb2
            | false =>
              have hcnt := count_set hb2
              refine iteT ⟨_, rfl, _, rfl, R4, _, _, j, rfl, rfl, hR2, ix_nat (by rw [List.length_map]; exact hjr), ?_⟩
              have hw3 : (upd Hm R4 (.lst ((r2.map V.bl).set j (V.bl true)))) W = some (.lst (nats w2)) := by
                rw [upd_ne nWR]
                exact hw2
              refine ⟨_, rfl, .inl ⟨rfl, _, SqL.of hw3⟩, _, rfl, W, _, _, rfl, rfl, hw3, small1000 (by rw [List.length_map]; omega), ?_⟩
              refine ⟨r2.set j true, w2 ++ [j], _, rfl, (fun b u e => ?_), ?_, ?_, dfs_mark hd2 hRc2 hjf hjn, R_set hRc2, ?_, ?_, fun i hi => ?_⟩
              · rw [upd_ne (ne_of_none e hW0), upd_ne (ne_of_none e hR0)]
                exact sH2 _ _ e
              · rw [upd_ne (Ne.symm nWR), upd_same, setR]
              · rw [upd_same, nats_app]
                rfl
              · rw [List.length_append, List.length_singleton]
                omega
              · rw [List.length_append, List.length_singleton]
                omega
              · rw [etake] at hi
                rcases List.mem_append.mp hi with hi | hi
                · exact R_set (hdone i hi)
                · rw [List.mem_singleton.mp hi]
                  exact R_new hjr
          · rintro σ Hm ⟨r2, w2, v4, rfl, sH2, hR2, hw2, hd2, hRc2, hm1, hm2, hdone⟩
            rw [List.length_map, List.take_length] at hdone
            refine ⟨⟨r2, w2, _, rfl, sH2, hR2, hw2, dfs_finish hd2 hdone, by omega⟩, ?_⟩
            show 2 * noAt Hm R4 + lenAt Hm W < 2 * noAt H9 R4 + lenAt H9 W
            rw [hmu, noAt_of hR2, lenAt_of hw2]
            omega
      · intro σ H1 Q1 Q2 hq h
        obtain ⟨v, e, kk, ht, q⟩ := h
        exact ⟨v, e, kk, ht, hq _ _ q⟩
end
end One
end P_R2

section P_E4
set_option linter.all false
set_option maxRecDepth 100000
set_option maxHeartbeats 4000000
namespace One
open PySem PySem.Spec PyProof.Rows L2
section
variable {P : Program} {w : World} {K : PySem.W.Frag} {mg : Str → Option Value} {base : Heap}
theorem ok_iswhole {f fR fB : Addr} {fd fdR fdB : FuncData} (F : Fun K "is_whole" "is_whole" sIsWhole f fd) (T : TB mg) (DR : Cal K mg "reached" fR fdR ["beside", "start"]) (GR : FnOk P w K mg base CX0 1 fR fdR ["beside", "start"] spReached)
    (DB : Cal K mg "crossings_beside" fB fdB ["lines", "many"]) (GB : FnOk P w K mg base CX0 1 fB fdB ["lines", "many"] spBesideX) : FnOk P w K mg base CX0 2 f fd ["lines"] spIsWhole := by
  refine F.ok scIsWhole (fun vs H Q E h => ?_) (fun cdv A outer s H vs Q E hr h => ?_)
  · obtain ⟨t, n, as, ps, rfl, _⟩ := h
    rfl
  · obtain ⟨t, n, as, ps, rfl, ht, hP, hA, hn, k⟩ := h
    refine ⟨_, pss_one (ps_ret (pe_callB (cr_all rfl) (by rfl) T.all boot_all (pa_cons (pe_call GR hr rfl DR.g DR.kp DR.b .nil pass0 (pa_cons (pe_call GB hr rfl DB.g DB.kp DB.b .nil pass0 (pa_cons (pv 0) (pa_cons (pe_op op_fdiv (pe_callB call_len_seq (by rfl) T.len PySem.boot_len (pa_cons (pv 0) pa_nil)) pe_int) pa_nil))) (pa_cons pe_int pa_nil))) pa_nil))), ?_⟩
    have hal : as.length = 2 * n := by rw [hP.len, hA.len]
    have nl : (refs as).length = as.length := List.length_map _
    have e2 : (((refs as).length : Nat) : Int) / 2 = (n : Nat) := by rw [nl, hal]; omega
    refine ⟨_, rfl, _, rfl, t, _, rfl, .inr (SqT.of ht), _, _, rfl, rfl, ⟨by decide, by decide⟩, t, n, as, ps, (by show [V.ref t, V.int ((((refs as).length : Nat) : Int) / 2)] = _; rw [e2]), ht, hP, hA.lt, by omega, (by rw [hA.len]; omega), fun H1 D bl g hB hD hl hbs => ?_⟩
    refine ⟨D, bl, g, n, 0, rfl, hB.ll, hl, hA.pos, by omega, fun i j hi hj => ?_, fun H2 R4 r s2 hR0 hR hd => ?_⟩
    · obtain ⟨p, hp, q⟩ := (hbs i j).mp hj
      obtain ⟨q1, q2⟩ := hA.lt p hp
      rcases q with ⟨_, q⟩ | ⟨_, q⟩ <;> omega
    · exact ⟨R4, r, rfl, SqL.of hR, k _ _ (hB.same.trans s2) (dfs_whole hbs hd)⟩
end
end One
end P_E4

section P_E5
set_option linter.all false
set_option maxRecDepth 100000
set_option maxHeartbeats 4000000
namespace One
open PySem PySem.Spec PyProof.Rows L2
/-! ### enumerate of a tuple -/
theorem enum_newT (tt : Addr) (xs : Array Value) (sz : Nat) (dc : Option Addr) (sl : Array (Option Value)) :
    Meets (Builtin.«enumerate.__new__» ⟨[.type "enumerate", .ref tt], []⟩) (fun _ R s => s.heap.get? tt = some ⟨.type "tuple", dc, .seq xs sz, sl⟩ ∧
      R (.ok (.ret (.ref (s.heap.push { cls := .type "tuple_iterator", data := .fields #[.ref tt, .int 0 0] }).objs.size)))
        { s with heap := (s.heap.push { cls := .type "tuple_iterator", data := .fields #[.ref tt, .int 0 0] }).push { cls := .type "enumerate", data := .fields #[.none, .bool false, .ref s.heap.objs.size, rawInt 0, .none, .none] } }) :=
  .of_wp fun prog w A R s q => by
    obtain ⟨hp, g, d, tk, os⟩ := s
    obtain ⟨hl, q⟩ := q
    have su := sub_enumerate
    have hT : Heap.IsTuple (Shared.heap ⟨hp, g, d, tk, os⟩) tt xs := ⟨_, hl, rfl, sz, rfl⟩
    wp_walk using AutoSeq1.wpAny_loadPart' hl
    refine wpAny_stack_any fun stk => wpAny_pure ?_
    split
    · rename_i cl _ _ _ _ _
      cases (cl == Value.type "enumerate") <;> (wp_walk using AutoSeq1.wpAny_loadPart' hl, wpAny_pyIter_tuple hT; exact ⟨_, rfl, q⟩)
    · wp_walk using AutoSeq1.wpAny_loadPart' hl, wpAny_pyIter_tuple hT
      exact ⟨_, rfl, q⟩
section
variable {prog : Program} {w : World} {A : Around} {E : Value → Shared → Prop} {s : Shared}
theorem call_enumT {tt : Addr} {xs : Array Value} {Q : Value → Shared → Prop} (hL : s.heap.IsTuple tt xs)
    (k : ∀ g, IsEnum g (s.heap.objs.size + 1) s.heap.objs.size 0 .none → g.IsTupleIter s.heap.objs.size tt 0 → (∀ b o, s.heap.get? b = some o → g.get? b = some o) → Q (.ref (s.heap.objs.size + 1)) { s with heap := g }) :
    wpAny (model prog w) A (call (.type "enumerate") [.ref tt]) Q E s := by
  obtain ⟨⟨cl, dc, da, sl⟩, hl, hcl, sz, hda⟩ := hL
  dsimp only at hcl hda
  subst hcl hda
  refine callType_new F.called_enumerate (by decide) (F.typeCall_enumerate_1 _) (F.newCall_enumerate_1 _) (fun ob => F.args_object_init_2 ob _) F.entry_enumerate_new (enum_newT tt xs sz dc sl) ⟨hl, ?_⟩
  have e1 : (s.heap.push { cls := .type "tuple_iterator", data := .fields #[.ref tt, .int 0 0] }).objs.size = s.heap.objs.size + 1 := Heap.size_push ..
  show _ ∧ _
  rw [e1]
  have e2 : IsEnum ((s.heap.push { cls := .type "tuple_iterator", data := .fields #[.ref tt, .int 0 0] }).push { cls := .type "enumerate", data := .fields #[.none, .bool false, .ref s.heap.objs.size, rawInt 0, .none, .none] }) (s.heap.objs.size + 1) s.heap.objs.size 0 .none := by
    have z := Heap.get?_push_size (s.heap.push { cls := .type "tuple_iterator", data := .fields #[.ref tt, .int 0 0] }) (o := { cls := .type "enumerate", data := .fields #[.none, .bool false, .ref s.heap.objs.size, rawInt 0, .none, .none] }) rfl
    rw [e1] at z
    exact z
  exact ⟨⟨_, e2, rfl⟩, k _ e2 ⟨_, Heap.get?_push_of_some _ (Heap.get?_push_size _ rfl), rfl, rfl⟩ fun b o x => Heap.get?_push_of_some _ (Heap.get?_push_of_some _ x)⟩
end
/-- the tuple at a, each item in a new pair with its number -/
def IteT (K : PySem.W.Frag) (a : Addr) : It :=
  ⟨fun i H => ∃ (xs : List V) (x : V), SqT K H a xs ∧ xs[i]? = some x, fun i H v H' => ∃ T x, v = .ref T ∧ H T = none ∧ H' = upd H T (.tup [.int (i : Nat), x]) ∧ ∀ xs, SqT K H a xs → xs[i]? = some x, fun i H => ∃ xs : List V, SqT K H a xs ∧ xs.length ≤ i⟩
theorem turn_enumT {P : Program} {w : World} {K : PySem.W.Frag} {elts : List Expr} {kk : Nat} {tpos : Pos} (a e it : Addr) (hat : a ≠ it) (hae : a ≠ e) :
    Turn P w K (.Tuple elts kk tpos) (IteT K a) [e, it] e (fun i h => (∃ old, IsEnum h e it ((i : Nat) : Int) old) ∧ h.IsTupleIter it a i ∧ e ≠ it) where
  mem := List.mem_cons_self
  obj := fun i h st b hb => by
    obtain ⟨⟨old, he⟩, ⟨o, ho, _, hd⟩, _⟩ := st
    rcases List.mem_cons.mp hb with z | z
    · rw [z]
      exact ⟨_, he, fun v q => nomatch q⟩
    · exact ⟨o, by rw [List.mem_singleton.mp z]; exact ho, fun v q => by rw [hd] at q; cases q⟩
  keep := fun i h h' ⟨⟨old, he⟩, hi, hne⟩ k => ⟨⟨old, k e (by simp) _ he⟩, hi.at fun o e => k it (by simp) o e, hne⟩
  item := by
    intro X e1 e2 e3 hc i pins s σ H E I hf ⟨⟨old, he⟩, hit, hne⟩ ⟨xs, x, hq, hx⟩
    subst e1 e2 e3
    obtain ⟨its, rv, p, hz⟩ := I.tuple hq
    obtain ⟨u, hu, ru⟩ := rv.get hx
    have hel : e < s.heap.objs.size := Heap.lt_size he
    have hil : it < s.heap.objs.size := by
      obtain ⟨_, q, _⟩ := hit
      exact Heap.lt_size q
    have p' : s.heap.IsTuple a its.toArray := p
    have hlt : i < its.toArray.size := by
      rw [List.size_toArray]
      exact (List.getElem?_eq_some_iff.mp hu).1
    refine wpAny_pyNext_enum_itemD (fp := [it, a]) (Draws.tuple (A := X.A.in1) (show X.A.in1.handled = none from I.ok.hd hc) it a hat its.toArray) he ⟨hit, p'⟩ hlt hne (by simp [hne, Ne.symm hae]) fun x2 g tk hx2 ho hst hT hsz hk => ?_
    have ex : x2 = u := by
      have z : its.toArray[i]? = some x2 := hx2
      rw [List.getElem?_toArray, hu] at z
      exact (Option.some.inj z).symm
    subst ex
    refine ⟨_, rfl, wpAny_letOwnedTupleGo_enum (s := { s with heap := g, toks := tk + 1 }) ho fun g2 he2 sb => ?_⟩
    have hT2 : g2.get? s.heap.objs.size = some { cls := .type "tuple", data := .seq #[.int i tk, x2] } := (sb.2 _ (Nat.ne_of_gt hel)).trans hT
    have made : ObjOk X.prog X.w (upd H s.heap.objs.size (.tup [.int (i : Nat), x])) g2 s.heap.objs.size (.tup [.int (i : Nat), x]) :=
      ⟨two_le, [.int i tk, x2], .cons ⟨_, rfl⟩ (.cons ru .nil), ⟨_, hT2, rfl, _, rfl⟩⟩
    have I1 : Inv X pins σ (upd H s.heap.objs.size (.tup [.int (i : Nat), x])) { s with heap := g2, toks := tk + 1 } :=
      I.turnedNew (ch := [e, it]) (fun b ob hb q => (sb.2 b fun z => hb (by rw [z]; exact List.mem_cons_self)).trans (hk b ob (fun z => hb (by rw [z]; exact List.mem_cons_self)) (fun z => hb (by rw [z]; simp)) q)) hf (Nat.le_refl _) made
    have e0 : ((i + 1 : Nat) : Int) = (i : Int) + 1 := by omega
    refine ⟨.ref s.heap.objs.size, _, I1, rfl, ⟨_, x, rfl, I.hok.fresh (Nat.le_refl _), rfl, fun ys hy => by rw [I.tuple_inj hy hq]; exact hx⟩, ⟨⟨x2, by rw [e0]; exact he2⟩, hst.1.at fun o q => (sb.2 it (Ne.symm hne)).trans q, hne⟩, fun b hb => ?_⟩
    have lt : b < s.heap.objs.size := by
      rcases List.mem_cons.mp hb with z | z
      · rw [z]
        exact hel
      · rw [List.mem_singleton.mp z]
        exact hil
    exact (upd_ne (Nat.ne_of_lt lt)).trans (hf b hb).1
  done := by
    intro X e1 e2 e3 hc i pins s σ H E I hf ⟨⟨old, he⟩, hit, hne⟩ ⟨xs, hq, hx⟩
    subst e1 e2 e3
    obtain ⟨its, rv, p, hz⟩ := I.tuple hq
    obtain ⟨f0, f1, f2, f3, f4, f5⟩ := hf it (by simp)
    have hn : its.toArray.size ≤ i := by
      rw [List.size_toArray, ← rv.length]
      exact hx
    unfold pyNext
    have hT : s.TypeIs (.ref e) "enumerate" := ⟨_, he, rfl⟩
    refine wpAny_bind (wpAny_attempt (wpAny_callSpecial?_slot (name := Str.ofString "__next__") hT F.slot_enumerate_next (wpAny_call_entry F.slot_enumerate_next hT F.entry_enumerate_next ?_ (F.args_enumerate_next_1 _))))
    show wpAny _ _ (field (.ref e) 2 >>= _) _ _ _
    refine wpAny_bind (wpAny_field he rfl (x := .ref it) rfl (wpAny_bind (wpAny_nextOf_tuple_end (I.ok.hd hc) hit (show s.heap.IsTuple a its.toArray from p) (Array.getElem?_eq_none hn) fun g x hg ⟨o, ho, hco⟩ => ?_)))
    exact wpAny_bind (wpAny_isInstance (T := "StopIteration") (b := true) ⟨o, ho, hco⟩ isSubtype_stop (wpAny_pure ⟨rfl, I.turned (t' := s.toks) (fun b o hb e => hg b o hb e) f0 f1 f3 f4 f5⟩))
  self := fun A i s Q E ⟨⟨_, he⟩, _⟩ q => wpAny_pyIter_enum he q
def iEnumT (K : PySem.W.Frag) (ta : TA) : TI := fun σ H R => ta σ H fun vs H1 => ∃ a xs, vs = [.ref a] ∧ SqT K H1 a xs ∧ R (IteT K a) H1
theorem pi_enumT {X : Cx} {e : Expr} {ta : TA} {p pos tpos : Pos} {elts : List Expr} {kk : Nat} (hg : Gl X "enumerate") (hm : X.mg "enumerate" = none) (ha : PA X [e] ta) (hs : starEach [e] X.env = [(false, eval e X.env)] := by rfl) :
    PI X (.Tuple elts kk tpos) (.Call (.Name "enumerate" p) [e] [] pos) (iEnumT X.K ta) := by
  refine ⟨fun pins s σ H R I q0 => Call_ (ld_blt I hg hm boot_enumerate (PyProof.Rows.callWith_type1 (thn (ha.run pos pins s σ H _ I q0) fun us s1 ⟨vs, H1, I1, r1, a, xs, ex, hq, q⟩ => ?_) hs rfl))⟩
  subst ex
  cases r1 with
  | cons r rr =>
    cases rr
    cases r
    obtain ⟨its, rv, p', hz⟩ := I1.tuple hq
    have hal : a < s1.heap.objs.size := by
      obtain ⟨o, ho, _⟩ := p'
      exact Heap.lt_size ho
    refine call_enumT (show s1.heap.IsTuple a its.toArray from p') fun g he hit hk => wpAny_pyIter_enum he ?_
    have I2 : Inv X pins σ H1 { s1 with heap := g } := I1.kept (t' := s1.toks) hk
    refine ⟨s1.heap.objs.size + 1, [s1.heap.objs.size + 1, s1.heap.objs.size], _, _, H1, rfl, I2, turn_enumT a (s1.heap.objs.size + 1) s1.heap.objs.size (Nat.ne_of_lt hal) (Nat.ne_of_lt (Nat.lt_succ_of_lt hal)), ⟨⟨.none, he⟩, hit, Nat.succ_ne_self _⟩, fun b hb => ?_, q⟩
    have le : s1.heap.objs.size ≤ b := by
      rcases List.mem_cons.mp hb with z | z
      · rw [z]
        exact Nat.le_add_right _ _
      · rw [List.mem_singleton.mp z]
        exact Nat.le_refl _
    exact I1.fpOk le (I1.hok.fresh le)
theorem walk_enumT {K : PySem.W.Frag} {a : Addr} {xs : List V} : Walk (IteT K a) xs.length (fun H => SqT K H a xs) (YPair (fun i => some (.int (i : Nat))) (fun i => xs[i]?)) := by
  refine ⟨fun i _ hi q => ⟨xs, xs[i], q, List.getElem?_eq_getElem hi⟩, fun _ q => ⟨xs, q, Nat.le_refl _⟩, fun i H v H' _ q ⟨T, x, h1, h2, h3, h4⟩ => ⟨T, .int (i : Nat), x, h1, h2, h3, rfl, h4 xs q⟩⟩
end One
end P_E5

section P_E6
set_option linter.all false
set_option maxRecDepth 100000
set_option maxHeartbeats 8000000
namespace One
open PySem PySem.Spec PyProof.Rows L2
abbrev sFault : Stmt := top 21
abbrev nFault : List Str := ["thing", "many_ends", "taken", "ahead", "number", "line"]
theorem scFault : FnScope nFault ["thing"] (defScope sFault) := ⟨rfl, rfl, rfl, by decide +kernel, rfl, by decide +kernel, by decide +kernel⟩
/-- things that stand in a tuple, and what lines they are -/
inductive IL (H : Hp) (n : Nat) : List V → List (Option (Nat × Nat)) → Prop
  | nil : IL H n [] []
  | line {a p xs os} : PAt H a p → p.1 < p.2 → p.2 < n → IL H n xs os → IL H n (.ref a :: xs) (some p :: os)
  | flat {x T xs os} : TV H x T → isTup T = false → IL H n xs os → IL H n (x :: xs) (none :: os)
  | tup {a ys xs os} : H a = some (.tup ys) → (∀ y ∈ ys, ∃ T, TV H y T) → lineB ys n = false → IL H n xs os → IL H n (.ref a :: xs) (none :: os)
theorem IL.len {H : Hp} {n : Nat} {xs : List V} {os : List (Option (Nat × Nat))} (h : IL H n xs os) : xs.length = os.length := by
  induction h with
  | nil => rfl
  | line _ _ _ _ ih => simp [ih]
  | flat _ _ _ ih => simp [ih]
  | tup _ _ _ _ ih => simp [ih]
theorem IL.pairs {H : Hp} {n : Nat} : ∀ {ps : List (Nat × Nat)} {xs : List V}, IL H n xs (ps.map some) → ∃ as, xs = refs as ∧ PL H as ps ∧ ∀ p ∈ ps, p.1 < p.2 ∧ p.2 < n
  | [], _, .nil => ⟨[], rfl, .nil, fun p h => absurd h (by simp)⟩
  | p :: r, _, .line h1 h2 h3 t => by
    obtain ⟨as, e, h4, h5⟩ := IL.pairs t
    exact ⟨_ :: as, by rw [e]; rfl, .cons h1 h4, fun q hq => (List.mem_cons.mp hq).elim (fun e => e ▸ ⟨h2, h3⟩) (h5 q)⟩
theorem TV.mono {H H' : Hp} {v : V} {T : String} (h : TV H v T) (k : Same H H') : TV H' v T := by
  cases h with
  | non => exact .non
  | bl b => exact .bl b
  | int i => exact .int i
  | str x => exact .str x
  | tup e => exact .tup (k _ _ e)
  | lst e => exact .lst (k _ _ e)
  | dct e => exact .dct (k _ _ e)
theorem IL.mono {H H' : Hp} {n : Nat} {xs : List V} {os : List (Option (Nat × Nat))} (h : IL H n xs os) (k : Same H H') : IL H' n xs os := by
  induction h with
  | nil => exact .nil
  | line h1 h2 h3 _ ih => exact .line (k _ _ h1) h2 h3 ih
  | flat h1 h2 _ ih => exact .flat (h1.mono k) h2 ih
  | tup h1 h2 h3 _ ih => exact .tup (k _ _ h1) (fun y m => let ⟨T, t⟩ := h2 y m; ⟨T, t.mono k⟩) h3 ih
theorem IL.split {H : Hp} {n : Nat} {xs : List V} {os : List (Option (Nat × Nat))} (h : IL H n xs os) : ∀ {i : Nat} {x : V}, xs[i]? = some x → ∃ o, os[i]? = some o ∧ IL H n [x] [o] := by
  induction h with
  | nil => intro i x e; simp at e
  | line h1 h2 h3 _ ih =>
    intro i x e
    cases i with
    | zero =>
      have e := Option.some.inj e
      subst e
      exact ⟨_, rfl, .line h1 h2 h3 .nil⟩
    | succ i => exact ih (i := i) (by simpa using e)
  | flat h1 h2 _ ih =>
    intro i x e
    cases i with
    | zero =>
      have e := Option.some.inj e
      subst e
      exact ⟨_, rfl, .flat h1 h2 .nil⟩
    | succ i => exact ih (i := i) (by simpa using e)
  | tup h1 h2 h3 _ ih =>
    intro i x e
    cases i with
    | zero =>
      have e := Option.some.inj e
      subst e
      exact ⟨_, rfl, .tup h1 h2 h3 .nil⟩
    | succ i => exact ih (i := i) (by simpa using e)
/-- the line that stood ahead -/
def AheadAt (H : Hp) (a : Addr) : Option (Nat × Nat) → Prop
  | none => H a = some (.tup [])
  | some q => PAt H a q
theorem le_none (p : Nat × Nat) : Ob.lexAt (fun j => decide (([(p.1 : Int), (p.2 : Int)] : List Int).getD j 0 = ([] : List Int).getD j 0)) (fun j => decide (([(p.1 : Int), (p.2 : Int)] : List Int).getD j 0 ≤ ([] : List Int).getD j 0)) (decide (([(p.1 : Int), (p.2 : Int)] : List Int).length ≤ ([] : List Int).length)) 0 (min ([(p.1 : Int), (p.2 : Int)] : List Int).length ([] : List Int).length) = false := rfl
theorem le_some (p q : Nat × Nat) : Ob.lexAt (fun j => decide (([(p.1 : Int), (p.2 : Int)] : List Int).getD j 0 = ([(q.1 : Int), (q.2 : Int)] : List Int).getD j 0)) (fun j => decide (([(p.1 : Int), (p.2 : Int)] : List Int).getD j 0 ≤ ([(q.1 : Int), (q.2 : Int)] : List Int).getD j 0)) (decide (([(p.1 : Int), (p.2 : Int)] : List Int).length ≤ ([(q.1 : Int), (q.2 : Int)] : List Int).length)) 0 (min ([(p.1 : Int), (p.2 : Int)] : List Int).length ([(q.1 : Int), (q.2 : Int)] : List Int).length) = leB p q := by
  show (if decide ((p.1 : Int) = (q.1 : Int)) = true then (if decide ((p.2 : Int) = (q.2 : Int)) = true then true else decide ((p.2 : Int) ≤ (q.2 : Int))) else decide ((p.1 : Int) ≤ (q.1 : Int))) = leB p q
  unfold leB
  rw [Bool.eq_iff_iff]
  simp only [decide_eq_true_eq, Bool.or_eq_true, Bool.and_eq_true]
  constructor
  · intro h
    split at h
    · split at h
      · omega
      · simp only [decide_eq_true_eq] at h
        omega
    · simp only [decide_eq_true_eq] at h
      omega
  · intro h
    split
    · split
      · rfl
      · simp only [decide_eq_true_eq]
        omega
    · simp only [decide_eq_true_eq]
      omega
def spFault : Sp := fun vs H Q _ => ∃ v : V, vs = [v] ∧
  (((∃ T, TV H v T ∧ isTup T = false) ∨ ∃ (t : Addr) (xs : List V), v = .ref t ∧ H t = some (.tup xs) ∧ canBe (xs.length : Nat) = false) ∧ (∀ (H' : Hp) (p : Addr), Same H H' → H' p = some (.tup []) → Q (.ref p) H') ∨
  ∃ (t : Addr) (xs : List V) (os : List (Option (Nat × Nat))), v = .ref t ∧ H t = some (.tup xs) ∧ canBe (xs.length : Nat) = true ∧ IL H (2 * xs.length) xs os ∧
    (∀ k, goF 0 [] none os = some k → ∀ (H' : Hp) (p : Addr), Same H H' → H' p = some (.tup [.int (k : Nat)]) → Q (.ref p) H') ∧
    (goF 0 [] none os = none → ∀ ps, os = ps.map some → (Whole (xs.length / 2) ps → ∀ H', Same H H' → Q .non H') ∧ (¬ Whole (xs.length / 2) ps → ∀ (H' : Hp) (p : Addr), Same H H' → H' p = some (.tup [.int (xs.length : Nat)]) → Q (.ref p) H')))
section
variable {P : Program} {w : World} {K : PySem.W.Frag} {mg : Str → Option Value} {base : Heap}
theorem ok_fault {f fB fL fW : Addr} {fd fdB fdL fdW : FuncData} (F : Fun K "yard_fault" "yard_fault" sFault f fd) (T : TB mg) (B : Cal K mg "can_be_many_lines" fB fdB ["many"]) (GB : FnOk P w K mg base CX0 1 fB fdB ["many"] spCanBe)
    (L : Cal K mg "is_line" fL fdL ["thing", "many_ends"]) (GL : FnOk P w K mg base CX0 3 fL fdL ["thing", "many_ends"] spIsLine) (W : Cal K mg "is_whole" fW fdW ["lines"]) (GW : FnOk P w K mg base CX0 2 fW fdW ["lines"] spIsWhole) :
    FnOk P w K mg base CX0 4 f fd ["thing"] spFault := by
  refine F.ok scFault (fun vs H Q E h => ?_) (fun cdv A outer s H vs Q E hr h => ?_)
  · obtain ⟨v, rfl, _⟩ := h
    rfl
  · obtain ⟨v, rfl, h⟩ := h
    have nd := scFault.nd
    have hu := hu_of hr
    have hu0 : (A.deeper (envOfC "yard_fault" (defScope sFault) s.heap.objs.size f cdv)).units < cLine := Nat.lt_of_succ_lt hu
    have hr1 : Room 1 _ := hr.mono (by decide)
    have hrW : Room 2 _ := hr.mono (by decide)
    refine ⟨_, pss_cons (ps_if (pt_mid (PW.pt (pw_or (pt_not (pt_val (pe_callB call_isi (by rfl) T.isinstance boot_isinstance (pa_cons (pv 0) (pa_cons (pe_bltn (v := .ty "tuple") (by rfl) T.tuple boot_tuple rfl) pa_nil)))))
        (pw_or1 (pt_not (pt_val (pe_call GB hr1 rfl B.g B.kp B.b .nil pass0 (pa_cons (pe_callB call_len_seq (by rfl) T.len PySem.boot_len (pa_cons (pv 0) pa_nil)) pa_nil)))))))) (pss_one (ps_ret (pe_tup pa_nil))) pss_nil)
      (pss_cons (ps_set (i := 1) nd rfl (Or.inl rfl) (pe_op op_mul pe_int (pe_callB call_len_seq (by rfl) T.len PySem.boot_len (pa_cons (pv 0) pa_nil))))
      (pss_cons (ps_set (i := 2) nd rfl (Or.inl rfl) (pe_op op_rep (pe_lst (pa_cons pe_bl pa_nil)) (pv 1)))
      (pss_cons (ps_set (i := 3) nd rfl (Or.inl rfl) (pe_tup pa_nil))
      (pss_cons (ps_for PassesOwn.never rfl (pi_enumT (by rfl) T.enumerate (pa_cons (pv 0) pa_nil)) (pg_tup rfl (pgs_cons (pg_name (i := 4) nd rfl (Or.inl rfl)) (pgs_cons (pg_name (i := 5) nd rfl (Or.inl rfl)) pgs_nil)))
        (pss_cons (ps_if (pt_mid (PW.pt (pw_or (pt_not (pt_val (pe_call GL hr rfl L.g L.kp L.b .nil pass0 (pa_cons (pv 5) (pa_cons (pv 1) pa_nil)))))
            (pw_or (pt_cmpR (op_leT hu0) (pv 5) (pv 3) (nomark _)) (pw_or (pt_val (pe_ix ix_list (pv 2) (pe_ix ix_tup (pv 5) pe_int (fun _ _ => rfl)) (fun _ _ => rfl))) (pw_or1 (pt_val (pe_ix ix_list (pv 2) (pe_ix ix_tup (pv 5) pe_int (fun _ _ => rfl)) (fun _ _ => rfl)))))))))
            (pss_one (ps_ret (pe_tup (pa_cons (pv 4) pa_nil)))) pss_nil)
        (pss_cons (ps_asg2 pe_bl (pg_sub (pv 2) (pe_ix ix_tup (pv 5) pe_int (fun _ _ => rfl)) set_list) (pg_sub (pv 2) (pe_ix ix_tup (pv 5) pe_int (fun _ _ => rfl)) set_list))
        (pss_one (ps_set (i := 3) nd rfl (Or.inl rfl) (pv 5))))))
      (pss_one (ps_ret (pe_ifExp (pt_val (pe_call GW hrW rfl W.g W.kp W.b .nil pass0 (pa_cons (pv 0) pa_nil))) pe_non (pe_tup (pa_cons (pe_callB call_len_seq (by rfl) T.len PySem.boot_len (pa_cons (pv 0) pa_nil)) pa_nil))))))))), ?_⟩
    rcases h with ⟨h, k⟩ | ⟨t, xs, os, rfl, ht, hc, hI, k1, k2⟩
    · refine ⟨fun b H' => b = true ∧ Same H H', ?_, ?_⟩
      · rcases h with ⟨ty, hv, hT⟩ | ⟨t, xs, rfl, ht, hc⟩
        · refine ⟨_, rfl, v, _, _, _, _, rfl, .ty _, hv.tyx, hv.kTup, _, rfl, ?_⟩
          rw [hT]
          exact iteT ⟨rfl, Same.refl H⟩
        · refine ⟨_, rfl, _, _, _, _, _, rfl, .ty _, (TV.tup ht).tyx, (TV.tup ht).kTup, _, rfl, ?_⟩
          refine iteF ⟨_, rfl, t, _, rfl, .inr (SqT.of ht), _, rfl, fun H' s' => ⟨_, rfl, ?_⟩⟩
          rw [hc]
          exact ⟨rfl, s'⟩
      · rintro b H' ⟨rfl, s'⟩
        exact iteT ⟨Nat.zero_le _, fun p hp => k _ p (s'.trans (Same.new hp)) upd_same⟩
    · have hcb : 2 ≤ xs.length ∧ xs.length ≤ 80 ∧ xs.length % 2 = 0 := by
        unfold canBe at hc
        simp only [Bool.and_eq_true, decide_eq_true_eq] at hc
        omega
      refine ⟨fun b H' => b = false ∧ Same H H', ?_, ?_⟩
      · refine ⟨_, rfl, _, _, _, _, _, rfl, .ty _, (TV.tup ht).tyx, (TV.tup ht).kTup, _, rfl, ?_⟩
        refine iteF ⟨_, rfl, t, _, rfl, .inr (SqT.of ht), _, rfl, fun H' s' => ⟨_, rfl, ?_⟩⟩
        rw [hc]
        exact ⟨rfl, s'⟩
      · rintro b H1 ⟨rfl, s1⟩
        have ht1 := s1 _ _ ht
        have e2 : (2 : Int) * (xs.length : Nat) = ((2 * xs.length : Nat) : Int) := by omega
        refine iteF ⟨_, rfl, t, _, rfl, .inr (SqT.of ht1), _, _, rfl, rfl, .inl ⟨by decide, by decide⟩, ?_⟩
        refine ⟨by show 1 ≤ sizeLine; decide, fun l1 hl1 => ⟨_, rfl, l1, ((2 * xs.length : Nat) : Int), _, rfl, (by show V.int ((2 : Int) * (xs.length : Nat)) = _; rw [e2]), upd_same, by omega, by omega, (by show 1 * _ ≤ _; exact Nat.le_of_lt (small1000 (by omega))), fun tk htk => ?_⟩⟩
        have eR : (List.replicate ((2 * xs.length : Nat) : Int).toNat [V.bl false]).flatten = (List.replicate (2 * xs.length) false).map V.bl := by
          rw [show ((2 * xs.length : Nat) : Int).toNat = 2 * xs.length by omega, List.map_replicate]
          exact flat_rep _ _
        have s2 := Same.new (o := .lst [V.bl false]) hl1
        have s3 := Same.new (o := .lst (List.replicate ((2 * xs.length : Nat) : Int).toNat [V.bl false]).flatten) htk
        refine ⟨Nat.zero_le _, fun a0 ha0 => ?_⟩
        have s4 := Same.new (o := .tup []) ha0
        have sA := s1.trans (s2.trans (s3.trans s4))
        have htk0 : H tk = none := (s1.trans s2).free htk
        have ntk : ∀ b o, H b = some o → b ≠ tk := fun b o e => ne_of_none e htk0
        refine ⟨_, rfl, t, _, rfl, SqT.of (sA _ _ ht), for_it (walk_enumT (K := K) (a := t) (xs := xs)) (fun i σ H2 => ∃ (ah : Addr) (bs : List Bool) (met : List Nat) (o : Option (Nat × Nat)) (v4 v5 : Option V),
            σ = [some (.ref t), some (.int ((2 : Int) * (xs.length : Nat))), some (.ref tk), some (.ref ah), v4, v5] ∧ Same H H2 ∧ H2 tk = some (.lst (bs.map V.bl)) ∧ bs.length = 2 * xs.length ∧ (∀ e, e < 2 * xs.length → bs[e]? = some (met.contains e)) ∧ AheadAt H2 ah o ∧ goF i met o (os.drop i) = goF 0 [] none os)
          ⟨a0, List.replicate (2 * xs.length) false, [], none, none, none, rfl, sA, ?_, List.length_replicate, fun e he => by rw [List.getElem?_replicate, if_pos he]; rfl, upd_same, rfl⟩ (fun i σ H2 _ ⟨_, _, _, _, _, _, _, s', _⟩ => SqT.of (s' _ _ ht)) ?_ ?_⟩
        · rw [← eR]
          exact s4 _ _ upd_same
        · rintro i x σ H2 H3 hi ⟨ah, bs, met, o, v4, v5, rfl, s5, htk2, hbl, hbs, hah, hgo⟩ ⟨T, x', y', rfl, hT, rfl, ex, ey⟩
          cases ex
          have s6 := Same.new (o := .tup [V.int (i : Nat), y']) hT
          obtain ⟨oi, hoi, hI1⟩ := hI.split ey
          have hdrop : os.drop i = oi :: os.drop (i + 1) := by
            obtain ⟨hlt, e⟩ := List.getElem?_eq_some_iff.mp hoi
            rw [List.drop_eq_getElem_cons hlt, e]
          rw [hdrop] at hgo
          refine ⟨T, _, rfl, SqT.of upd_same, rfl, _, _, rfl, _, _, rfl, rfl, ?_⟩
          have htk3 := s6 _ _ htk2
          have nn : ((2 : Int) * (xs.length : Nat)) = ((2 * xs.length : Nat) : Int) := e2
          have bad : goF i met o (oi :: os.drop (i + 1)) = some i → ∀ (H4 : Hp), Same H H4 → tRet (tTup (tCons (tVar 4) tNil)) { nx := fun _ H' => Q .non H', rt := Q } [some (.ref t), some (.int ((2 : Int) * (xs.length : Nat))), some (.ref tk), some (.ref ah), some (.int (i : Nat)), some y'] H4 := by
            intro hb H4 s7
            refine ⟨_, rfl, by show 1 ≤ sizeLine; decide, fun p hp => ?_⟩
            exact k1 i (hgo.symm.trans hb) _ p (s7.trans (Same.new hp)) upd_same
          have hI3 := (hI1.mono s5).mono s6
          cases oi with
          | none =>
            refine ⟨fun b H4 => b = true ∧ Same (upd H2 T (.tup [V.int (i : Nat), y'])) H4, ?_, ?_⟩
            · have key : ∀ Q' : Bool → Hp → Prop, Q' false (upd H2 T (.tup [V.int (i : Nat), y'])) → spIsLine [y', .int ((2 : Int) * (xs.length : Nat))] (upd H2 T (.tup [V.int (i : Nat), y'])) (fun v H' => ∃ c, v = .bl c ∧ Q' c H') E0 := by
                intro Q' q
                cases hI3 with
                | flat h1 h2 _ => exact ⟨_, _, rfl, .inl ⟨_, h1, h2, false, rfl, q⟩⟩
                | tup h1 h2 h3 _ =>
                  refine ⟨_, _, rfl, .inr ⟨_, _, rfl, h1, h2, false, ?_, q⟩⟩
                  rw [nn, h3]
              refine ⟨_, rfl, _, rfl, ?_⟩
              exact key _ (iteT ⟨rfl, Same.refl _⟩)
            · rintro b H4 ⟨rfl, s7⟩
              exact iteT (bad rfl H4 (s5.trans (s6.trans s7)))
          | some p =>
            cases hI3 with
            | @line a _ _ _ pa hlt hn _ =>
              have q1 : p.1 < 2 * xs.length := by omega
              have g1 := hbs p.1 q1
              have g2 := hbs p.2 hn
              have at1 : atI (bs.map V.bl) ((p.1 : Nat) : Int) = some (V.bl (met.contains p.1)) := at_of (j := p.1) rfl (by rw [List.getElem?_map, g1]; rfl)
              have at2 : atI (bs.map V.bl) ((p.2 : Nat) : Int) = some (V.bl (met.contains p.2)) := at_of (j := p.2) rfl (by rw [List.getElem?_map, g2]; rfl)
              refine ⟨fun b H4 => b = (notUp p o || met.contains p.1 || met.contains p.2) ∧ H4 = upd H2 T (.tup [V.int (i : Nat), V.ref a]), ?_, ?_⟩
              · have hline : lineB [V.int (p.1 : Nat), V.int (p.2 : Nat)] ((2 : Int) * (xs.length : Nat)) = true := by
                  show (decide (0 ≤ ((p.1 : Nat) : Int)) && decide (((p.1 : Nat) : Int) < (2 : Int) * (xs.length : Nat)) && (decide (0 ≤ ((p.2 : Nat) : Int)) && decide (((p.2 : Nat) : Int) < (2 : Int) * (xs.length : Nat))) && decide (((p.1 : Nat) : Int) < ((p.2 : Nat) : Int))) = true
                  simp only [Bool.and_eq_true, decide_eq_true_eq]
                  omega
                refine ⟨_, rfl, _, rfl, _, _, rfl, .inr ⟨a, _, rfl, pa, fun y hy => ?_, _, rfl, ?_⟩⟩
                · simp only [List.mem_cons, List.not_mem_nil, or_false] at hy
                  rcases hy with rfl | rfl <;> exact ⟨_, .int _⟩
                rw [hline]
                refine iteF ⟨_, rfl, _, rfl, a, ah, [(p.1 : Int), (p.2 : Int)], (match o with | none => [] | some q => [(q.1 : Int), (q.2 : Int)]), rfl, rfl, SqT.of pa, ?_, _, rfl, ?_⟩
                · cases o with
                  | none => exact SqT.of (s6 _ _ hah)
                  | some q => exact SqT.of (s6 _ _ hah)
                have ele : ∀ (R : Bool → Prop), R (notUp p o) → R (Ob.lexAt (fun j => decide (([(p.1 : Int), (p.2 : Int)] : List Int).getD j 0 = ((match o with | none => [] | some q => [(q.1 : Int), (q.2 : Int)]) : List Int).getD j 0)) (fun j => decide (([(p.1 : Int), (p.2 : Int)] : List Int).getD j 0 ≤ ((match o with | none => [] | some q => [(q.1 : Int), (q.2 : Int)]) : List Int).getD j 0)) (decide (([(p.1 : Int), (p.2 : Int)] : List Int).length ≤ ((match o with | none => [] | some q => [(q.1 : Int), (q.2 : Int)]) : List Int).length)) 0 (min ([(p.1 : Int), (p.2 : Int)] : List Int).length ((match o with | none => [] | some q => [(q.1 : Int), (q.2 : Int)]) : List Int).length)) := by
                  intro R r
                  cases o with
                  | none => exact r
                  | some q =>
                    have := le_some p q
                    rw [this]
                    exact r
                refine ele (fun c => if c = true then _ else _) ?_
                refine ite2 (fun hu => ?_) (fun hu => ?_)
                · exact ⟨by rw [hu]; rfl, rfl⟩
                · have hu := Bool.eq_false_iff.mpr hu
                  refine ⟨_, rfl, _, rfl, a, _, _, _, rfl, rfl, SqT.of pa, rfl, tk, _, _, _, rfl, rfl, SqL.of htk3, at1, _, rfl, ?_⟩
                  refine ite2 (fun h1 => ?_) (fun h1 => ?_)
                  · exact ⟨by rw [hu, h1]; rfl, rfl⟩
                  · have h1 := Bool.eq_false_iff.mpr h1
                    refine ⟨_, rfl, _, rfl, a, _, _, _, rfl, rfl, SqT.of pa, rfl, tk, _, _, _, rfl, rfl, SqL.of htk3, at2, _, rfl, ?_, rfl⟩
                    rw [hu, h1]
                    rfl
              · rintro b H4 ⟨rfl, rfl⟩
                refine ite2 (fun hb => ?_) (fun hb => ?_)
                · refine bad ?_ _ (s5.trans s6)
                  show (if (notUp p o || met.contains p.1 || met.contains p.2) = true then some i else _) = some i
                  rw [if_pos hb]
                · have hgo2 : goF (i + 1) (met ++ [p.1, p.2]) (some p) (os.drop (i + 1)) = goF 0 [] none os := by
                    rw [← hgo]
                    show _ = (if (notUp p o || met.contains p.1 || met.contains p.2) = true then some i else _)
                    rw [if_neg hb]
                  have setB : ∀ (r : List Bool) (j : Nat), (r.map V.bl).set j (V.bl true) = (r.set j true).map V.bl := fun r j => (List.map_set).symm
                  have ntt : tk ≠ T := ne_of_none htk2 hT
                  refine ⟨_, rfl, _, rfl, a, _, _, _, rfl, rfl, SqT.of pa, rfl, tk, _, _, p.1, rfl, rfl, htk3, ix_nat (by rw [List.length_map, hbl]; exact q1), ?_⟩
                  rw [setB]
                  have w1 : ∀ b u, H b = some u → (upd (upd H2 T (.tup [V.int (i : Nat), V.ref a])) tk (.lst ((bs.set p.1 true).map V.bl))) b = some u := fun b u e => (upd_ne (ntk _ _ e)).trans (s6 _ _ (s5 _ _ e))
                  have kt : ∀ b zs, (upd H2 T (.tup [V.int (i : Nat), V.ref a])) b = some (.tup zs) → b ≠ tk := fun b zs e => ne_of e htk3 (by intro z; cases z)
                  have pa4 : PAt (upd (upd H2 T (.tup [V.int (i : Nat), V.ref a])) tk (.lst ((bs.set p.1 true).map V.bl))) a p := (upd_ne (kt _ _ pa)).trans pa
                  refine ⟨_, rfl, _, rfl, a, _, _, _, rfl, rfl, SqT.of pa4, rfl, tk, _, _, p.2, rfl, rfl, upd_same, ix_nat (by rw [List.length_map, List.length_set, hbl]; exact hn), ?_⟩
                  rw [setB]
                  refine ⟨_, rfl, a, (bs.set p.1 true).set p.2 true, met ++ [p.1, p.2], some p, _, _, rfl, fun b u e => (upd_ne (ntk _ _ e)).trans (w1 b u e), upd_same, by rw [List.length_set, List.length_set]; exact hbl, fun e he => ?_, (upd_ne (kt _ _ pa)).trans pa4, hgo2⟩
                  have cm : (met ++ [p.1, p.2]).contains e = (met.contains e || decide (e = p.1) || decide (e = p.2)) := by
                    rw [Bool.eq_iff_iff]
                    simp [or_assoc]
                  rw [cm]
                  by_cases e2' : p.2 = e
                  · subst e2'
                    rw [List.getElem?_set_self (by rw [List.length_set, hbl]; exact he)]
                    simp
                  · rw [List.getElem?_set_ne e2']
                    by_cases e1' : p.1 = e
                    · subst e1'
                      rw [List.getElem?_set_self (by rw [hbl]; exact he)]
                      simp
                    · rw [List.getElem?_set_ne e1', hbs e he, decide_eq_false (fun z => e1' z.symm), decide_eq_false (fun z => e2' z.symm), Bool.or_false, Bool.or_false]
        · rintro σ H2 ⟨ah, bs, met, o, v4, v5, rfl, s5, htk2, hbl, hbs, hah, hgo⟩
          rw [hI.len, List.drop_length] at hgo
          have hno : goF 0 [] none os = none := hgo.symm
          have hos := goF_pairs os 0 [] none hno
          generalize os.filterMap id = ps at hos
          subst hos
          obtain ⟨k3, k4⟩ := k2 hno ps rfl
          obtain ⟨as, rfl, hP, hlt⟩ := hI.pairs
          have hla : as.length = ps.length := hP.len
          have nl : (refs as).length = as.length := List.length_map _
          refine ⟨_, rfl, t, (refs as).length / 2, as, ps, rfl, s5 _ _ ht, hP.mono (sameT s5), ⟨by omega, by omega, fun p hp => ?_⟩, by omega, fun H4 b s6 hb => ⟨b, rfl, ?_⟩⟩
          · have := hlt p hp
            omega
          cases b with
          | true => exact iteT (k3 (hb.mp rfl) _ (s5.trans s6))
          | false =>
            have ht4 := s6 _ _ (s5 _ _ ht)
            refine iteF ⟨_, rfl, t, _, rfl, .inr (SqT.of ht4), by show 1 ≤ sizeLine; decide, fun p hp => ?_⟩
            exact k4 (fun hw => by cases hb.mpr hw) _ p (s5.trans (s6.trans (Same.new hp))) upd_same
end
end One
end P_E6

section P_G1
set_option linter.all false
set_option maxRecDepth 100000
set_option maxHeartbeats 4000000
namespace One
open PySem PySem.Spec PyProof.Rows L2
/-! ### promises for runs in which nothing is being shown -/
structure FnG (P : Program) (w : World) (K : PySem.W.Frag) (mg : Str → Option Value) (base : Heap) (CX : CXT) (k : Nat) (f : Addr) (fd : FuncData) (ps : List Str) (sp : Sp) : Prop where
  len : ∀ vs H Q E, sp vs H Q E → vs.length = ps.length
  go : ∀ (A : Around) (outer : List Env) (s : Shared) (H : Hp) (args : Args) (us : List Value) (vs : List V) (Q : VK) (E : XK), A.guards = some [] → Room k A → Env0 P w K mg base A outer s H →
    BindsTo s fd args (ps.zip us) → Vals vs us → sp vs H Q E → codeAny (model P w) A (.call (.ref f) args) (CR CX outer P w H s Q E) s
theorem FnG.of {P : Program} {w : World} {K : PySem.W.Frag} {mg : Str → Option Value} {base : Heap} {CX : CXT} {k : Nat} {f : Addr} {fd : FuncData} {ps : List Str} {sp : Sp} (F : FnOk P w K mg base CX k f fd ps sp) : FnG P w K mg base CX k f fd ps sp :=
  ⟨F.len, fun A outer s H args us vs Q E _ => F.run A outer s H args us vs Q E⟩
theorem FnG.mono {P : Program} {w : World} {K : PySem.W.Frag} {mg : Str → Option Value} {base : Heap} {CX : CXT} {j k : Nat} {f : Addr} {fd : FuncData} {ps : List Str} {sp : Sp} (F : FnG P w K mg base CX j f fd ps sp) (h : j ≤ k) : FnG P w K mg base CX k f fd ps sp :=
  ⟨F.len, fun A outer s H args us vs Q E hg hr => F.go A outer s H args us vs Q E hg (hr.mono h)⟩
section
variable {P : Program} {w : World} {K : PySem.W.Frag} {mg : Str → Option Value} {base : Heap}
/-- a def by its body -/
theorem okG {CX : CXT} {x qual : Str} {st : Stmt} {f : Addr} {fd : FuncData} {N ps : List Str} {k : Nat} {sp : Sp} (F : Fun K x qual st f fd) (S : FnScope N ps (defScope st)) (len : ∀ vs H Q E, sp vs H Q E → vs.length = ps.length)
    (body : ∀ (cdv : Value) (A : Around) (outer : List Env) (s : Shared) (H : Hp) (vs : List V) (Q : VK) (E : XK), A.guards = some [] → Room k (A.deeper (envOfC qual (defScope st) s.heap.objs.size f cdv)) → sp vs H Q E →
      ∃ t, PSs (cxOf CX P w K mg base N qual (defScope st) f cdv A outer s H E) (defBody st) t ∧ t { nx := fun _ H' => Q .non H', rt := Q } (start N vs) H) : FnG P w K mg base CX (k + 1) f fd ps sp := by
  obtain ⟨oc, od, kV, doc, pm, an, cdv, ct, osl, rfl, lk, hcd⟩ := F.ex
  exact ⟨len, fun A outer s H args us vs Q E hg hr e0 hb r hs => LamX.run_ofS lk hcd S hr e0 hb r (len _ _ _ _ hs) fun hr1 => body cdv A outer s H vs Q E hg hr1 hs⟩
/-- .. that lets nothing out -/
theorem okG0 {x qual : Str} {st : Stmt} {f : Addr} {fd : FuncData} {N ps : List Str} {k : Nat} {sp : Sp} (F : Fun K x qual st f fd) (S : FnScope N ps (defScope st)) (len : ∀ vs H Q E, sp vs H Q E → vs.length = ps.length)
    (body : ∀ (cdv : Value) (A : Around) (outer : List Env) (s : Shared) (H : Hp) (vs : List V) (Q : VK) (E : XK), A.guards = some [] → Room k (A.deeper (envOfC qual (defScope st) s.heap.objs.size f cdv)) → sp vs H Q E →
      ∃ t, PSs (cxOf CX0 P w K mg base N qual (defScope st) f cdv A outer s H E).nox (defBody st) t ∧ t { nx := fun _ H' => Q .non H', rt := Q } (start N vs) H) : FnG P w K mg base CX0 (k + 1) f fd ps sp :=
  okG F S len fun cdv A outer s H vs Q E hg hr hs => let ⟨t, h, q⟩ := body cdv A outer s H vs Q E hg hr hs; ⟨t, h.nox, q⟩
end
section
variable {X : Cx} {CX : CXT} {k : Nat} {f : Addr} {fd : FuncData} {ps : List Str} {sp : Sp} {dvs : List V} {ds : List Value} {E : XK} {x : Str} {p pos : Pos} {e : Expr} {es : List Expr} {t : TA}
theorem goG {pins : List (Addr × Obj)} {σ : L2.St} {H : Hp} {s : Shared} {Q : VK} {us : List Value} {vs : List V} (F : FnG X.prog X.w X.K X.mg X.base CX k f fd ps sp) (hgd : X.A.guards = some []) (hr : Room k X.A) (hb : Binds X.K fd ps ds) (hd : Vals dvs ds)
    (hx : Passes CX X E) (I : Inv X pins σ H s) (r : Vals vs us) (h : sp (vs ++ dvs) H Q E) : wpAny (model X.prog X.w) X.A (call (.ref f) us) (EP X pins σ Q) X.xe s := by
  have r2 := r.append hd
  have hl : (us ++ ds).length = ps.length := r2.length.symm.trans (F.len _ _ _ _ h)
  refine wpAny_call (codeAny_mono (F.go X.A X.stack s H ⟨us, []⟩ _ _ Q E hgd hr I.env0 (hb s us I.kIn hl) r2 h) fun r s' hq => ?_)
  match r, hq with
  | .error e, hq => exact hx pins σ H s e s' I hq
  | .ok (.ret u), hq => exact I.after hq
  | .ok .next, hq => exact hq.elim
  | .ok .brk, hq => exact hq.elim
  | .ok .cont, hq => exact hq.elim
theorem pe_callG (F : FnG X.prog X.w X.K X.mg X.base CX k f fd ps sp) (hgd : X.A.guards = some []) (hr : Room k X.A) (hg : Gl X x) (hm : X.mg x = some (.ref f)) (hk : PySem.W.keepIn X.K (.ref f) = true) (hb : Binds X.K fd ps ds) (hd : Vals dvs ds) (hx : Passes CX X E)
    (ha : PA X (e :: es) t) (hdb : (x == ("__debug__" : Str)) = false := by decide) (he : starEach (e :: es) X.env = (false, eval e X.env) :: starEach es X.env := by rfl) (hpl : (backTo pos (starEach es X.env)).any (·.1) = false := by rfl) : PE X (.Call (.Name x p) (e :: es) [] pos) (tCall sp dvs E t) := by
  refine ⟨fun pins s σ H Q I h => wpAny_Call_Name_kw (ld_glob I hg hm ?_ hdb)⟩
  exact PySem.W.callWith_K (h₀ := X.base) I.ok.mod.kin hk (thn (ha.run pos pins s σ H _ I h) fun us s1 ⟨vs, H1, I1, r, q⟩ => ⟨I1.kIn, goG F hgd hr hb hd hx I1 r q⟩) he hpl
/-- repr(..) of a list or a tuple, at any depth -/
theorem call_repr_data (hgd : X.A.guards = some []) (hu : X.A.units + 64 < cLine) : CallR X (.builtin "repr") (fun xs H Q => ∃ (a : Addr) (d : PyData), xs = [.ref a] ∧ Dp X.K H (.ref a) d ∧ d.showable = true ∧ d.hasDict = false ∧ d.depth ≤ 16 ∧ d.shown.length ≤ sizeLine ∧ Q (.str d.shown) H) := by
  intro pins s σ H xs us Q I r h
  obtain ⟨a, d, rfl, hd, h1, h2, h3, h4, q⟩ := h
  obtain ⟨u, rfl, e⟩ := vals1 r
  cases e
  obtain ⟨as, hR⟩ := Dp.reads I d _ _ hd rfl
  exact repr_of_reads' hR h1 (fun z => Bool.noConfusion (h2.symm.trans z)) hgd (by omega) (fun _ _ e => e) (fun h' u tk hk => ⟨.str d.shown, H, I.kept hk, ⟨_, rfl⟩, q⟩) h4
end
end One
end P_G1

section P_G2
set_option linter.all false
set_option maxRecDepth 100000
set_option maxHeartbeats 4000000
namespace One
open PySem PySem.Spec PyProof.Rows L2
/-! ### a tuple of pairs, as data -/
def prD (p : Nat × Nat) : PyData := .tuple [.int (p.1 : Nat), .int (p.2 : Nat)]
def yd (ps : List (Nat × Nat)) : PyData := .tuple (ps.map prD)
theorem dp_pair {K : PySem.W.Frag} {H : Hp} {a : Addr} {p : Nat × Nat} (h : PAt H a p) : Dp K H (.ref a) (prD p) := .tup (SqT.of h) (.cons (.int _) (.cons (.int _) .nil))
theorem dp_pairs {K : PySem.W.Frag} {H : Hp} {as : List Addr} {ps : List (Nat × Nat)} (h : PL H as ps) : DpAll K H (refs as) (ps.map prD) := by
  induction h with
  | nil => exact .nil
  | cons h1 _ ih => exact .cons (dp_pair h1) ih
theorem dp_yd {K : PySem.W.Frag} {H : Hp} {t : Addr} {as : List Addr} {ps : List (Nat × Nat)} (ht : H t = some (.tup (refs as))) (h : PL H as ps) : Dp K H (.ref t) (yd ps) := .tup (SqT.of ht) (dp_pairs h)
theorem int_short : ∀ n : Nat, n < 1000 → (PyData.shown (.int (n : Nat))).length ≤ 8 := by
  have h : ∀ n : Fin 1000, (PyData.shown (.int ((n : Nat) : Int))).length ≤ 8 := by decide +kernel
  exact fun n hn => h ⟨n, hn⟩
theorem log_small {n : Nat} (h : n < 1000) : n.log2 < 1920 := by
  by_cases h0 : n = 0
  · subst h0; decide
  · exact (Nat.log2_lt h0).mpr (Nat.lt_of_lt_of_le h (Nat.le_trans (by decide : 1000 ≤ 2 ^ 10) (Nat.pow_le_pow_right (by decide) (by decide))))
theorem yd_all : ∀ ps : List (Nat × Nat), (∀ p ∈ ps, p.1 < 1000 ∧ p.2 < 1000) → PyData.showableAll (ps.map prD) = true ∧ PyData.hasDictAll (ps.map prD) = false ∧ PyData.depthAll (ps.map prD) ≤ 1 ∧ PyData.leavesShortAll 8 (ps.map prD) = true ∧ PyData.bulkAll (ps.map prD) = 3 * ps.length
  | [], _ => ⟨rfl, rfl, Nat.zero_le _, rfl, rfl⟩
  | p :: r, h => by
    obtain ⟨h1, h2, h3, h4, h5⟩ := yd_all r fun q m => h q (List.mem_cons_of_mem _ m)
    obtain ⟨q1, q2⟩ := h p (List.mem_cons_self ..)
    have a1 : PyData.showable (prD p) = true := by
      show (decide (((p.1 : Nat) : Int).natAbs.log2 < 1920) && (decide (((p.2 : Nat) : Int).natAbs.log2 < 1920) && true)) = true
      simp only [Int.natAbs_natCast, Bool.and_eq_true, decide_eq_true_eq, and_true]
      exact ⟨log_small q1, log_small q2⟩
    have a4 : PyData.leavesShort 8 (prD p) = true := by
      show (decide (_ ≤ 8) && (decide (_ ≤ 8) && true)) = true
      simp only [Bool.and_eq_true, decide_eq_true_eq, and_true]
      exact ⟨int_short _ q1, int_short _ q2⟩
    refine ⟨?_, ?_, ?_, ?_, ?_⟩
    · show (PyData.showable (prD p) && PyData.showableAll _) = true
      rw [a1, h1]; rfl
    · show (PyData.hasDict (prD p) || PyData.hasDictAll _) = false
      rw [h2]; rfl
    · show max (PyData.depth (prD p)) (PyData.depthAll _) ≤ 1
      exact Nat.max_le.mpr ⟨Nat.le_refl 1, h3⟩
    · show (PyData.leavesShort 8 (prD p) && PyData.leavesShortAll 8 _) = true
      rw [a4, h4]; rfl
    · show PyData.bulk (prD p) + 1 + PyData.bulkAll _ = _
      rw [h5]
      show 0 + 1 + (0 + 1 + 0) + 1 + 3 * r.length = 3 * (r.length + 1)
      omega
theorem yd_fine {ps : List (Nat × Nat)} (h : ∀ p ∈ ps, p.1 < 1000 ∧ p.2 < 1000) (hl : ps.length ≤ 1000) : (yd ps).showable = true ∧ (yd ps).hasDict = false ∧ (yd ps).depth ≤ 16 ∧ (yd ps).shown.length ≤ sizeLine := by
  obtain ⟨h1, h2, h3, h4, h5⟩ := yd_all ps h
  refine ⟨h1, h2, ?_, ?_⟩
  · show PyData.depthAll _ + 1 ≤ 16
    omega
  · have q := PyData.shown_le_bulk 8 (Nat.le_refl _) (yd ps) h4
    have e : (yd ps).bulk = 3 * ps.length := h5
    rw [e] at q
    have : (40000 : Nat) ≤ sizeLine := by decide
    omega
def rRepr (K : PySem.W.Frag) : List V → Hp → VK → Prop := fun xs H Q => ∃ (a : Addr) (d : PyData), xs = [.ref a] ∧ Dp K H (.ref a) d ∧ d.showable = true ∧ d.hasDict = false ∧ d.depth ≤ 16 ∧ d.shown.length ≤ sizeLine ∧ Q (.str d.shown) H
/-- repr(..) of a tuple of pairs -/
theorem repr_yd {K : PySem.W.Frag} {H : Hp} {t : Addr} {as : List Addr} {ps : List (Nat × Nat)} {Q : VK} (ht : H t = some (.tup (refs as))) (hp : PL H as ps) (h : ∀ p ∈ ps, p.1 < 1000 ∧ p.2 < 1000) (hl : ps.length ≤ 1000) (q : Q (.str (yd ps).shown) H) : rRepr K [.ref t] H Q := by
  obtain ⟨h1, h2, h3, h4⟩ := yd_fine h hl
  exact ⟨t, _, rfl, dp_yd ht hp, h1, h2, h3, h4, q⟩
theorem cr_repr {X : Cx} (hgd : X.A.guards = some []) (hu : X.A.units + 64 < cLine) : CallR X (.builtin "repr") (rRepr X.K) := call_repr_data hgd hu
end One
end P_G2

section P_G3
set_option linter.all false
set_option maxRecDepth 100000
set_option maxHeartbeats 4000000
namespace One
open PySem PySem.Spec PyProof.Rows L2
/-- the one call of a law that has lambdas: cs, its code objects with their tables -/
theorem law_goesT {P : Program} {w : World} {K : PySem.W.Frag} {mg mb : Str → Option Value} {CX : CXT} {k : Nat} {fa a : Addr} {cs : List (Addr × Addr)} {fd : FuncData} {x : Str} {sp : Sp} {s : Shared} {vs : List Value} {ns : List Int} (inK : K.In s.heap) (nsm : s.heap.Ns mainGlobals mg)
    (nsb : s.heap.Ns builtinsNs mb) (boot : ∀ y : Str, y ≠ "__name__" → mb y = bootBuiltins y) (nolim : s.heap.NoLimit) (nogen : s.gens = #[]) (tab : ∀ p ∈ cs, s.heap.get? p.2 = some { cls := .none, data := .fields #[] }) (ntab : ∀ p ∈ cs, K.lookup p.2 = none) (heads : ∀ p ∈ cs, PySem.W.CodeHd s.heap p.1 p.2)
    (blt : ∃ (bm : Addr) (ob : Obj), mg "__builtins__" = some (.ref bm) ∧ bm ≠ builtinsNs ∧ s.heap.get? bm = some ob ∧ ob.cls = .type "module" ∧ ob.dict = some builtinsNs ∧ ob.data = .plain) (ha : s.heap.get? a = some { cls := .type "list", data := .seq vs.toArray }) (hi : IntsAre vs ns) (hl : ns.length ≤ sizeLine)
    (hr : Room k callerA) (F : ∀ base : Heap, K.In base → base.Ns mainGlobals mg → (∀ p ∈ cs, LamX.TabB base mg p.1 p.2) → FnG P w K mg base CX k fa fd [x] sp) (bind : ∀ (s : Shared) (u : Value), BindsTo s fd ⟨[u], []⟩ [(x, u)])
    (hsp : ∀ H : Hp, (∀ p ∈ cs, H p.2 = some (.tbl #[])) → SqL K H a (ns.map V.int) → sp [.ref a] H (fun v _ => v = .bl true) fun _ _ _ => False) (none_out : ∀ H e s', CX [] H s (fun _ _ _ => False) e s' → False) :
    codeAny (model P w) callerA (.call (.ref fa) ⟨[.ref a], []⟩) (fun r s' => r = .ok (.ret (.bool true)) ∧ OldK s.heap s'.heap ∧ s'.os = s.os ∧ AllBare s'.gens) s := by
  have rv := vals_ints hi
  have hlen := hi.length
  have isT : ∀ {b : Addr}, b ∈ cs.map (·.2) → s.heap.get? b = some { cls := .none, data := .fields #[] } := fun {b} hb => by
    obtain ⟨p, hp, e⟩ := List.mem_map.mp hb
    exact e ▸ tab p hp
  have toT : ∀ {p}, p ∈ cs → p.2 ∈ cs.map (·.2) := fun {p} hp => List.mem_map.mpr ⟨p, hp, rfl⟩
  have aT : a ∉ cs.map (·.2) := fun z => Data.noConfusion (show Data.seq vs.toArray _ = Data.fields #[] from congrArg Obj.data (Option.some.inj (ha.symm.trans (isT z))))
  have main : ∀ H : Hp, (∀ b ∈ cs.map (·.2), H b = some (.tbl #[])) → (∀ b u, H b = some u → (b ∈ cs.map (·.2) ∧ u = .tbl #[]) ∨ (b = a ∧ K.lookup a = none ∧ u = .frz { cls := .type "list", data := .seq vs.toArray } (.lst (ns.map V.int)))) → SqL K H a (ns.map V.int) →
      codeAny (model P w) callerA (.call (.ref fa) ⟨[.ref a], []⟩) (fun r s' => r = .ok (.ret (.bool true)) ∧ OldK s.heap s'.heap ∧ s'.os = s.os ∧ AllBare s'.gens) s := by
    intro H hT inv hS
    have ok : HOk P w H s.heap := fun b u e => by
      rcases inv b u e with ⟨hb, rfl⟩ | ⟨rfl, _, rfl⟩
      · exact isT hb
      · exact ⟨ha, by rw [List.length_map]; exact hl, vs, _, rv, ha⟩
    have put : ∀ {b : Addr} {o : Obj}, s.heap.get? b = some o → H b = none → (hidT s.heap H).get? b = some o := fun e n => hidT_get e n
    have free : ∀ {b : Addr} {o : Obj}, s.heap.get? b = some o → (∀ us n, o.data ≠ .seq us n) → o.data ≠ .fields #[] → H b = none := fun {b o} e h1 h2 => by
      match q : H b with
      | none => rfl
      | some u =>
        rcases inv b u q with ⟨hb, _⟩ | ⟨rfl, _, _⟩
        · cases (isT hb).symm.trans e
          exact (h2 rfl).elim
        · cases ha.symm.trans e
          exact (h1 _ _ rfl).elim
    have nsH : ∀ {b : Addr} {m : Str → Option Value}, s.heap.Ns b m → (hidT s.heap H).Ns b m := fun ⟨o, es, ep, e, d, r⟩ => ⟨o, es, ep, put e (free e (fun us n z => by cases d.symm.trans z) (fun z => by cases d.symm.trans z)), d, r⟩
    have inH : K.In (hidT s.heap H) := fun b o e => put (inK b o e) (by
      match q : H b with
      | none => rfl
      | some u =>
        rcases inv b u q with ⟨hb, _⟩ | ⟨rfl, z, _⟩
        · obtain ⟨p, hp, rfl⟩ := List.mem_map.mp hb
          cases (ntab p hp).symm.trans e
        · cases z.symm.trans e)
    obtain ⟨mc, n1, n2⟩ := nolim
    have tabB : ∀ p ∈ cs, LamX.TabB (hidT s.heap H) mg p.1 p.2 := fun p hp => by
      have hTp := tab p hp
      obtain ⟨og, es, ep, eg, dg, _⟩ := nsm
      refine ⟨?_, ?_, fun z => ?_⟩
      · obtain ⟨o, us, file, tf, flags, tg, inF, text, tt, e1, r1, r2, r3, rest⟩ := heads p hp
        refine ⟨o, us, file, tf, flags, tg, inF, text, tt, put e1 (free e1 (fun vs n z => by cases r2.symm.trans z) (fun z => ?_)), r1, r2, r3, rest⟩
        have z' : us = #[] := Data.fields.inj (r2.symm.trans z)
        rw [z'] at r3
        simp at r3
      · obtain ⟨bm, ob, b1, b2, b3, b4, b5, b6⟩ := blt
        refine ⟨bm, ob, b1, b2, fun q => ?_, fun q => ?_, put b3 (free b3 (fun vs n z => by cases b6.symm.trans z) (fun z => by cases b6.symm.trans z)), b4, b5, b6⟩
        · cases (q ▸ b3 : s.heap.get? mainGlobals = some ob).symm.trans eg
          cases b6.symm.trans dg
        · cases (q ▸ b3 : s.heap.get? p.2 = some ob).symm.trans hTp
          cases b6
      · cases (z ▸ hTp : s.heap.get? mainGlobals = _).symm.trans eg
        cases dg
    have env : Env0 P w K mg (hidT s.heap H) callerA [] s H := ⟨rfl, ⟨inH, nsH nsm, ⟨mb, nsH nsb, boot⟩, ⟨mc, nsH n1, n2⟩⟩, fun b o e => of_hidT e, Nat.le_of_eq (hidT_size _ _), trivial, fun b hb => absurd (show b ∈ ([] : List Addr) from hb) List.not_mem_nil, ok, .of_eq nogen⟩
    refine codeAny_mono ((F _ inH (nsH nsm) tabB).go callerA [] s H ⟨[.ref a], []⟩ [.ref a] [.ref a] _ _ rfl hr env (bind s (.ref a)) (.cons rfl .nil) (hsp H (fun p hp => hT _ (toT hp)) hS)) fun r s' h => ?_
    match r, h with
    | .error e, h => exact (none_out H e s' h).elim
    | .ok .next, h => exact h.elim
    | .ok .brk, h => exact h.elim
    | .ok .cont, h => exact h.elim
    | .ok (.ret u), ⟨v, H', os, bare, un, ok', rel, q⟩ =>
      cases (show v = .bl true from q)
      cases (show u = Value.bool true from rel)
      have key : ∀ b o, b ∉ cs.map (·.2) → s.heap.get? b = some o → s'.heap.get? b = some o := fun b o nb e => by
        match q : H b with
        | none => exact un.keep b o e q (fun z => absurd (show b ∈ ([] : List Addr) from z) List.not_mem_nil) (fun z => absurd z List.not_mem_nil)
        | some u =>
          rcases inv b u q with ⟨hb, _⟩ | ⟨rfl, _, rfl⟩
          · exact absurd hb nb
          · obtain ⟨e2, _⟩ := ok' b _ (un.frzs b _ _ q)
            cases ha.symm.trans e
            exact e2
      have more : ∀ p ∈ cs, ∃ m : Array Value, s'.heap.get? p.2 = some { cls := .none, data := .fields m } := fun p hp => let ⟨m, z⟩ := un.tbls p.2 #[] (hT _ (toT hp)); ⟨_, ok' p.2 _ z⟩
      refine ⟨rfl, ⟨fun b o e => ?_, fun b o e => ?_⟩, os, bare⟩
      · rcases Classical.em (b ∈ cs.map (·.2)) with hb | hb
        · obtain ⟨p, hp, rfl⟩ := List.mem_map.mp hb
          obtain ⟨m, hm⟩ := more p hp
          cases (tab p hp).symm.trans e
          exact .inr (.inl ⟨((heads p hp).tab (tab p hp)).isCodeTable, rfl, #[], m, rfl, by rw [Array.empty_append]; exact hm⟩)
        · exact .inl (key b o hb e)
      · rcases Classical.em (b ∈ cs.map (·.2)) with hb | hb
        · obtain ⟨p, hp, rfl⟩ := List.mem_map.mp hb
          obtain ⟨m, hm⟩ := more p hp
          exact ⟨_, hm⟩
        · exact ⟨o, key b o hb e⟩
  match hk : K.lookup a with
  | some o =>
    cases ha.symm.trans (inK a o hk)
    refine main (fun b => if b ∈ cs.map (·.2) then some (.tbl #[]) else none) (fun b hb => if_pos hb) (fun b u z => ?_) (.inr ⟨_, vs.toArray, _, hk, rfl, rfl, rfl, by rw [List.size_toArray, hlen]; exact hl, by simpa using rv⟩)
    rcases Classical.em (b ∈ cs.map (·.2)) with hb | hb
    · exact .inl ⟨hb, (Option.some.inj ((if_pos hb).symm.trans z)).symm⟩
    · cases (if_neg hb).symm.trans z
  | none =>
    refine main (fun b => if b ∈ cs.map (·.2) then some (.tbl #[]) else if b = a then some (.frz { cls := .type "list", data := .seq vs.toArray } (.lst (ns.map V.int))) else none) (fun b hb => if_pos hb) (fun b u z => ?_) (.inl (.inr ⟨{ cls := .type "list", data := .seq vs.toArray }, (if_neg aT).trans (if_pos rfl)⟩))
    rcases Classical.em (b ∈ cs.map (·.2)) with hb | hb
    · exact .inl ⟨hb, (Option.some.inj ((if_pos hb).symm.trans z)).symm⟩
    · have z1 := (if_neg hb).symm.trans z
      rcases Classical.em (b = a) with e | e
      · exact .inr ⟨e, hk, (Option.some.inj ((if_pos e).symm.trans z1)).symm⟩
      · cases (if_neg e).symm.trans z1
/-- what is known of the law's promise behind its top -/
def LawG (l : PySem.W.OpenLaw) (w : World) (K : PySem.W.Frag) (CX : CXT) (k n : Nat) (x : Str) (mg : Str → Option Value) (fa : Addr) (h : Heap) : Prop :=
  ∃ (fd : FuncData) (cs : List (Addr × Addr)) (sp : Sp), (∀ y ∈ cs, h.get? y.2 = some { cls := .none, data := .fields #[] }) ∧ (∀ y ∈ cs, K.lookup y.2 = none) ∧ (∀ y ∈ cs, PySem.W.CodeHd h y.1 y.2) ∧ (∀ (s : Shared) (u : Value), BindsTo s fd ⟨[u], []⟩ [(x, u)]) ∧
    (∀ (H : Hp) (a : Addr) (ns : List Int), ns.length ≤ n → (∀ z ∈ ns, Builtin.Int.intBits z ≤ 1048576) → (∀ y ∈ cs, H y.2 = some (.tbl #[])) → SqL K H a (ns.map V.int) → sp [.ref a] H (fun v _ => v = .bl true) fun _ _ _ => False) ∧
    (∀ base : Heap, K.In base → base.Ns mainGlobals mg → (∀ p ∈ cs, LamX.TabB base mg p.1 p.2) → FnG l.prog w K mg base CX k fa fd [x] sp)
theorem walkGT {l : PySem.W.OpenLaw} {n k : Nat} {q : Program} {loose : List Str} {XP : (Str → Option Value) → Heap → Prop} {YP : World → Heap → Prop} {d : DefRec} {K : Params → PySem.W.Frag} {CX : World → CXT} {x : Str} (hn : l.most = some n) (small : n ≤ sizeLine) (nodef : d.params.defaults = []) (hr : Room k callerA)
    (inY : ∀ (w : World) (h : Heap), YP w h → (K w.params).In h) (F : ∀ (w : World) (mg : Str → Option Value) (fa : Addr) (h : Heap), YP w h → (K w.params).In h → h.Ns mainGlobals mg → mg d.name = some (.ref fa) → LawG l w (K w.params) (CX w) k n x mg fa h)
    (none_out : ∀ (w : World) (H : Hp) (s : Shared) (e : Value) (s' : Shared), CX w [] H s (fun _ _ _ => False) e s' → False) : PySem.W.WalkO q loose XP YP l.row.toRowW d [] (fun f vs => PySem.call f vs) := by
  refine Att.attach_callB hn nodef fun w s0 s1 mg mb fa o pm cd doc a vs ns G Y ho hd hcd hmg hobj hints hlen hbits hg => ?_
  obtain ⟨fd, cs, sp, hT, nT, C, hb, hsp, hF⟩ := F w mg fa _ Y (inY w _ Y) G.T.g hmg
  exact law_goesT (inY w _ Y) G.T.g G.T.b G.T.builtins G.T.nolimit hg hT nT C G.T.bmain hobj hints (Nat.le_trans hlen small) hr hF hb (fun H hH hS => hsp H a ns hlen hbits hH hS) fun H e s' => none_out w H s1 e s'
end One
end P_G3

section P_X1
set_option linter.all false
set_option maxRecDepth 100000
set_option maxHeartbeats 4000000
/-! An own exception, some way below ValueError, whose __init__ says super().__init__(f'..{f}'); self.f = f -/
namespace One
open PySem PySem.W PySem.Calls PyProof.Rows PySem.HandSPX L2
def xA (fld : Str) (p1 p2 : Pos) : Arguments := { posonlyargs := [], args := [{ arg := "self", annotation := none, pos := p1 }, { arg := fld, annotation := none, pos := p2 }], vararg := none, kwonlyargs := [], kw_defaults := [], kwarg := none, defaults := [] }
abbrev xJ (pre fld : Str) (a3 a4 a5 a6 : Pos) : Expr := .JoinedStr [.Constant (.str pre) 0 a3, .FormattedValue (.Name fld a4) (-1) none a5] a6
abbrev xO (a0 a1 : Pos) : Expr := .Call (.Name "super" a0) [] [] a1
abbrev xB (pre fld : Str) (a0 a1 a2 a3 a4 a5 a6 a7 a8 a9 b0 b1 b2 : Pos) : List Stmt := [.Expr (.Call (.Attribute (xO a0 a1) "__init__" a2) [xJ pre fld a3 a4 a5 a6] [] a7) a8, .Assign [.Attribute (.Name "self" a9) fld b0] (.Name fld b1) b2]
def xS (fld : Str) : Scope := { kind := .function, names := [(PySem.Str.ofString "self", .local), (fld, .local), (PySem.Str.ofString "__class__", .free), (PySem.Str.ofString "super", .globalImplicit)], isGenerator := false, isCoroutine := false, more := [] }

def FldOk (fld : Str) : Prop := fld = "place" ∨ fld = "way" ∨ fld = "many"
/-- the value may be shown in an f-string: some text of bounded length, the heap unchanged -/
def FmtOk (P : Program) (w : World) (h : Heap) (v : Value) : Prop := ∀ (A : Around) (E : Value → Shared → Prop) (s : Shared) (Q : Value → Shared → Prop), A.units + 64 < cLine → (∀ b o, h.get? b = some o → s.heap.get? b = some o) →
  (∀ (m : Str) (u tk : Tok), m.length ≤ 100000 → Q (.str m u) { s with toks := tk }) → wpAny (model P w) A (formatField v Str.empty) Q E s
theorem FmtOk.keeps {P : Program} {w : World} {h h' : Heap} {v : Value} (f : FmtOk P w h v) (k : ∀ b o, h.get? b = some o → h'.get? b = some o) : FmtOk P w h' v := fun A E s Q hu hk q => f A E s Q hu (fun b o e => hk b o (k b o e)) q
/-- the form of such an __init__ -/
def Shape (st : Stmt) (fld : Str) : Prop := ∃ (p1 p2 : Pos) (pre : Str) (a0 a1 a2 a3 a4 a5 a6 a7 a8 a9 b0 b1 b2 : Pos), defArgs st = xA fld p1 p2 ∧ defBody st = xB pre fld a0 a1 a2 a3 a4 a5 a6 a7 a8 a9 b0 b1 b2 ∧ defScope st = xS fld ∧ pre.length ≤ 1000 ∧
  ∀ env, eval (.Call (.Attribute (xO a0 a1) "__init__" a2) [xJ pre fld a3 a4 a5 a6] [] a7) env = (do
    let ov ← attributeBase (xO a0 a1) "__init__" env (eval (xO a0 a1) env)
    standAt a2.atName
    let (f, first) ← holding [ov] (getMethod ov "__init__" (do return (← importBound (xO a0 a1) env).getD true))
    callWith a7 f first (backTo a7 (starEach [xJ pre fld a3 a4 a5 a6] env)) [])
/-- what the written part says of such a class, at C, and of its __init__, at fI -/
structure OwnTxt (P : Program) (K : Frag) (st : Stmt) (fld : Str) (C fI : Addr) : Prop where
  cls : ∃ nm q N bs bm sn sub ab col dd k0 k1 k2 k3 k5, K.lookup C = some (excClassObj nm q C N bs bm true sn sub ab col dd k0 k1 k2 k3 k5 "ValueError.__new__") ∧ refsVE bm = true ∧ alongIn K "__init__" (((Value.ref C :: bm).dropWhile (· != .ref C)).drop 1) = some (some (.builtin "ValueError.__init__"))
  sa : findIn K (.ref C) "__setattr__" = some (some (.builtin "object.__setattr__"))
  noF : findIn K (.ref C) fld = some none
  veB : subIn K (.ref C) (.type "ValueError") = some true
  self : mroIn K C (.ref C) = some true
  op : nsIn K cStatics "thirdparty.any" = some none
  top : (P.main.scope.names.lookup ("super" : Str)).isSome = false
  shape : Shape st fld
  fn : ∃ (oc : Value) (od : Option Addr) (qual : Str) (doc pm : Value) (an : Option Addr) (cda cc : Addr) (ct : Value) (osl : Array (Option Value)) (ccl cl : Value) (cdd cld : Option Addr) (vs : Array Value) (ccs csl : Array (Option Value)) (file : Str) (tf : Tok),
    K.lookup fI = some ⟨oc, od, .func (ksFn "__init__" qual (defArgs st) (defBody st) (defScope st) .none .none doc pm an (.ref cda) ct cc), osl⟩ ∧ codeIn K (.ref cda) qual = true ∧ K.lookup cda = some ⟨ccl, cdd, .fields vs, ccs⟩ ∧ vs[2]? = some (.str file tf) ∧
    ((P.main.file : Str) == file) = true ∧ K.lookup cc = some ⟨cl, cld, .cell (some (.ref C)), csl⟩
theorem ns_but {h h' : Heap} {a : Addr} {m : Str → Option Value} (hn : h.Ns a m) (k : ∀ o, h.get? a = some o → h'.get? a = some o) : h'.Ns a m := by
  obtain ⟨o, es, ep, e, r⟩ := hn
  exact ⟨o, es, ep, k o e, r⟩
theorem kept_but0 {K : Frag} {h h' : Heap} {x : Addr} (X : K.In h) (hx : ∀ o, K.lookup x = some o → False) (k : ∀ b o, b ≠ x → h.get? b = some o → h'.get? b = some o) : K.In h' := fun a o e => k a o (fun z => hx o (z ▸ e)) (X a o e)
section
variable {P : Program} {w : World} {A : Around} {E : Value → Shared → Prop} {R : Result → Shared → Prop} {s : Shared} {K : Frag} {mg mb : Str → Option Value} {C fI : Addr} {fld : Str} {st : Stmt}
theorem x_init (hf : FldOk fld) (T : OwnTxt P K st fld C fI) {x t0 : Addr} {v : Value} (X : K.In s.heap) (hlim : s.heap.NoLimit) (hg : s.heap.Ns mainGlobals mg) (noS : mg "super" = none) (hb : s.heap.Ns builtinsNs mb) (hbb : ∀ y : Str, y ≠ "__name__" → mb y = bootBuiltins y)
    (hx : s.heap.get? x = some (excO C t0)) (hnx : K.lookup x = none) (hroom : A.depth < recursionLimit) (hu : A.units + 100 < cLine) (hv : FmtOk P w s.heap v)
    (hq : ∀ h' tk dx, (∀ b o, b ≠ x → s.heap.get? b = some o → h'.get? b = some o) → (∃ t1 : Addr, h'.get? x = some { cls := .ref C, dict := some dx, data := .fields #[.ref t1, .none, .none, .none, .bool false, .none] }) → s.heap.objs.size ≤ dx → dx ≠ x → h'.Ns1 dx (fun y => if y = fld then some v else none) → R (.ok (.ret .none)) { s with heap := h', toks := tk }) :
    codeAny (model P w) A (.call (.ref fI) ⟨[.ref x, v], []⟩) R s := by
  obtain ⟨oc, od, qual, doc, pm, an, cda, cc, ct, osl, ccl, cl, cdd, cld, vs, ccs, csl, file, tf, ho, hcd, hcode, hvs, hfile, hcell⟩ := T.fn
  obtain ⟨p1, p2, pre, a0, a1, a2, a3, a4, a5, a6, a7, a8, a9, b0, b1, b2, eA, eB, eS, hpre, hcall⟩ := T.shape
  rw [eA, eB, eS] at ho
  obtain ⟨nm, qn, N, bs, bm, sn, sub, ab, col, dd, k0, k1, k2, k3, k5, hC, hbm, hal⟩ := T.cls
  have hcl : clsIn K C = some { name := nm, bases := bs, mro := .ref C :: bm, ns := N, qualname := qn, hasDict := true, slotNames := sn, subclasses := sub, abstract := ab, collection := col, hasDel := false } := by unfold clsIn; rw [hC] <;> rfl
  have hxC : x ≠ C := fun z => by
    have e1 := X _ _ hC
    rw [← z, hx] at e1
    cases e1
  refine ks_codeAny_call_defAt (fd := ksFn "__init__" qual (xA fld p1 p2) (xB pre fld a0 a1 a2 a3 a4 a5 a6 a7 a8 a9 b0 b1 b2) (xS fld) .none .none doc pm an (.ref cda) ct cc) (body := xB pre fld a0 a1 a2 a3 a4 a5 a6 a7 a8 a9 b0 b1 b2) (binds := [("self", .ref x), (fld, v)]) hroom (X _ _ ho) rfl hlim (codeRec_of X hcd) rfl
    (by rcases hf with rfl | rfl | rfl <;> exact BindsTo.of_eq (by first | rfl | with_unfolding_all rfl)) (fun y hy => by
      have hy : y ∈ [(PySem.Str.ofString "self", NameKind.local), (fld, .local), (PySem.Str.ofString "__class__", .free), (PySem.Str.ofString "super", .globalImplicit)] := hy
      simp only [List.mem_cons, List.not_mem_nil, or_false] at hy
      rcases hy with rfl | rfl | rfl | rfl <;> exact fun z => nomatch z)
    (fun y hy => by
      simp only [List.mem_cons, List.not_mem_nil, or_false] at hy
      rcases hf with rfl | rfl | rfl <;> rcases hy with rfl | rfl <;> first | rfl | with_unfolding_all rfl | kernel_rfl) (fun h0 hn k => ?_) rfl rfl rfl
  have kS : (xS fld).names.lookup ("super" : Str) = some .globalImplicit := by rcases hf with rfl | rfl | rfl <;> decide +kernel
  have kC : (xS fld).names.lookup ("__class__" : Str) = some .free := by rcases hf with rfl | rfl | rfl <;> decide +kernel
  have kX : (xS fld).names.lookup ("self" : Str) = some .local := by rcases hf with rfl | rfl | rfl <;> decide +kernel
  have kF : (xS fld).names.lookup fld = some .local := by rcases hf with rfl | rfl | rfl <;> decide +kernel
  have mX : ([(PySem.Str.ofString "self", Value.ref x), (fld, v)] : List (Str × Value)).reverse.lookup ("self" : Str) = some (.ref x) := by rcases hf with rfl | rfl | rfl <;> first | rfl | with_unfolding_all rfl | kernel_rfl
  have mF : ([(PySem.Str.ofString "self", Value.ref x), (fld, v)] : List (Str × Value)).reverse.lookup fld = some v := by rcases hf with rfl | rfl | rfl <;> first | rfl | with_unfolding_all rfl | kernel_rfl
  have dF : (fld == ("__debug__" : Str)) = false := by rcases hf with rfl | rfl | rfl <;> decide +kernel
  have hLx : s.heap.objs.size ≠ x := Nat.ne_of_gt (Heap.lt_size hx)
  have X0 : K.In h0 := X.keeps k
  have hC0 := X0 _ _ hC
  obtain ⟨hp, g, d, t, os⟩ := s
  show _root_.PySem.wpAt _ _ (.func (xB pre fld a0 a1 a2 a3 a4 a5 a6 a7 a8 a9 b0 b1 b2) (ksEnv qual (xS fld) hp.objs.size fI (.ref cda) cc)) (execs (xB pre fld a0 a1 a2 a3 a4 a5 a6 a7 a8 a9 b0 b1 b2) (ksEnv qual (xS fld) hp.objs.size fI (.ref cda) cc)) _ _ _
  refine ks_wpAt_execs_cons (ks_wpAt_Expr_any (ks_wpAt_MethodCall (ks_wpAt_super_base (env := ksEnv qual (xS fld) hp.objs.size fI (.ref cda) cc) kS kC rfl rfl (X0 _ _ ho) rfl rfl rfl (X0 _ _ hcode) rfl hvs hfile T.top ?_) (hcall _)))
  refine ks_loadName_global rfl kS (loadGlobal_builtin (env := ksEnv qual (xS fld) hp.objs.size fI (.ref cda) cc) (hg.keeps k) noS (hb.keeps k) ((hbb _ (by decide +kernel)).trans PyProof.Rows.Boot.«super») ⟨rfl, ?_⟩)
  refine wpAny_loadName_free rfl kC rfl ⟨_, X0 _ _ hcell, rfl⟩ ?_
  refine wpAny_loadName_local rfl kX hn mX ?_
  refine ks_wpAny_isType_cls hC0 rfl ⟨rfl, ?_⟩
  refine ks_wpAny_call_super hC0 rfl (k _ _ hx) rfl (fun c e => nomatch e) (looks_mroIn X0 T.self) (fun h1 hso k1 => ?_)
  have X1 := X0.keeps k1
  have hx1 := k1 _ _ (k _ _ hx)
  have hns1 : h1.Ns hp.objs.size _ := ns_but hn fun o e => k1 _ _ e
  have hI : Looks (model P w) h1 (isInstance (.ref x) (.type "ValueError")) true := (PySem.W.InstAt.type (od := none) ⟨hx1, rfl, rfl, trivial⟩).andThen (looks_subIn X1 T.veB)
  refine kxs_getMethod kxs_ValueError hso (looks_opaque X1 T.op) (l₀ := Value.ref C :: bm) (fun A Q E s k q => wpAny_bind ((looks_clsIn X1 hcl) A _ E s k (wpAny_pure q))) rfl X1 hal hI hxC rfl ?_
  have k2 : ∀ b o, h1.get? b = some o → (h1.push (kxs_mw "ValueError.__init__" x)).get? b = some o := fun b o e => Heap.get?_push_of_some _ e
  have hmw : (h1.push (kxs_mw "ValueError.__init__" x)).get? h1.objs.size = some (kxs_mw "ValueError.__init__" x) := Heap.get?_push_at rfl rfl
  refine kxs_callWith (i := "ValueError.__init__") (x := x) rfl (evalArgs_plain (Calls.spliced_cons ?_))
  have hns2 := ns_but hns1 fun o e => k2 _ _ e
  have hul : (A.deeper (ksEnv qual (xS fld) hp.objs.size fI (.ref cda) cc)).units + 64 < cLine := by
    show A.units + 3 + 64 < cLine
    omega
  refine JoinedStr_many (pos := a6) (joinParts_cons (Constant_str ⟨?_, ?_⟩))
  · show (Str.empty ++ pre).length ≤ sizeLine
    rw [strLen_append, sizeLine_eq]
    have : Str.empty.length = 0 := rfl
    omega
  refine joinParts_cons (FormattedValue_plain ?_)
  refine wpAny_Name (wpAny_loadName_local rfl kF hns2 mF ?_) dF
  refine hv _ _ _ _ hul (fun b o e => k2 _ _ (k1 _ _ (k _ _ e))) fun m u tk hm => ?_
  have hlen : (Str.empty ++ pre ++ m).length ≤ sizeLine := by
    rw [strLen_append, strLen_append, sizeLine_eq]
    have : Str.empty.length = 0 := rfl
    omega
  refine ⟨hlen, joinParts_nil ?_ hlen⟩
  refine Calls.spliced_nil ⟨hmw, ?_⟩
  have hx2 : (h1.push (kxs_mw "ValueError.__init__" x)).get? x = some (excO C t0) := k2 _ _ hx1
  refine wpAny_call (codeAny_of_tree ?_)
  show wpAny _ _ (callAny (.ref h1.objs.size) _) _ _ _
  simp only [callAny]
  refine wpAny_bind (wpAny_load hmw ?_); simp only [kxs_mw, show (Value.type "method-wrapper" == Value.type "method" || Value.type "method-wrapper" == Value.type "builtin_function_or_method" || Value.type "method-wrapper" == Value.type "method-wrapper") = true by decide, if_true]
  refine KFB.if_so (by decide) ?_
  refine wpAny_bind (check_bound_init F.excBase_ValueError.toExcCallFacts (k2 _ _ (k1 _ _ hC0)) hx2 rfl ?_)
  refine wpAny_bind (wpAny_pure (wpAny_pure ?_))
  refine ⟨plainId_quiet F.excBase_ValueError.init.plain _, codeAny_builtin F.excBase_ValueError.initEntry ?_⟩
  refine exc_init_tree (cls := .ref C) (t0 := t0) (dv := none) (c2 := .none) (c3 := .none) (b4 := .bool false) hx2 (by show 1 ≤ sizeLine; rw [sizeLine_eq]; omega) fun h3 k3 hx3 _ => ?_
  have X3 : K.In h3 := kept_but0 (X1.keeps k2) (fun o z => nomatch hnx.symm.trans z) k3
  have hns3 := ns_but hns2 fun o e => k3 _ _ hLx e
  refine _root_.PySem.wpAt_of_wpAny (wpAny_execs_cons (plainObj_wpAny_Assign_Attribute ?_ ?_))
  · refine wpAny_Name (wpAny_loadName_local rfl kF hns3 mF ?_) dF
    refine wpAny_Name (wpAny_loadName_local rfl kX hns3 mX ?_) (by decide)
    refine set_plain X3 (od := none) ⟨hx3, rfl, rfl, trivial⟩ T.sa ?_
    refine exc_osa X3 hx3 hcl (show refsVE (.ref C :: bm) = true from hbm) rfl T.noF (fun h4 tk4 dx k4 dn dne hx4 hn4 => ?_)
    refine wpAny_execs_nil (hq h4 tk4 dx (fun b o hb e => k4 b o hb (k3 b o hb (k2 _ _ (k1 _ _ (k _ _ e))))) ⟨_, hx4⟩ ?_ dne hn4)
    have z1 := Heap.lt_size (show h3.get? hp.objs.size = some _ from hns3.choose_spec.choose_spec.choose_spec.1)
    exact Nat.le_of_lt (Nat.lt_of_lt_of_le z1 dn)
  · rcases hf with rfl | rfl | rfl <;> rfl
end
end One
end P_X1

section P_X2
set_option linter.all false
set_option maxRecDepth 100000
set_option maxHeartbeats 4000000
namespace One
open PySem PySem.W PySem.Calls PyProof.Rows PySem.HandSPX L2
/-- what an own exception is made with: a small number, a tuple of such -/
inductive Shown (K : Frag) (H : Hp) : V → Prop
  | int (n : Nat) (h : n < 1000) : Shown K H (.int (n : Nat))
  | tup {a : Addr} (ns : List Nat) (ht : SqT K H a (ns.map fun n => V.int (n : Nat))) (hl : ns.length ≤ 100) (h : ∀ n ∈ ns, n < 1000) : Shown K H (.ref a)
theorem repr_nats {P : Program} {w : World} : ∀ {ns : List Nat} {us : List Value}, Vals (ns.map fun n => V.int (n : Nat)) us → (∀ n ∈ ns, n < 1000) → ReprAll P w us (ns.map fun n => ((toString ((n : Nat) : Int) : String) : Str))
  | [], _, r, _ => by
    cases r
    exact .nil
  | n :: l, _, r, h => by
    cases r with
    | cons r1 r2 =>
      obtain ⟨t, rfl⟩ := r1
      exact .cons (ReprIs.int t (by rw [Int.natAbs_natCast]; exact log_small (h n (List.mem_cons_self ..)))) (repr_nats r2 fun z hz => h z (List.mem_cons_of_mem _ hz))
theorem nats_text : ∀ ns : List Nat, (∀ n ∈ ns, n < 1000) → ((ns.map fun n => ((toString ((n : Nat) : Int) : String) : Str)).map (·.length)).sum ≤ 8 * ns.length
  | [], _ => Nat.zero_le _
  | n :: r, h => by
    have h1 := nats_text r fun z hz => h z (List.mem_cons_of_mem _ hz)
    have h2 : ((toString ((n : Nat) : Int) : String) : Str).length ≤ 8 := int_short n (h n (List.mem_cons_self ..))
    rw [List.map_cons, List.map_cons, List.sum_cons, List.length_cons]
    omega
theorem Shown.fmt {X : Cx} {pins : List (Addr × Obj)} {σ : L2.St} {H : Hp} {s : Shared} {v : V} {u : Value} (I : Inv X pins σ H s) (h : Shown X.K H v) (r : RelV v u) : FmtOk X.prog X.w s.heap u := by
  intro A E s1 Q hu hk q
  cases h with
  | int n hn =>
    obtain ⟨t, rfl⟩ := r
    exact wpAny_formatField_int (by rw [Int.natAbs_natCast]; exact log_small hn) (q _ _ _ (Nat.le_trans (int_short n hn) (by decide)))
  | tup ns ht hl hn =>
    cases r
    obtain ⟨its, rv, ⟨o, ho, hcl, n, hd⟩, _⟩ := I.tuple ht
    have e1 := tupleText_len_le (ns.map fun n => ((toString ((n : Nat) : Int) : String) : Str))
    have e2 := nats_text ns hn
    rw [List.length_map] at e1
    exact fmt_tuple (ts := ns.map fun n => ((toString ((n : Nat) : Int) : String) : Str)) (by omega) (hk _ _ ho) hcl hd (repr_nats rv hn) (by rw [sizeLine_eq]; omega) fun m u tk hm => q m u tk (by omega)
/-- the class under its name -/
structure OwnCls (K : Frag) (mg : Str → Option Value) (nm : Str) (C fI : Addr) : Prop where
  g : mg nm = some (.ref C)
  iC : findIn K (.ref C) "__init__" = some (some (.ref fI))
  tC : typeIn K (.ref fI) = some (.type "function")
  kC : keepIn K (.ref C) = true
  exC : subIn K (.ref C) (.type "BaseException") = some true
  tyC : typeIn K (.ref C) = some (.type "type")
/-- nm(e) -/
def tMkX (K : Frag) (fld : Str) (C : Addr) (ta : TA) : L2.St → Hp → XK → Prop := fun σ H Q => ta σ H fun vs H1 => ∃ v, vs = [v] ∧ Shown K H1 v ∧ ∀ d, H1 d = none → Q (.ref C) (some d) (upd H1 d (.xd [(fld, v)]))
theorem relO_one {v : V} {u : Value} {g : Str} (r : RelV v u) (f : Str) : RelO (List.lookup f [(g, v)]) (if f = g then some u else none) := by
  rw [lookup_put]
  by_cases e : f = g
  · rw [if_pos e, if_pos e]
    exact r
  · rw [if_neg e, if_neg e]
    trivial
section
variable {X : Cx} {C fI : Addr}
theorem pmk_x {nm fld : Str} {st : Stmt} {a : Expr} {ta : TA} {p pos : Pos} {k : Nat} (hf : FldOk fld) (T : OwnTxt X.prog X.K st fld C fI) (O : OwnCls X.K X.mg nm C fI) (noS : X.mg "super" = none) (hr : Room k X.A) (ha : PA X [a] ta) (hg : Gl X nm) (hdb : (nm == ("__debug__" : Str)) = false := by decide) (he : starEach (a :: []) X.env = (false, eval a X.env) :: starEach [] X.env := by rfl) (hpl : (backTo pos (starEach [] X.env)).any (·.1) = false := by rfl) : PMk X (.Call (.Name nm p) [a] [] pos) (tMkX X.K fld C ta) := by
  intro pins s σ H Q I h
  refine wpAny_Call_Name_kw (ld_glob I hg O.g ?_ hdb)
  refine PySem.W.callWith_K (h₀ := X.base) I.ok.mod.kin O.kC (thn (ha.run pos pins s σ H _ I h) fun us s1 ⟨vs, H1, I1, r1, v, ev, hv, q1⟩ => ⟨I1.kIn, ?_⟩) he hpl
  subst ev
  obtain ⟨v', rfl, rv⟩ := vals1 r1
  obtain ⟨nm', qn, N, bs, bm, sn, sub, ab, col, dd, k0, k1, k2, k3, k5, hC, hbm, hal⟩ := T.cls
  have hfm := hv.fmt I1 rv
  have hX := I1.kIn
  have hlim := I1.nolimit
  obtain ⟨_, mgl, ⟨mb, hbn, hbb⟩, _⟩ := I1.mod
  have hbk := I1.bk
  show wpAny _ _ (call (.ref C) [v']) _ _ _
  obtain ⟨hp, g, dr, tk, os⟩ := s1
  have kk : ∀ b o, hp.get? b = some o → ((hp.push (PySem.W.kdv_tup [v'])).push (PySem.HandSPX.excO C hp.objs.size)).get? b = some o := fun b o e => Heap.get?_push_of_some _ (Heap.get?_push_of_some _ e)
  have hget : ((hp.push (PySem.W.kdv_tup [v'])).push (PySem.HandSPX.excO C hp.objs.size)).get? (hp.objs.size + 1) = some (PySem.HandSPX.excO C hp.objs.size) := by heap_get
  have hnx : X.K.lookup (hp.objs.size + 1) = none := by
    match e : X.K.lookup (hp.objs.size + 1) with
    | none => rfl
    | some o => exact absurd (Nat.lt_of_succ_lt (Heap.lt_size (hX _ _ e))) (Nat.lt_irrefl _)
  refine wpAny_call (PySem.HandSPX.call_own F.excBase_ValueError (fun Y => PySem.HandSPX.refsVE_contains Y bm hbm) (hX _ _ hC) (PySem.W.looks_findIn hX O.iC) (fun self => PySem.W.bind_fn hX self O.tC) (by show 1 ≤ sizeLine; rw [sizeLine_eq]; omega) ?_)
  have hdp := hr.dp
  have hun := hr.un
  refine x_init (s := ⟨(hp.push (PySem.W.kdv_tup [v'])).push (PySem.HandSPX.excO C hp.objs.size), g, dr, tk, os⟩) hf T (hX.keeps kk) (hlim.keeps kk) ((mgl.keeps hbk).keeps kk) noS ((hbn.keeps hbk).keeps kk) hbb hget hnx ?_ ?_ (hfm.keeps kk) fun h' tk' dx k' hx dn dne hns => ?_
  · rw [make_depth]
    omega
  · rw [make_units]
    omega
  · refine ⟨rfl, ?_⟩
    show MkP X pins σ Q (.ref (hp.objs.size + 1)) ⟨h', g, dr, tk', os⟩
    obtain ⟨t1, hx⟩ := hx
    have dn : hp.objs.size + 1 + 1 ≤ dx := by
      first
        | (simpa only [Heap.size_push] using dn)
        | exact dn
    have dbig : hp.objs.size ≤ dx := by omega
    obtain ⟨G', g1, g2⟩ := restrict h' fun b => decide (b ≠ hp.objs.size + 1)
    have gk : ∀ b, b ≠ hp.objs.size + 1 → G'.get? b = h'.get? b := fun b hb => g1 b (decide_eq_true hb)
    have ge : G'.get? (hp.objs.size + 1) = none := g2 _ (by simp)
    have ne : ∀ {b : Addr} {o : Obj}, hp.get? b = some o → b ≠ hp.objs.size + 1 := fun {b o} q => Nat.ne_of_lt (Nat.lt_succ_of_lt (Heap.lt_size q))
    have old : ∀ b o, hp.get? b = some o → G'.get? b = some o := fun b o q => (gk b (ne q)).trans (k' b o (ne q) (kk b o q))
    have ob : ObjOk X.prog X.w (upd H1 dx (.xd [(fld, v)])) G' dx (.xd [(fld, v)]) := ⟨_, hns.at (fun o q => (gk dx dne).trans q), fun f => relO_one rv f⟩
    have J : Inv X pins σ (upd H1 dx (.xd [(fld, v)])) ⟨G', g, dr, tk', os⟩ := I1.laid (t' := tk') old dbig ob
    refine ⟨hp.objs.size + 1, _, _, ⟨G', g, dr, tk', os⟩, _, .ref C, some dx, rfl, J, fun b o q => ?_, ge, hx, ⟨rfl, rfl⟩, rfl, rfl, ?_, rfl, I1.bare, raises_own O.exC O.tyC, q1 dx (I1.hok.fresh dbig)⟩
    · by_cases hb : b = hp.objs.size + 1
      · cases (hb ▸ ge).symm.trans (show G'.get? b = some o from q)
      · exact (gk b hb).symm.trans q
    · rw [upd_ne (Ne.symm dne)]
      exact I1.hok.fresh (Nat.le_succ _)
/-- raise nm(e) -/
def tRaiseX (K : Frag) (fld : Str) (C : Addr) (W : WX) (ta : TA) : TS := fun _ σ H => tMkX K fld C ta σ H fun cls d H' => W cls d σ H'
theorem ps_raiseX {nm fld : Str} {st : Stmt} {a : Expr} {ta : TA} {W : WX} {p pos pos2 : Pos} {k : Nat} (hc : X.calm = true) (hf : FldOk fld) (T : OwnTxt X.prog X.K st fld C fI) (O : OwnCls X.K X.mg nm C fI) (noS : X.mg "super" = none) (hr : Room k X.A) (tk : Takes X W) (ha : PA X [a] ta) (hg : Gl X nm) (hdb : (nm == ("__debug__" : Str)) = false := by decide) (he : starEach (a :: []) X.env = (false, eval a X.env) :: starEach [] X.env := by rfl) (hpl : (backTo pos (starEach [] X.env)).any (·.1) = false := by rfl) :
    PS X (.Raise (some (.Call (.Name nm p) [a] [] pos)) none pos2) (tRaiseX X.K fld C W ta) := ps_raise hc tk (pmk_x hf T O noS hr ha hg hdb he hpl)
end
end One
end P_X2

section P_X3
set_option linter.all false
set_option maxRecDepth 100000
set_option maxHeartbeats 4000000
namespace One
open PySem PySem.Spec PyProof.Rows L2
/-! ### try: .. except x as n: m = n / rest, where the rest may look at the exception that m holds -/
/-- slot i is n's, slot j is m's -/
def wHold (K : PySem.W.Frag) (c : Value) (i j : Nat) (tE : Addr → Value → Option Addr → TS) (Wout : WX) (D : Ends) : WX := fun cls d σ H =>
  ∃ b, PySem.W.exmOne K cls c = some b ∧ (b = true → ∀ a, H a = none → tE a cls d D (((σ.set i (some (.ref a))).set j (some (.ref a))).set i none) H) ∧ (b = false → Wout cls d σ H)
theorem tr_tr {X : Cx} {pins : List (Addr × Obj)} {σ : L2.St} {H : Hp} {s : Shared} {q : Addr × Obj} {xe : Value → Shared → Prop} (I : Inv (X.suite q.1 (q :: (X.pn ++ pins))) [] σ H s) (ok : X.Ok) : Inv (X.tr (q :: (X.pn ++ pins)) xe) [] σ H s :=
  ⟨ok.toTry _ _, I.os, I.bare, I.base, I.loc, I.cell, I.free, I.freeC, I.pin, I.hok, I.len⟩
theorem of_tr {X : Cx} {pins pn' : List (Addr × Obj)} {σ : L2.St} {H : Hp} {s : Shared} {q : Addr × Obj} {xe : Value → Shared → Prop} (I : Inv (X.tr (q :: (X.pn ++ pins)) xe) pn' σ H s) (ok : X.Ok) : Inv X pins σ H s :=
  ⟨ok, I.os, I.bare, I.base, I.loc, I.cell, I.free, I.freeC, fun y hy => I.pin y (List.mem_append_left _ (List.mem_cons_of_mem _ hy)), I.hok, I.len⟩
theorem sp_tr {X : Cx} {pins : List (Addr × Obj)} {q : Addr × Obj} {xe : Value → Shared → Prop} {D : Ends} {f : Flow} {s : Shared} (ok : X.Ok) (h : SP (X.tr (q :: (X.pn ++ pins)) xe) [] D f s) : SP X pins D f s := by
  match f, h with
  | .next, ⟨σ', H', J, z⟩ => exact ⟨σ', H', of_tr J ok, z⟩
  | .brk, ⟨σ', H', J, z⟩ => exact ⟨σ', H', of_tr J ok, z⟩
  | .cont, ⟨σ', H', J, z⟩ => exact ⟨σ', H', of_tr J ok, z⟩
  | .ret u, ⟨v, σ', H', J, r, z⟩ => exact ⟨v, σ', H', of_tr J ok, r, z⟩
section
variable {X : Cx} {x n m : Str} {c : Value} {i j : Nat} {body rest : List Stmt} {np mp mp2 ap pos pos' : Pos} {tb : WX → TS} {t0 : TS} {tE : Addr → Value → Option Addr → TS} {Wout : WX}
theorem pss_hold (hs : X.stack = X.env :: X.outer) (hf : X.env.frame = some X.env.locals) (nd : X.N.Nodup) (hi : X.N[i]? = some n) (hln : X.env.kindOf n = some .local) (hj : X.N[j]? = some m) (hlm : X.env.kindOf m = some .local) (hc : Names X x c) (tk : Takes X Wout)
    (hdb : (n == ("__debug__" : Str)) = false) (hdc : (n == ("__classdict__" : Str)) = false)
    (hb : ∀ (W : WX) (pn : List (Addr × Obj)) (xe : Value → Shared → Prop), Takes (X.tr pn xe) W → PassesOwn (model X.prog X.w) X.A X.env xe → PSs (X.tr pn xe) body (tb W)) (h0 : PSs X rest t0)
    (hE : ∀ (a : Addr) (oe : Obj) (cls : Value) (d : Option Addr) (pn : List (Addr × Obj)), Zc cls d oe → (∃ vs, oe.data = .fields vs) → PSs (X.tr ((a, oe) :: pn) X.xe) rest (tE a cls d)) :
    PSs X (.Try body [.ExceptHandler (some (.Name x np)) (some n) [.Assign [.Name m mp] (.Name n mp2) ap] pos'] [] [] pos :: rest) (fun D σ H => tb (wHold X.K c i j tE Wout D) { D with nx := t0 D } σ H) := by
  refine ⟨fun pins s σ H D I h => ?_⟩
  have ok := I.ok
  have frs0 : X.A.frames = some (X.env :: X.outer) := ok.frames.trans (by rw [hs])
  refine wpAny_execs_cons (wpAny_Try_except ?_)
  let Q2 : Flow → Shared → Prop := fun f s' => match f with
    | .next => wpAny (model X.prog X.w) X.A (execs rest X.env) (SP X pins D) X.xe s'
    | f => SP X pins D f s'
  refine wpAny_mono ((hb (wHold X.K c i j tE Wout D) (X.pn ++ pins) (fun e s1 => wpAny (model X.prog X.w) X.A (noteFrame e X.env) (fun _ s2 => wpAny (model X.prog X.w) X.A (setFlight e none) (fun _ s3 =>
    wpAny (model X.prog X.w) X.A (handleBy e X.env [.ExceptHandler (some (.Name x np)) (some n) [.Assign [.Name m mp] (.Name n mp2) ap] pos']) Q2 X.xe s3) X.xe s2) X.xe s1) (fun u s' air => ?_) PassesOwn.looking).run [] s σ H { D with nx := t0 D } (I.toTry _) h) (fun f s1 hsp => ?_) (fun e s1 he => he)
  · obtain ⟨a, B, sI, pins', σ', H', cls, d, rfl, Jx, nb, up, sky, na, os, ag, b, hb1, yes, no⟩ := air
    have Jo : Inv X pins σ' H' sI := Jx.ofTry ok
    refine (show wpAny (model X.prog X.w) X.A (noteFrame (.ref a) X.env) _ _ _ from ?_)
    refine Sky.land Zc.steady frs0 hf (hs ▸ sky : Sky B (X.env :: X.outer) a (Zc cls d) X.env.locals s'.heap) fun hpl fll upl => ?_
    have Jl : Inv X pins σ' H' { s' with heap := hpl } := Jo.landed nb fll.1 (up.trans upl) os ag
    obtain ⟨oel, vsl, hel, hzl, hdl⟩ := fll.there
    have away : a ∉ frs (X.env :: X.outer) := fun hm => by
      obtain ⟨_, o', e', hnf⟩ := fll.2.2.1.mem hm
      cases hel.symm.trans e'
      exact hnf _ hdl
    have nL : a ≠ X.env.locals := fun z => away (List.mem_filterMap.mpr ⟨X.env, List.mem_cons_self, hf.trans (congrArg some z.symm)⟩)
    have nS : a ∉ X.fs := fun hm => by
      obtain ⟨e, he, q⟩ := List.mem_filterMap.mp hm
      exact away (List.mem_filterMap.mpr ⟨e, List.mem_cons_of_mem _ he, q⟩)
    have Sl := Jl.suite hel hdl na nL nS
    refine wpAny_handleBy_cons (codeAny_handlers_test ?_) (by intro q; cases q)
    have Lty : PySem.W.Looks (model X.prog X.w) hpl (typeOf (.ref a)) cls := fun A Q E s k q => wpAny_typeOf_ref (k _ _ hel) (by rw [hzl.1]; exact q)
    have look : ∀ {Q : Value → Shared → Prop} {E : Value → Shared → Prop}, Q c { s' with heap := hpl } → wpAny (model X.prog X.w) (X.A.mark (some (.ref a))) (eval (.Name x np) X.env) Q E { s' with heap := hpl } := fun {Q E} q => by
      obtain ⟨g1, g2, g3 | ⟨g3, g4, g5⟩⟩ := hc
      · exact ld_glob (X := X.suite a ((a, oel) :: (X.pn ++ pins))) Sl g1 g3 q g2
      · exact ld_blt (X := X.suite a ((a, oel) :: (X.pn ++ pins))) Sl g1 g3 g4 q g5 g2
    refine look ((PySem.W.exm_one (M := model X.prog X.w) Jl.kIn Lty hb1).here ?_)
    cases b with
    | true =>
      refine codeAny_handlers_suite_as (HandSPX.lands_againZ fll fun hpm flm upm => ?_)
      have Jm : Inv X pins σ' H' { s' with heap := hpm } := Jo.landed nb flm.1 ((up.trans upl).trans upm) os ag
      obtain ⟨oem, vsm, hem, hzm, hdm⟩ := flm.there
      have Sm := Jm.suite hem hdm na nL nS
      refine store_ok (X := X.suite a ((a, oem) :: (X.pn ++ pins))) (v := .ref a) Sm nd hi (.inl hln) rfl (fun s5 S5 => ?_) (.inr hln)
      have one : PSs (X.suite a ((a, oem) :: (X.pn ++ pins))) [.Assign [.Name m mp] (.Name n mp2) ap] _ := pss_one (ps_set (i := j) nd hj (.inl hlm) (pe_var (i := i) hi (.inl hln) hdb hdc) (hf := .inr hlm))
      have li : i < σ'.length := by
        rw [Jo.len]
        exact (List.getElem?_eq_some_iff.mp hi).1
      refine wpAny_mono (one.run [] s5 _ H' { nx := fun σ6 H6 => σ6 = (σ'.set i (some (.ref a))).set j (some (.ref a)) ∧ H6 = H', rt := fun _ _ => False } S5 ⟨.ref a, List.getElem?_set_self li, rfl, rfl⟩) (fun f s6 hsp => ?_) (fun _ _ z => False.elim z)
      match f, hsp with
      | .next, ⟨σ6, H6, S6, e1, e2⟩ =>
        subst e1 e2
        refine gone_ok (X := X.suite a ((a, oem) :: (X.pn ++ pins))) S6 nd hi hln fun s7 S7 => ?_
        exact wpAny_mono ((hE a oem cls d (X.pn ++ pins) hzm ⟨_, hdm⟩).run [] s7 _ _ D (tr_tr (q := (a, oem)) S7 ok) (yes rfl a na)) (fun f s8 h8 => sp_tr (q := (a, oem)) ok h8) fun _ _ z => z
      | .brk, ⟨_, _, _, z⟩ => exact z.elim
      | .cont, ⟨_, _, _, z⟩ => exact z.elim
      | .ret u, ⟨_, _, _, _, _, z⟩ => exact z.elim
    | false =>
      refine (show wpAny _ X.A (handleBy (.ref a) X.env []) _ _ _ from wpAny_handleBy_nil ?_)
      obtain ⟨_, _, _, oe, vs, T, oT, ts', he, hz, hd, h1, hr⟩ := id fll
      unfold PySem.passOn
      refine wpAny_bind (wpAny_field he hd h1 ?_); rw [if_neg (show ¬ ((Value.ref T == Value.none) = true) from by simp)]
      have last : wpAny (model X.prog X.w) X.A (setFlight (.ref a) X.env.frame) (fun _ s4 => wpAny (model X.prog X.w) X.A (throw (.ref a) : Sem Flow) Q2 X.xe s4) X.xe { s' with heap := hpl } := by
        rw [hf]
        exact HandSPX.setFlight_upZ fll fun hpm hh4 upm => wpAny_throw (tk _ _ ⟨a, B, sI, pins, σ', H', cls, d, rfl, Jo, nb, (up.trans upl).trans upm, .inr (.inr (by rw [hs]; exact hh4)), na, os, ag, no rfl⟩)
      first
        | exact wpAny_bind (wpAny_pure (wpAny_bind last))
        | exact wpAny_bind last
  · match f, hsp with
    | .next, ⟨σ', H', Jx, q⟩ => exact wpAny_execs_nil (h0.run pins s1 σ' H' D (Jx.ofTry ok) q)
    | .brk, ⟨σ', H', Jx, q⟩ => exact ⟨σ', H', Jx.ofTry ok, q⟩
    | .cont, ⟨σ', H', Jx, q⟩ => exact ⟨σ', H', Jx.ofTry ok, q⟩
    | .ret u, ⟨v, σ', H', Jx, r, q⟩ => exact ⟨v, σ', H', Jx.ofTry ok, r, q⟩
end
end One
end P_X3

section P_X4
set_option linter.all false
set_option maxRecDepth 100000
set_option maxHeartbeats 4000000
namespace One
open PySem PySem.Spec PyProof.Rows L2
/-! ### a held exception is looked at: its class, its fields -/
theorem held_at {X : Cx} {a D dd : Addr} {oe : Obj} {pn pins : List (Addr × Obj)} {xe : Value → Shared → Prop} {σ : L2.St} {H : Hp} {s : Shared} {fs : List (Str × V)} (I : Inv (X.tr ((a, oe) :: pn) xe) pins σ H s) (hz : Zc (.ref D) (some dd) oe) (hf : ∃ vs, oe.data = .fields vs) (hd : H dd = some (.xd fs)) :
    ∃ (od : Obj) (mA : Str → Option Value), PySem.W.InstAt s.heap a oe D (some od) ∧ s.heap.Ns1 dd mA ∧ s.heap.get? dd = some od ∧ ∀ g, RelO (fs.lookup g) (mA g) := by
  obtain ⟨hat, _⟩ := I.pin (a, oe) (List.mem_append.mpr (.inl List.mem_cons_self))
  obtain ⟨vs, hv⟩ := hf
  obtain ⟨mA, hns, hr⟩ := (show ObjOk X.prog X.w H s.heap dd (.xd fs) from I.hok dd _ hd)
  obtain ⟨od, es, ep, ho, _⟩ := id hns
  exact ⟨od, mA, ⟨hat, hz.1, by unfold PySem.W.notCls; rw [hv] <;> rfl, by rw [hz.2]; exact ho⟩, hns, ho, hr⟩
def rIsX (K : PySem.W.Frag) (a : Addr) (cls : Value) (d : Option Addr) : List V → Hp → VK → Prop := fun xs H Q => ∃ (D dd : Addr) (c : V) (cv : Value) (b : Bool) (fs : List (Str × V)), xs = [.ref a, c] ∧ cls = .ref D ∧ d = some dd ∧ ExcC K D ∧
  (∀ u, RelV c u → u = cv) ∧ PySem.W.kitOne K (.ref D) cv = some b ∧ H dd = some (.xd fs) ∧ Q (.bl b) H
section
variable {X : Cx} {a : Addr} {oe : Obj} {cls : Value} {d : Option Addr} {pn : List (Addr × Obj)} {xe : Value → Shared → Prop}
theorem cr_isX (hz : Zc cls d oe) (hf : ∃ vs, oe.data = .fields vs) : CallR (X.tr ((a, oe) :: pn) xe) (.builtin "isinstance") (rIsX X.K a cls d) := by
  intro pins s σ H xs us Q I r h
  obtain ⟨D, dd, c, cv, b, fs, rfl, rfl, rfl, C, hcv, e, hd, q⟩ := h
  cases r with
  | cons rx rr =>
    cases rr with
    | cons rt rr =>
      cases rr
      cases rx
      have ec := hcv _ rt
      subst ec
      obtain ⟨od, mA, J, _, _, _⟩ := held_at I hz hf hd
      have hcl : (PySem.W.clsIn X.K D).isSome = true := by
        obtain ⟨cd, hc, _⟩ := PySem.W.any_some C.hd
        rw [hc]; rfl
      exact PySem.W.kia_one (PySem.W.kitx_exc hcl C.hg C.hk C.hs C.ha C.hn C.ht C.hm) I.kIn J e (fun z => nomatch z) fun tk => ⟨.bl b, H, I.kept (t' := tk) fun _ _ z => z, rfl, q⟩
/-- x.n, x the held exception -/
def tFld (K : PySem.W.Frag) (a : Addr) (cls : Value) (d : Option Addr) (n : Str) (te : TE) : TE := fun σ H Q => te σ H fun x H1 => ∃ (C dd : Addr) (fs : List (Str × V)) (v : V), x = .ref a ∧ cls = .ref C ∧ d = some dd ∧ XfC K C ∧ PySem.W.findIn K (.ref C) n = some none ∧ H1 dd = some (.xd fs) ∧ fs.lookup n = some v ∧ Q v H1
theorem pe_fld {e : Expr} {te : TE} {pos : Pos} {n : Str} (hz : Zc cls d oe) (hf : ∃ vs, oe.data = .fields vs) (he : PE (X.tr ((a, oe) :: pn) xe) e te) (hb : attributeBase e n X.env (eval e X.env) = eval e X.env := by rfl) :
    PE (X.tr ((a, oe) :: pn) xe) (.Attribute e n pos) (tFld X.K a cls d n te) := by
  refine ⟨fun pins s σ H Q I h => attr_of hb (thn (he.run pins s σ H _ I h) fun u s1 ⟨x, H1, I1, rx, C, dd, fs, v, ex, e1, e2, T, hno, hd, l, q⟩ => ?_)⟩
  subst ex e1 e2
  obtain rfl : u = Value.ref a := rx
  obtain ⟨od, mA, J, hns, ho, hr⟩ := held_at I1 hz hf hd
  obtain ⟨od', ho', hl⟩ := lookIn_ns hns
  obtain rfl : od' = od := Option.some.inj (ho'.symm.trans ho)
  obtain ⟨uv, huv, ruv⟩ := RelO.some_of (v := v) (o := mA n) (by rw [← l]; exact hr n)
  exact HandSPX.exc_get I1.kIn J T.ga T.gg T.exC (PySem.W.findObj_own T.hdC hno rfl (by rw [hl, huv])) (handed_of ruv) ⟨v, H1, I1.tok _, ruv, q⟩
end
end One
end P_X4

section P_X5
set_option linter.all false
set_option maxRecDepth 100000
set_option maxHeartbeats 8000000
namespace One
open PySem PySem.Spec PyProof.Rows L2
abbrev sRef : Stmt := top 41
abbrev nRef : List Str := ["deed", "caught", "e", "kinds", "some", "word", "is_one"]
theorem scRef : FnScope nRef ["deed"] (defScope sRef) := ⟨rfl, rfl, rfl, by decide +kernel, rfl, by decide +kernel, by decide +kernel⟩
/-- what repr(v) gives -/
inductive RepV (K : PySem.W.Frag) (H : Hp) : V → Str → Prop
  | int (n : Nat) (h : n < 1000) : RepV K H (.int (n : Nat)) ((toString ((n : Nat) : Int) : String) : Str)
  | data {a : Addr} {d : PyData} (h : Dp K H (.ref a) d) (h1 : d.showable = true) (h2 : d.hasDict = false) (h3 : d.depth ≤ 16) (h4 : d.shown.length ≤ sizeLine) : RepV K H (.ref a) d.shown
def rRepV (K : PySem.W.Frag) : List V → Hp → VK → Prop := fun xs H Q => ∃ (v : V) (t : Str), xs = [v] ∧ RepV K H v t ∧ Q (.str t) H
theorem cr_repV {X : Cx} (hgd : X.A.guards = some []) (hu : X.A.units + 64 < cLine) : CallR X (.builtin "repr") (rRepV X.K) := by
  intro pins s σ H xs us Q I r h
  obtain ⟨v, t, rfl, hv, q⟩ := h
  cases hv with
  | int n hn => exact SkE.call_repr_int pins s σ H _ us Q I r ⟨_, rfl, by rw [Int.natAbs_natCast]; exact log_small hn, q⟩
  | data hd h1 h2 h3 h4 => exact call_repr_data hgd hu pins s σ H _ us Q I r ⟨_, _, rfl, hd, h1, h2, h3, h4, q⟩
def wordOf (i : Nat) : Str := (["yard", "text", "end", "setting", "draft", "place", "barred", "many"] : List Str).getD i ""
def fldOf (i : Nat) : Str := if i = 6 then "way" else if i = 7 then "many" else "place"
def toldOf (i : Nat) (t : Str) : Str := if i = 6 then ("barred " : Str) ++ t else wordOf i ++ (" " : Str) ++ t
/-- the names of the classes -/
structure ErrN (mg : Str → Option Value) (CL : Nat → Addr) (RE : Addr) : Prop where
  re : mg "RoundError" = some (.ref RE)
  c0 : mg "BadYard" = some (.ref (CL 0))
  c1 : mg "BadText" = some (.ref (CL 1))
  c2 : mg "BadEnd" = some (.ref (CL 2))
  c3 : mg "BadSetting" = some (.ref (CL 3))
  c4 : mg "BadDraft" = some (.ref (CL 4))
  c5 : mg "OutOfPlace" = some (.ref (CL 5))
  c6 : mg "Barred" = some (.ref (CL 6))
  c7 : mg "TooMany" = some (.ref (CL 7))
  ve : mg "ValueError" = none
/-- the i-th class among them -/
structure ErrC (K : PySem.W.Frag) (CL : Nat → Addr) (RE : Addr) (i : Nat) : Prop where
  lt : i < 8
  exc : ExcC K (CL i)
  xf : XfC K (CL i)
  no : PySem.W.findIn K (.ref (CL i)) (fldOf i) = some none
  kits : ∀ j, j < 8 → PySem.W.kitOne K (.ref (CL i)) (.ref (CL j)) = some (decide (i = j))
  ve : PySem.W.kitOne K (.ref (CL i)) (.type "ValueError") = some true
  exm : PySem.W.exmOne K (.ref (CL i)) (.ref RE) = some true
/-- what is wished of what the deed raises -/
def XTold (K : PySem.W.Frag) (CL : Nat → Addr) (RE : Addr) (Q : VK) : XK := fun cls d H => ∃ (i : Nat) (dd : Addr) (v : V) (t : Str), ErrC K CL RE i ∧ cls = .ref (CL i) ∧ d = some dd ∧ H dd = some (.xd [(fldOf i, v)]) ∧ (∀ H', Same H H' → RepV K H' v t) ∧ t.length ≤ 1000000 ∧
  ∀ H', Same H H' → Q (.str (toldOf i t)) H'
def TTref (K : PySem.W.Frag) (CL : Nat → Addr) (RE : Addr) : (XK → Hp → VK → Prop) → Hp → VK → Prop := fun tl H Q => tl (XTold K CL RE Q) H fun _ H' => Q (.str "") H'
/-- pairs of a word and a truth -/
inductive KL (H : Hp) : List Addr → List (Str × Bool) → Prop
  | nil : KL H [] []
  | cons {a p as ps} : H a = some (.tup [.str p.1, .bl p.2]) → KL H as ps → KL H (a :: as) (p :: ps)
theorem KL.mono {H H' : Hp} {as : List Addr} {ps : List (Str × Bool)} (h : KL H as ps) (k : Same H H') : KL H' as ps := by
  induction h with
  | nil => exact .nil
  | cons e _ ih => exact .cons (k _ _ e) ih
theorem KL.get {H : Hp} {as : List Addr} {ps : List (Str × Bool)} (h : KL H as ps) : ∀ {i : Nat} {a : Addr}, as[i]? = some a → ∃ p, ps[i]? = some p ∧ H a = some (.tup [.str p.1, .bl p.2]) := by
  induction h with
  | nil => intro i a e; simp at e
  | cons h1 _ ih =>
    intro i a e
    cases i with
    | zero =>
      cases Option.some.inj e
      exact ⟨_, rfl, h1⟩
    | succ i => exact ih (i := i) (by simpa using e)
def kindsOf (i : Nat) : List (Str × Bool) := (List.range 8).map fun j => (wordOf j, decide (i = j))
end One
end P_X5

section P_X6
set_option linter.all false
set_option maxRecDepth 100000
set_option maxHeartbeats 8000000
namespace One
open PySem PySem.Spec PyProof.Rows L2
theorem last_of {H H' : Hp} {a : Addr} {o : HO} (_ : Same H (upd H' a o)) : (upd H' a o) a = some o := upd_same
theorem lookup_one {f : Str} {v : V} : List.lookup f [(f, v)] = some v := by
  rw [lookup_put, if_pos rfl]
theorem kinds_one : ∀ i, i < 8 → (kindsOf i).filter (·.2) = [(wordOf i, true)] := by
  have h : ∀ i : Fin 8, (kindsOf i).filter (·.2) = [(wordOf i, true)] := by decide +kernel
  exact fun i hi => h ⟨i, hi⟩
theorem word_short : ∀ i, i < 8 → (wordOf i).length ≤ 10 := by
  have h : ∀ i : Fin 8, (wordOf i).length ≤ 10 := by decide +kernel
  exact fun i hi => h ⟨i, hi⟩
theorem word_barred : ∀ i, i < 8 → decide (V.str (wordOf i) = V.str "barred") = decide (i = 6) := by
  intro i hi
  rw [dec_str]
  have h : ∀ i : Fin 8, (wordOf i == ("barred" : Str)) = decide ((i : Nat) = 6) := by decide +kernel
  exact h ⟨i, hi⟩
theorem word_many : ∀ i, i < 8 → decide (V.str (wordOf i) = V.str "many") = decide (i = 7) := by
  intro i hi
  rw [dec_str]
  have h : ∀ i : Fin 8, (wordOf i == ("many" : Str)) = decide ((i : Nat) = 7) := by decide +kernel
  exact h ⟨i, hi⟩
/-- (word, isinstance(caught, class)) -/
def tIs (K : PySem.W.Frag) (CL : Nat → Addr) (a : Addr) (cls : Value) (d : Option Addr) (w : Str) (j : Nat) : TE := tTup (tCons (tC (.str w)) (tCons (tCB (rIsX K a cls d) (tCons (tVar 1) (tCons (tC (.ref (CL j))) tNil))) tNil))
theorem is_read {K : PySem.W.Frag} {CL : Nat → Addr} {RE a dd : Addr} {i j : Nat} {w : Str} {σ : L2.St} {H : Hp} {Q : VK} {fs : List (Str × V)} (C : ErrC K CL RE i) (hj : j < 8) (h1 : σ[1]? = some (some (.ref a))) (hd : H dd = some (.xd fs))
    (q : ∀ p, H p = none → Q (.ref p) (upd H p (.tup [.str w, .bl (decide (i = j))]))) : tIs K CL a (.ref (CL i)) (some dd) w j σ H Q :=
  ⟨_, h1, CL i, dd, .ref (CL j), .ref (CL j), _, fs, rfl, rfl, rfl, C.exc, fun u r => r, C.kits j hj, hd, two_le, q⟩
section
variable {X : Cx}
theorem takes_len {W : WX} (tk : Takes X W) : Takes X fun cls d σ H => σ.length = X.N.length → W cls d σ H := fun u s' ⟨a, B, sI, pins, σ, H, cls, d, e, I, nb, up, sky, na, os, ag, w⟩ => tk u s' ⟨a, B, sI, pins, σ, H, cls, d, e, I, nb, up, sky, na, os, ag, w I.len⟩
theorem ref_gives {CL : Nat → Addr} {RE g : Addr} {cdg : Value} {q : Str} {k : Nat} (T : TB X.mg) (Nm : ErrN X.mg CL RE) (hgd : X.A.guards = some []) (hr : Room k X.A) :
    LamX.GivesTo X nRef "_law_refused" (defScope sRef) g cdg (defBody sRef) "deed" q (TTref X.K CL RE) := by
  intro f c' s H Q tl act hc h
  have nd := scRef.nd
  let cx : Cx := cxOf C8.CX0 X.prog X.w X.K X.mg X.base nRef "_law_refused" (defScope sRef) g cdg X.A X.stack s H C8.E0
  have hu : (X.A.deeper (envOfC "_law_refused" (defScope sRef) s.heap.objs.size g cdg)).units + 64 < cLine := by
    show X.A.units + 3 + 64 < cLine
    have := hr.un
    omega
  have gl : ∀ {x : Str}, (defScope sRef).names.lookup x = some .globalImplicit → Gl cx.nox x := fun h => h
  have iw : ∀ {a : Addr} {oe : Obj} {cls : Value} {d : Option Addr} {pn : List (Addr × Obj)} {w x : Str} {j n : Nat} {p0 p1 p2 p3 p4 p5 : Pos} (hz : Zc cls d oe) (hf : ∃ vs, oe.data = .fields vs) (hx : (defScope sRef).names.lookup x = some .globalImplicit) (hm : X.mg x = some (.ref (CL j))) (hdb : (x == ("__debug__" : Str)) = false),
      PE (cx.nox.tr ((a, oe) :: pn) cx.nox.xe) (.Tuple [.Constant (.str w) n p0, .Call (.Name "isinstance" p1) [.Name "caught" p2, .Name x p3] [] p4] 0 p5) (tIs X.K CL a cls d w j) := fun hz hf hx hm hdb =>
    pe_tup (pa_cons pe_str (pa_cons (pe_callB (cr_isX hz hf) (gl (by decide +kernel)) T.isinstance boot_isinstance (pa_cons (pv 1) (pa_cons (pe_glob (v := .ref (CL _)) (gl hx) hm rfl hdb) pa_nil))) pa_nil))
  have ixl : ∀ {a : Addr} {oe : Obj} {pn : List (Addr × Obj)}, IxR (cx.nox.tr ((a, oe) :: pn) cx.nox.xe) (rIxL X.K) := ix_list
  have opc : ∀ {a : Addr} {oe : Obj} {pn : List (Addr × Obj)}, OpR (cx.nox.tr ((a, oe) :: pn) cx.nox.xe) (binaryOp .Add) (rCatS X.K) := op_catS
  have lenc : ∀ {a : Addr} {oe : Obj} {pn : List (Addr × Obj)}, CallR (cx.nox.tr ((a, oe) :: pn) cx.nox.xe) (.builtin "len") (fun xs H Q => ∃ p ys, xs = [.ref p] ∧ (SqL X.K H p ys ∨ SqT X.K H p ys) ∧ Q (.int ys.length) H) := call_len_seq
  have repc : ∀ {a : Addr} {oe : Obj} {pn : List (Addr × Obj)}, CallR (cx.nox.tr ((a, oe) :: pn) cx.nox.xe) (.builtin "repr") (rRepV X.K) := cr_repV hgd hu
  have pil : ∀ {a : Addr} {oe : Obj} {pn : List (Addr × Obj)} {tg : Expr} {p : Pos}, PI (cx.nox.tr ((a, oe) :: pn) cx.nox.xe) tg (.Name "kinds" p) (iList X.K (tVar 3)) := pi_list (pv 3)
  have fld : ∀ {a : Addr} {oe : Obj} {cls : Value} {d : Option Addr} {pn : List (Addr × Obj)} {n : Str} {p0 p1 : Pos} (hz : Zc cls d oe) (hf : ∃ vs, oe.data = .fields vs), PE (cx.nox.tr ((a, oe) :: pn) cx.nox.xe) (.Attribute (.Name "caught" p0) n p1) (tFld X.K a cls d n (tVar 1)) := fun hz hf => pe_fld hz hf (pv 1)
  refine ⟨_, pss_cons (ps_set (i := 1) nd rfl (Or.inl rfl) pe_non) (pss_hold (X := cx.nox) (i := 2) (j := 1) (c := .ref RE) (Wout := fun _ _ _ _ => False)
    (tb := fun W D σ H => ∃ Ech : XK, (∀ cls d σ' H', Ech cls d H' → σ'.length = 7 → W cls d σ' H') ∧ σ[0]? = some (some (.ref f)) ∧ H c' = some (LamX.CodeO c' q) ∧ tl Ech H fun _ H' => D.nx σ H')
    rfl rfl nd rfl rfl rfl rfl ⟨gl (by decide +kernel), by decide +kernel, .inl Nm.re⟩ LamX.takes0 (by decide +kernel) (by decide +kernel) (fun W pn xe tk _ => ?_)
    (pss_cons (ps_if (pt_cmpR op_isN (pv 1) pe_non (nomark _)) (pss_one (ps_ret pe_str)) pss_nil) pss_never)
    (fun a oe cls d pn hz hf => pss_cons (ps_if (pt_cmpR op_isN (pv 1) pe_non (nomark _)) (pss_one (ps_ret pe_str)) pss_nil)
      (pss_cons (ps_set (i := 3) nd rfl (Or.inl rfl) (pe_lst (pa_cons (iw (j := 0) hz hf (by decide +kernel) Nm.c0 (by decide +kernel)) (pa_cons (iw (j := 1) hz hf (by decide +kernel) Nm.c1 (by decide +kernel)) pa_nil))))
      (pss_cons (ps_set (i := 3) nd rfl (Or.inl rfl) (pe_op opc (pv 3) (pe_lst (pa_cons (iw (j := 2) hz hf (by decide +kernel) Nm.c2 (by decide +kernel)) (pa_cons (iw (j := 3) hz hf (by decide +kernel) Nm.c3 (by decide +kernel)) pa_nil)))))
      (pss_cons (ps_set (i := 3) nd rfl (Or.inl rfl) (pe_op opc (pv 3) (pe_lst (pa_cons (iw (j := 4) hz hf (by decide +kernel) Nm.c4 (by decide +kernel)) (pa_cons (iw (j := 5) hz hf (by decide +kernel) Nm.c5 (by decide +kernel)) pa_nil)))))
      (pss_cons (ps_set (i := 3) nd rfl (Or.inl rfl) (pe_op opc (pv 3) (pe_lst (pa_cons (iw (j := 6) hz hf (by decide +kernel) Nm.c6 (by decide +kernel)) (pa_cons (iw (j := 7) hz hf (by decide +kernel) Nm.c7 (by decide +kernel)) pa_nil)))))
      (pss_cons (ps_setLc (i := 4) (own := [("word", 5), ("is_one", 6)]) (g := gTup X.K 2 (gCons (gName 5) (gCons (gName 6) gNil))) (tt := tB (tVar 6)) (te := tVar 5) rfl nd rfl rfl (sw_true rfl rfl rfl (by decide +kernel)) pil (blkOk_by (N := nRef) (sc := defScope sRef) (by decide +kernel))
          (fun _ _ _ _ _ => pg_tup rfl (pgs_cons (pg_name (i := 5) nd rfl (Or.inl rfl)) (pgs_cons (pg_name (i := 6) nd rfl (Or.inl rfl)) pgs_nil))) (fun _ _ _ _ _ => pts_one (pt_val (pv 6))) (fun _ _ _ _ _ => pv 5))
      (pss_cons (ps_if (PW.pt (pw_or (pt_cmpR op_ne (pe_callB lenc (gl (by decide +kernel)) T.len PySem.boot_len (pa_cons (pv 4) pa_nil)) pe_int (nomark _))
          (pw_or1 (pt_not (pt_val (pe_callB (cr_isX hz hf) (gl (by decide +kernel)) T.isinstance boot_isinstance (pa_cons (pv 1) (pa_cons (pe_bltn (v := .ty "ValueError") (gl (by decide +kernel)) Nm.ve PyProof.Rows.Boot.«ValueError» rfl) pa_nil)))))))) (pss_one (ps_ret pe_str)) pss_nil)
      (pss_cons (ps_if (pt_cmpR op_eq (pe_ix ixl (pv 4) pe_int (fun _ _ => rfl)) pe_str (nomark _)) (pss_one (ps_ret (pe_op op_add_str pe_str (pe_callB repc (gl (by decide +kernel)) T.repr boot_repr (pa_cons (fld hz hf) pa_nil))))) pss_nil)
      (pss_one (ps_ret (pe_op op_add_str (pe_op op_add_str (pe_ix ixl (pv 4) pe_int (fun _ _ => rfl)) pe_str)
          (pe_callB repc (gl (by decide +kernel)) T.repr boot_repr (pa_cons (pe_ifExp (pt_cmpR op_eq (pe_ix ixl (pv 4) pe_int (fun _ _ => rfl)) pe_str (nomark _)) (fld hz hf) (fld hz hf)) pa_nil)))))))))))))), ?_⟩
  · exact ⟨fun pins s' σ H' D I ⟨Ech, hW, h1, h2, h3⟩ => (pss_one (ps_expr (act (fun cls d σ H => σ.length = 7 → W cls d σ H) pn xe Ech _ _ (takes_len tk) hW))).run pins s' σ H' D I ⟨h1, h2, h3⟩⟩
  · refine ⟨XTold X.K CL RE Q, fun cls d σ' H1 hx hl => ?_, rfl, hc, ?_⟩
    · obtain ⟨i, dd, v, t, C, rfl, rfl, hd, hv, ht, k⟩ := hx
      refine ⟨true, C.exm, fun _ a ha => ?_, fun z => nomatch z⟩
      obtain ⟨s0, s1, s2, s3, s4, s5, s6, rfl⟩ : ∃ s0 s1 s2 s3 s4 s5 s6, σ' = [s0, s1, s2, s3, s4, s5, s6] := by
        match σ', hl with
        | [s0, s1, s2, s3, s4, s5, s6], _ => exact ⟨s0, s1, s2, s3, s4, s5, s6, rfl⟩
      refine ⟨_, rfl, rfl, _, rfl, iteF ?_⟩
      -- the kinds
      refine ⟨_, rfl, CL i, dd, .ref (CL 0), .ref (CL 0), _, _, rfl, rfl, rfl, C.exc, fun u r => r, C.kits 0 (by decide), hd, two_le, fun p0 hp0 => ?_⟩
      have z0 := Same.new (o := .tup [.str "yard", .bl (decide (i = 0))]) hp0
      refine ⟨_, rfl, CL i, dd, .ref (CL 1), .ref (CL 1), _, _, rfl, rfl, rfl, C.exc, fun u r => r, C.kits 1 (by decide), z0 _ _ hd, two_le, fun p1 hp1 => ?_⟩
      have z1 := z0.trans (Same.new (o := .tup [.str "text", .bl (decide (i = 1))]) hp1)
      refine ⟨two_le, fun l1 hl1 => ?_⟩
      have y1 := z1.trans (Same.new (o := .lst [V.ref p0, V.ref p1]) hl1)
      refine ⟨_, rfl, ?_⟩
      refine ⟨_, rfl, CL i, dd, .ref (CL 2), .ref (CL 2), _, _, rfl, rfl, rfl, C.exc, fun u r => r, C.kits 2 (by decide), y1 _ _ hd, two_le, fun p2 hp2 => ?_⟩
      have z2 := Same.new (o := .tup [.str "end", .bl (decide (i = 2))]) hp2
      refine ⟨_, rfl, CL i, dd, .ref (CL 3), .ref (CL 3), _, _, rfl, rfl, rfl, C.exc, fun u r => r, C.kits 3 (by decide), z2 _ _ (y1 _ _ hd), two_le, fun p3 hp3 => ?_⟩
      have z3 := z2.trans (Same.new (o := .tup [.str "setting", .bl (decide (i = 3))]) hp3)
      refine ⟨two_le, fun m1 hm1 => ?_⟩
      have x1 := z3.trans (Same.new (o := .lst [V.ref p2, V.ref p3]) hm1)
      refine ⟨_, _, _, _, rfl, rfl, SqL.of (x1 _ _ upd_same), upd_same, (by show 4 ≤ sizeLine; decide), fun l2 hl2 => ?_⟩
      have w1 := x1.trans (Same.new (o := .lst [V.ref p0, V.ref p1, V.ref p2, V.ref p3]) hl2)
      have y2 := y1.trans w1
      refine ⟨_, rfl, ?_⟩
      refine ⟨_, rfl, CL i, dd, .ref (CL 4), .ref (CL 4), _, _, rfl, rfl, rfl, C.exc, fun u r => r, C.kits 4 (by decide), y2 _ _ hd, two_le, fun p4 hp4 => ?_⟩
      have z4 := Same.new (o := .tup [.str "draft", .bl (decide (i = 4))]) hp4
      refine ⟨_, rfl, CL i, dd, .ref (CL 5), .ref (CL 5), _, _, rfl, rfl, rfl, C.exc, fun u r => r, C.kits 5 (by decide), z4 _ _ (y2 _ _ hd), two_le, fun p5 hp5 => ?_⟩
      have z5 := z4.trans (Same.new (o := .tup [.str "place", .bl (decide (i = 5))]) hp5)
      refine ⟨two_le, fun m2 hm2 => ?_⟩
      have x2 := z5.trans (Same.new (o := .lst [V.ref p4, V.ref p5]) hm2)
      refine ⟨_, _, _, _, rfl, rfl, SqL.of (x2 _ _ upd_same), upd_same, (by show 6 ≤ sizeLine; decide), fun l3 hl3 => ?_⟩
      have w2 := x2.trans (Same.new (o := .lst [V.ref p0, V.ref p1, V.ref p2, V.ref p3, V.ref p4, V.ref p5]) hl3)
      have y3 := y2.trans w2
      refine ⟨_, rfl, ?_⟩
      refine ⟨_, rfl, CL i, dd, .ref (CL 6), .ref (CL 6), _, _, rfl, rfl, rfl, C.exc, fun u r => r, C.kits 6 (by decide), y3 _ _ hd, two_le, fun p6 hp6 => ?_⟩
      have z6 := Same.new (o := .tup [.str "barred", .bl (decide (i = 6))]) hp6
      refine ⟨_, rfl, CL i, dd, .ref (CL 7), .ref (CL 7), _, _, rfl, rfl, rfl, C.exc, fun u r => r, C.kits 7 (by decide), z6 _ _ (y3 _ _ hd), two_le, fun p7 hp7 => ?_⟩
      have z7 := z6.trans (Same.new (o := .tup [.str "many", .bl (decide (i = 7))]) hp7)
      refine ⟨two_le, fun m3 hm3 => ?_⟩
      have x3 := z7.trans (Same.new (o := .lst [V.ref p6, V.ref p7]) hm3)
      refine ⟨_, _, _, _, rfl, rfl, SqL.of (x3 _ _ upd_same), upd_same, (by show 8 ≤ sizeLine; decide), fun l4 hl4 => ?_⟩
      have w3 := x3.trans (Same.new (o := .lst [V.ref p0, V.ref p1, V.ref p2, V.ref p3, V.ref p4, V.ref p5, V.ref p6, V.ref p7]) hl4)
      have y4 := y3.trans w3
      have d0 := w3 _ _ (w2 _ _ (w1 _ _ (Same.new (o := .lst [V.ref p0, V.ref p1]) hl1 _ _ (Same.new (o := .tup [.str "text", .bl (decide (i = 1))]) hp1 _ _ (upd_same (o := HO.tup [.str "yard", .bl (decide (i = 0))]))))))
      have d1 := w3 _ _ (w2 _ _ (w1 _ _ (Same.new (o := .lst [V.ref p0, V.ref p1]) hl1 _ _ (upd_same (o := HO.tup [.str "text", .bl (decide (i = 1))])))))
      have d2 := w3 _ _ (w2 _ _ (Same.new (o := .lst [V.ref p0, V.ref p1, V.ref p2, V.ref p3]) hl2 _ _ (Same.new (o := .lst [V.ref p2, V.ref p3]) hm1 _ _ (Same.new (o := .tup [.str "setting", .bl (decide (i = 3))]) hp3 _ _ (upd_same (o := HO.tup [.str "end", .bl (decide (i = 2))]))))))
      have d3 := w3 _ _ (w2 _ _ (Same.new (o := .lst [V.ref p0, V.ref p1, V.ref p2, V.ref p3]) hl2 _ _ (Same.new (o := .lst [V.ref p2, V.ref p3]) hm1 _ _ (upd_same (o := HO.tup [.str "setting", .bl (decide (i = 3))])))))
      have d4 := w3 _ _ (Same.new (o := .lst [V.ref p0, V.ref p1, V.ref p2, V.ref p3, V.ref p4, V.ref p5]) hl3 _ _ (Same.new (o := .lst [V.ref p4, V.ref p5]) hm2 _ _ (Same.new (o := .tup [.str "place", .bl (decide (i = 5))]) hp5 _ _ (upd_same (o := HO.tup [.str "draft", .bl (decide (i = 4))])))))
      have d5 := w3 _ _ (Same.new (o := .lst [V.ref p0, V.ref p1, V.ref p2, V.ref p3, V.ref p4, V.ref p5]) hl3 _ _ (Same.new (o := .lst [V.ref p4, V.ref p5]) hm2 _ _ (upd_same (o := HO.tup [.str "place", .bl (decide (i = 5))]))))
      have d6 := Same.new (o := .lst [V.ref p0, V.ref p1, V.ref p2, V.ref p3, V.ref p4, V.ref p5, V.ref p6, V.ref p7]) hl4 _ _ (Same.new (o := .lst [V.ref p6, V.ref p7]) hm3 _ _ (Same.new (o := .tup [.str "many", .bl (decide (i = 7))]) hp7 _ _ (upd_same (o := HO.tup [.str "barred", .bl (decide (i = 6))]))))
      have d7 := Same.new (o := .lst [V.ref p0, V.ref p1, V.ref p2, V.ref p3, V.ref p4, V.ref p5, V.ref p6, V.ref p7]) hl4 _ _ (Same.new (o := .lst [V.ref p6, V.ref p7]) hm3 _ _ (upd_same (o := HO.tup [.str "many", .bl (decide (i = 7))])))
      have hK : KL _ [p0, p1, p2, p3, p4, p5, p6, p7] (kindsOf i) := .cons d0 (.cons d1 (.cons d2 (.cons d3 (.cons d4 (.cons d5 (.cons d6 (.cons d7 .nil)))))))
      have hl4' := last_of w3
      have hl4' : _ = some (HO.lst (refs [p0, p1, p2, p3, p4, p5, p6, p7])) := hl4'
      have hd4 := y4 _ _ hd
      generalize hPs : [p0, p1, p2, p3, p4, p5, p6, p7] = ps at hK hl4'
      clear d0 d1 d2 d3 d4 d5 d6 d7
      refine ⟨_, rfl, l4, rfl, ⟨_, SqL.of hl4'⟩, fun D hD => ?_⟩
      have sD := Same.new (o := .lst []) hD
      have lenP : ps.length = 8 := by rw [← hPs]; rfl
      refine lc_it (walk_list (K := X.K) (a := l4) (xs := refs ps)) (fun n H6 => ∃ acc : List V, H6 D = some (.lst acc) ∧ acc = (((kindsOf i).take n).filter (·.2)).map (fun p => V.str p.1) ∧ n ≤ 8 ∧ Same _ H6) ⟨[], upd_same, rfl, Nat.zero_le _, sD⟩ (fun n H6 _ ⟨_, _, _, _, s6⟩ => SqL.of (s6 _ _ hl4')) ?_ ?_
      · rintro n x H6 H7 hn ⟨acc, hD6, ea, h8, s6⟩ ⟨rfl, hx⟩
        have hn8 : n < 8 := by rw [List.length_map, lenP] at hn; exact hn
        have hx : (refs ps)[n]? = some x := hx
        rw [List.getElem?_map, List.getElem?_eq_getElem (by omega : n < ps.length)] at hx
        cases hx
        obtain ⟨p, hp, hpa⟩ := hK.get (List.getElem?_eq_getElem (by omega : n < ps.length))
        have h6 := s6 _ _ hpa
        have step : (kindsOf i).take (n + 1) = (kindsOf i).take n ++ [p] := by
          rw [List.take_succ, hp]
          rfl
        refine ⟨_, _, rfl, SqT.of h6, rfl, _, _, rfl, _, _, rfl, rfl, rfl, ?_⟩
        refine ⟨_, rfl, _, rfl, ?_⟩
        refine ite2 (fun hb => ?_) (fun hb => ?_)
        · have hlen : acc.length ≤ 8 := by
            rw [ea, List.length_map]
            exact Nat.le_trans (List.length_filter_le _ _) (by rw [List.length_take]; omega)
          refine ⟨_, rfl, acc, hD6, small1000 (by omega), acc ++ [V.str p.1], upd_same, ?_, by omega, fun b o e => ?_⟩
          · rw [step, List.filter_append, List.map_append, ← ea]
            have : [p].filter (·.2) = [p] := by rw [List.filter_cons, if_pos hb, List.filter_nil]
            rw [this]
            rfl
          · rw [upd_ne (ne_of_none e hD)]
            exact s6 _ _ e
        · refine ⟨acc, hD6, ?_, by omega, s6⟩
          rw [step, List.filter_append]
          have : [p].filter (·.2) = [] := by rw [List.filter_cons, if_neg hb, List.filter_nil]
          rw [this, List.append_nil]
          exact ea
      · rintro H6 ⟨acc, hD6, ea, _, s6⟩
        have e8 : (refs ps).length = 8 := by rw [List.length_map, lenP]
        rw [e8, show (kindsOf i).take 8 = kindsOf i from rfl, kinds_one i C.lt] at ea
        have ea : acc = [V.str (wordOf i)] := ea
        subst ea
        have hd6 := s6 _ _ hd4
        have sA := y4.trans s6
        have hw := word_short i C.lt
        refine ⟨_, rfl, D, _, rfl, .inl (SqL.of hD6), rfl, _, rfl, ?_⟩
        refine ite2 (fun hb => absurd hb (by simp)) fun _ => ?_
        refine ⟨_, rfl, CL i, dd, .ty "ValueError", .type "ValueError", true, _, rfl, rfl, rfl, C.exc, fun u r => r, C.ve, hd6, true, rfl, iteF ?_⟩
        refine ⟨_, rfl, D, _, 0, _, rfl, rfl, SqL.of hD6, rfl, rfl, _, rfl, ?_⟩
        have hv6 := hv _ sA
        have hq := k _ sA
        have big : (2000000 : Nat) ≤ sizeLine := by decide
        by_cases h6 : i = 6
        · subst h6
          rw [show decide (V.str (wordOf 6) = V.str "barred") = true from word_barred 6 C.lt]
          refine iteT ⟨_, rfl, CL 6, dd, _, v, rfl, rfl, rfl, C.xf, C.no, hd6, lookup_one, v, t, rfl, hv6, _, _, rfl, rfl, ?_, hq⟩
          have : ("barred " : Str).length = 7 := rfl
          omega
        · rw [show decide (V.str (wordOf i) = V.str "barred") = false from (word_barred i C.lt).trans (decide_eq_false h6)]
          refine iteF ?_
          have et : toldOf i t = wordOf i ++ (" " : Str) ++ t := if_neg h6
          rw [et] at hq
          refine ⟨_, rfl, D, _, 0, _, rfl, rfl, SqL.of hD6, rfl, _, _, rfl, rfl, ?_, ?_⟩
          · have : (" " : Str).length = 1 := rfl
            omega
          refine ⟨_, rfl, D, _, 0, _, rfl, rfl, SqL.of hD6, rfl, rfl, _, rfl, ?_⟩
          have fin : ((wordOf i ++ (" " : Str)).length + t.length ≤ sizeLine) := by
            rw [strLen_append]
            have : (" " : Str).length = 1 := rfl
            omega
          by_cases h7 : i = 7
          · subst h7
            rw [show decide (V.str (wordOf 7) = V.str "many") = true from word_many 7 C.lt]
            exact iteT ⟨_, rfl, CL 7, dd, _, v, rfl, rfl, rfl, C.xf, C.no, hd6, lookup_one, v, t, rfl, hv6, _, _, rfl, rfl, fin, hq⟩
          · rw [show decide (V.str (wordOf i) = V.str "many") = false from (word_many i C.lt).trans (decide_eq_false h7)]
            refine iteF ?_
            have ef : fldOf i = "place" := by
              unfold fldOf
              rw [if_neg h6, if_neg h7]
            rw [ef] at hd6
            refine ⟨_, rfl, CL i, dd, _, v, rfl, rfl, rfl, C.xf, ef ▸ C.no, hd6, lookup_one, v, t, rfl, hv6, _, _, rfl, rfl, fin, hq⟩
    · have e : (fun (_ : V) (H' : Hp) => tSeq (tIfS (tTest (tOp (fun x y H Q => y = V.non ∧ Q (V.bl (decide (x = V.non))) H) (tVar 1) (tC V.non))) (tRet (tC (V.str ("" : Str)))) tNext) tNever { nx := fun _ H' => Q V.non H', rt := Q } ((L2.start nRef [V.ref f]).set 1 (some V.non)) H') = fun _ H' => Q (.str "") H' := by
        funext _ H'
        refine propext ⟨fun ⟨v, hv, e1, b, eb, hi⟩ => ?_, fun hq => ⟨_, rfl, rfl, _, rfl, iteT hq⟩⟩
        cases hv
        cases eb
        have hi : if (true : Bool) = true then _ else _ := hi
        rw [if_pos rfl] at hi
        exact hi
      exact Eq.mpr (congrArg (tl (XTold X.K CL RE Q) H) e) h
end
end One
end P_X6

section P_F1
set_option linter.all false
set_option maxRecDepth 100000
set_option maxHeartbeats 8000000
namespace One
open PySem PySem.Spec PyProof.Rows L2
abbrev sFars : Stmt := top 27
abbrev sMate : Stmt := top 28
abbrev sCloses : Stmt := top 31
abbrev sLeft : Stmt := top 32
abbrev sBehind : Stmt := top 33
abbrev sUp : Stmt := top 34
abbrev nFars : List Str := ["lines", "fars", "low", "high"]
abbrev nCloses : List Str := ["fars", "crossing", "way", "first", "end"]
abbrev nLeft : List Str := ["fars", "crossing", "way", "lines", "end", "behind"]
abbrev nBehind : List Str := ["fars", "end", "crossing", "way", "behind"]
theorem scFars : FnScope nFars ["lines"] (defScope sFars) := ⟨rfl, rfl, rfl, by decide +kernel, rfl, by decide +kernel, by decide +kernel⟩
theorem scMate : FnScope ["end", "way"] ["end", "way"] (defScope sMate) := ⟨rfl, rfl, rfl, by decide +kernel, rfl, by decide +kernel, by decide +kernel⟩
theorem scCloses : FnScope nCloses ["fars", "crossing", "way"] (defScope sCloses) := ⟨rfl, rfl, rfl, by decide +kernel, rfl, by decide +kernel, by decide +kernel⟩
theorem scLeft : FnScope nLeft ["fars", "crossing", "way"] (defScope sLeft) := ⟨rfl, rfl, rfl, by decide +kernel, rfl, by decide +kernel, by decide +kernel⟩
theorem scBehind : FnScope nBehind ["fars", "end", "crossing", "way"] (defScope sBehind) := ⟨rfl, rfl, rfl, by decide +kernel, rfl, by decide +kernel, by decide +kernel⟩
theorem scUp : FnScope ["end", "crossing"] ["end", "crossing"] (defScope sUp) := ⟨rfl, rfl, rfl, by decide +kernel, rfl, by decide +kernel, by decide +kernel⟩
/-- the far ends of m crossings, as a list -/
def farL (F : Nat → Nat) (m : Nat) : List V := nats ((List.range (4 * m)).map F)
theorem farL_at {F : Nat → Nat} {m e : Nat} (h : e < 4 * m) : (farL F m)[e]? = some (V.int (F e : Nat)) := by
  unfold farL nats
  rw [List.getElem?_map, List.getElem?_map, List.getElem?_range h]
  rfl
theorem farL_len (F : Nat → Nat) (m : Nat) : (farL F m).length = 4 * m := by
  unfold farL nats
  rw [List.length_map, List.length_map, List.length_range]
def upOf (c e : Nat) : Nat := if c < e / 4 then e - 4 else e
def spFars : Sp := fun vs H Q _ => ∃ (t : Addr) (n : Nat) (as : List Addr) (ps : List (Nat × Nat)), vs = [.ref t] ∧ H t = some (.tup (refs as)) ∧ PL H as ps ∧ Lines n ps ∧ n ≤ 100 ∧ ∀ (H' : Hp) (L : Addr), Same H H' → H L = none → H' L = some (.lst (farL (far ps) n)) → Q (.ref L) H'
def spMate : Sp := fun vs H Q _ => ∃ e w : Nat, vs = [.int (e : Nat), .int (w : Nat)] ∧ Q (.int ((e ^^^ (w + 1) : Nat))) H
def spUp : Sp := fun vs H Q _ => ∃ e c : Nat, vs = [.int (e : Nat), .int (c : Nat)] ∧ Q (.int (upOf c e : Nat)) H
section
variable {P : Program} {w : World} {K : PySem.W.Frag} {mg : Str → Option Value} {base : Heap}
theorem ok_mate {f : Addr} {fd : FuncData} (F : Fun K "mate" "mate" sMate f fd) : FnOk P w K mg base CX0 1 f fd ["end", "way"] spMate := by
  refine F.ok scMate (fun vs H Q E h => ?_) (fun cdv A outer s H vs Q E hr h => ?_)
  · obtain ⟨e, w, rfl, _⟩ := h
    rfl
  · obtain ⟨e, w, rfl, k⟩ := h
    refine ⟨_, pss_one (ps_ret (pe_op op_xor (pv 0) (pe_op op_add (pv 1) pe_int))), ?_⟩
    refine ⟨_, rfl, _, rfl, _, _, rfl, rfl, _, _, rfl, rfl, ?_⟩
    show Q (.int (Builtin.bitXor ((e : Nat) : Int) (((w : Nat) : Int) + 1))) H
    have : Builtin.bitXor ((e : Nat) : Int) (((w : Nat) : Int) + 1) = ((e ^^^ (w + 1) : Nat) : Int) := by
      rw [Bits.bitXor_pp (by omega) (by omega)]
      have : (((w : Nat) : Int) + 1).toNat = w + 1 := by omega
      rw [this]
      rfl
    rw [this]
    exact k
theorem ok_up {f : Addr} {fd : FuncData} (F : Fun K "closed_up" "closed_up" sUp f fd) (C : TC mg) : FnOk P w K mg base CX0 1 f fd ["end", "crossing"] spUp := by
  refine F.ok scUp (fun vs H Q E h => ?_) (fun cdv A outer s H vs Q E hr h => ?_)
  · obtain ⟨e, c, rfl, _⟩ := h
    rfl
  · obtain ⟨e, c, rfl, k⟩ := h
    obtain ⟨t4, ht4⟩ := C.places
    refine ⟨_, pss_one (ps_ret (pe_ifExp (pt_cmpR op_gt (pe_op op_fdiv (pv 0) (pe_glob (v := .int 4) rfl ht4 ⟨_, rfl⟩)) (pv 1) (nomark _)) (pe_op op_sub (pv 0) (pe_glob (v := .int 4) rfl ht4 ⟨_, rfl⟩)) (pv 0))), ?_⟩
    refine ⟨_, rfl, _, _, rfl, rfl, ⟨by decide, by decide⟩, _, rfl, _, _, rfl, rfl, _, rfl, ?_⟩
    by_cases h : c < e / 4
    · refine (ite2 (fun _ => ?_) (fun z => absurd (decide_eq_true (show ((c : Nat) : Int) < ((e : Nat) : Int) / 4 by omega)) z))
      refine ⟨_, rfl, _, _, rfl, rfl, ?_⟩
      have e1 : ((e : Nat) : Int) - 4 = ((upOf c e : Nat) : Int) := by
        unfold upOf
        rw [if_pos h]
        omega
      show Q (.int (((e : Nat) : Int) - 4)) H
      rw [e1]
      exact k
    · refine (ite2 (fun z => absurd (of_decide_eq_true z) (show ¬ ((c : Nat) : Int) < ((e : Nat) : Int) / 4 by omega)) (fun _ => ?_))
      refine ⟨_, rfl, ?_⟩
      have e1 : upOf c e = e := if_neg h
      rw [e1] at k
      exact k
end
end One
end P_F1

section P_F2
set_option linter.all false
set_option maxRecDepth 100000
set_option maxHeartbeats 8000000
namespace One
open PySem PySem.Spec PyProof.Rows L2
section
variable {P : Program} {w : World} {K : PySem.W.Frag} {mg : Str → Option Value} {base : Heap}
theorem nats_set (r : List Nat) (j x : Nat) : (nats r).set j (V.int (x : Nat)) = nats (r.set j x) := (List.map_set).symm
theorem ok_fars {f : Addr} {fd : FuncData} (F : Fun K "fars_of_lines" "fars_of_lines" sFars f fd) (T : TB mg) : FnOk P w K mg base CX0 1 f fd ["lines"] spFars := by
  refine F.ok scFars (fun vs H Q E h => ?_) (fun cdv A outer s H vs Q E hr h => ?_)
  · obtain ⟨t, n, as, ps, rfl, _⟩ := h
    rfl
  · obtain ⟨t, n, as, ps, rfl, ht, hP, L, hn, k⟩ := h
    have nd := scFars.nd
    have hal : as.length = 2 * n := by rw [hP.len, L.len]
    have nl : (refs as).length = as.length := List.length_map _
    refine ⟨_, pss_cons (ps_set (i := 1) nd rfl (Or.inl rfl) (pe_op op_rep (pe_lst (pa_cons pe_int pa_nil)) (pe_op op_mul pe_int (pe_callB call_len_seq (by rfl) T.len PySem.boot_len (pa_cons (pv 0) pa_nil)))))
      (pss_cons (ps_for PassesOwn.never rfl (pi_tup (pv 0)) (pg_tup rfl (pgs_cons (pg_name (i := 2) nd rfl (Or.inl rfl)) (pgs_cons (pg_name (i := 3) nd rfl (Or.inl rfl)) pgs_nil)))
        (pss_cons (ps_asg (pv 3) (pg_sub (pv 1) (pv 2) set_list)) (pss_one (ps_asg (pv 2) (pg_sub (pv 1) (pv 3) set_list)))))
      (pss_one (ps_ret (pv 1)))), ?_⟩
    have e4 : (2 : Int) * (((refs as).length : Nat) : Int) = ((4 * n : Nat) : Int) := by rw [nl, hal]; omega
    refine ⟨by show 1 ≤ sizeLine; decide, fun l1 hl1 => ?_⟩
    have s1 := Same.new (o := .lst [V.int 0]) hl1
    refine ⟨_, rfl, t, _, rfl, .inr (SqT.of (s1 _ _ ht)), _, _, rfl, rfl, .inl ⟨by decide, by decide⟩, l1, ((4 * n : Nat) : Int), _, rfl, (by show V.int ((2 : Int) * (((refs as).length : Nat) : Int)) = _; rw [e4]), upd_same, by omega, by omega, (by show 1 * _ ≤ _; exact Nat.le_of_lt (small1000 (by omega))), fun R hR => ?_⟩
    have eR : (List.replicate ((4 * n : Nat) : Int).toNat [V.int 0]).flatten = nats (List.replicate (4 * n) 0) := by
      rw [show ((4 * n : Nat) : Int).toNat = 4 * n by omega]
      show _ = (List.replicate (4 * n) 0).map _
      rw [List.map_replicate]
      exact flat_rep _ _
    have hR0 : H R = none := s1.free hR
    have s2 := Same.new (o := .lst (List.replicate ((4 * n : Nat) : Int).toNat [V.int 0]).flatten) hR
    have nR : ∀ b o, H b = some o → b ≠ R := fun b o e => ne_of_none e hR0
    refine ⟨_, rfl, t, rfl, ⟨_, SqT.of ((s1.trans s2) _ _ ht)⟩, for_tup (K := K) (a := t) (xs := refs as) (fun i σ H7 => ∃ (r : List Nat) (v2 v3 : Option V), σ = [some (.ref t), some (.ref R), v2, v3] ∧ Same H H7 ∧ H7 R = some (.lst (nats r)) ∧ r.length = 4 * n ∧ ∀ e, e < 4 * n → r[e]? = some (far (ps.take i) e))
      ⟨List.replicate (4 * n) 0, none, none, rfl, s1.trans s2, by rw [upd_same, eR], List.length_replicate, fun e he => by rw [List.getElem?_replicate, if_pos he]; rfl⟩ (fun i σ H7 _ ⟨_, _, _, _, h, _⟩ => SqT.of (h _ _ ht)) ?_ ?_⟩
    · rintro i x σ H7 hx ⟨r, v2, v3, rfl, s7, hR7, hrl, hr7⟩
      obtain ⟨a, ha⟩ : ∃ a, as[i]? = some a := by
        rw [List.getElem?_map] at hx
        cases e : as[i]? with
        | none =>
          rw [e] at hx
          cases hx
        | some a => exact ⟨a, rfl⟩
      rw [List.getElem?_map, ha] at hx
      cases hx
      obtain ⟨p, hp, pa⟩ := hP.got ha
      have mp := List.mem_of_getElem? hp
      have q1 := L.lt _ (mem_ends.mpr ⟨p, mp, .inl rfl⟩)
      have q2 := L.lt _ (mem_ends.mpr ⟨p, mp, .inr rfl⟩)
      have pa7 := s7 _ _ pa
      have etk := take_ends (H := H) hp
      have ndt : (ends (ps.take i ++ [p])).Nodup := by
        rw [← etk]
        have := L.nd
        rw [← List.take_append_drop (i + 1) ps, ends_append] at this
        exact (List.nodup_append.mp this).1
      refine ⟨a, _, rfl, SqT.of pa7, rfl, _, _, rfl, _, _, rfl, rfl, ?_⟩
      refine ⟨_, rfl, _, rfl, _, rfl, R, _, _, p.1, rfl, rfl, hR7, ix_nat (by rw [List.length_map, hrl]; exact q1), ?_⟩
      rw [nats_set]
      refine ⟨_, rfl, _, rfl, _, rfl, R, _, _, p.2, rfl, rfl, upd_same, ix_nat (by rw [List.length_map, List.length_set, hrl]; exact q2), ?_⟩
      rw [nats_set]
      refine ⟨(r.set p.1 p.2).set p.2 p.1, _, _, rfl, fun b o e => ?_, upd_same, by rw [List.length_set, List.length_set, hrl], fun e he => ?_⟩
      · rw [upd_ne (nR _ _ e), upd_ne (nR _ _ e)]
        exact s7 _ _ e
      · rw [etk, far_snoc ndt]
        have hne := nodup_pair L.nd p mp
        by_cases e2 : p.2 = e
        · subst e2
          rw [List.getElem?_set_self (by rw [List.length_set, hrl]; exact q2), if_neg (Ne.symm hne), if_pos rfl]
        · rw [List.getElem?_set_ne e2]
          by_cases e1 : p.1 = e
          · subst e1
            rw [List.getElem?_set_self (by rw [hrl]; exact q1), if_pos rfl]
          · rw [List.getElem?_set_ne e1, if_neg (Ne.symm e1), if_neg (Ne.symm e2)]
            exact hr7 e he
    · rintro σ H7 ⟨r, v2, v3, rfl, s7, hR7, hrl, hr7⟩
      refine ⟨_, rfl, k _ R s7 hR0 ?_⟩
      rw [nl, hP.len, List.take_length] at hr7
      rw [hR7]
      congr 2
      show nats r = nats _
      congr 1
      refine List.ext_getElem? fun e => ?_
      by_cases he : e < 4 * n
      · rw [hr7 e he, List.getElem?_map, List.getElem?_range he]
        rfl
      · rw [List.getElem?_eq_none (by omega), List.getElem?_eq_none (by rw [List.length_map, List.length_range]; omega)]
theorem xor_block {b x c : Nat} (hb : b / 4 = c) (hx : x < 4) : (b ^^^ x) / 4 = c := by
  have := Nat.xor_div_two_pow (a := b) (b := x) (n := 2)
  rw [show (2 : Nat) ^ 2 = 4 from rfl] at this
  rw [this, hb, show x / 4 = 0 by omega, Nat.xor_zero]
def spBehind : Sp := fun vs H Q _ => ∃ (L : Addr) (m : Nat) (F : Nat → Nat) (e c w k g : Nat), vs = [.ref L, .int (e : Nat), .int (c : Nat), .int (w : Nat)] ∧ H L = some (.lst (farL F m)) ∧ e < 4 * m ∧ c < m ∧ w < 3 ∧ backK F c w k (F e) = some g ∧ Q (.int (g : Nat)) H
theorem ok_behind {f fM : Addr} {fd fdM : FuncData} (F : Fun K "end_behind" "end_behind" sBehind f fd) (C : TC mg) (M : Cal K mg "mate" fM fdM ["end", "way"]) (GM : FnOk P w K mg base CX0 1 fM fdM ["end", "way"] spMate) :
    FnOk P w K mg base CX0 2 f fd ["fars", "end", "crossing", "way"] spBehind := by
  refine F.ok scBehind (fun vs H Q E h => ?_) (fun cdv A outer s H vs Q E hr h => ?_)
  · obtain ⟨L, m, F, e, c, w, k, g, rfl, _⟩ := h
    rfl
  · obtain ⟨L, m, F, e, c, w', k, g, rfl, hL, he, hc, hw, hg, q⟩ := h
    have nd := scBehind.nd
    obtain ⟨t4, ht4⟩ := C.places
    refine ⟨_, C8.pss_cut (ps_set (i := 4) nd rfl (Or.inl rfl) (pe_ix ix_list (pv 0) (pv 1) (fun _ _ => rfl)))
      (pss_cons (ps_while PassesOwn.never (pt_cmpR op_eq (pe_op op_fdiv (pv 4) (pe_glob (v := .int 4) rfl ht4 ⟨_, rfl⟩)) (pv 2) (nomark _))
        (pss_one (ps_set (i := 4) nd rfl (Or.inl rfl) (pe_ix ix_list (pv 0) (pe_call GM hr rfl M.g M.kp M.b .nil pass0 (pa_cons (pv 4) (pa_cons (pv 3) pa_nil))) (fun _ _ => rfl)))))
      (pss_one (ps_ret (pv 4)))), ?_⟩
    refine ⟨fun σ H' => σ = [some (.ref L), some (.int (e : Nat)), some (.int (c : Nat)), some (.int (w' : Nat)), some (.int (F e : Nat))] ∧ H' = H, ⟨_, rfl, _, rfl, L, _, _, _, rfl, rfl, SqL.of hL, at_of (j := e) rfl (farL_at he), rfl, rfl⟩, ?_⟩
    rintro σ0 H0 ⟨rfl, rfl⟩
    unfold tSeq
    refine ⟨fun k σ H' => ∃ b : Nat, σ = [some (.ref L), some (.int (e : Nat)), some (.int (c : Nat)), some (.int (w' : Nat)), some (.int (b : Nat))] ∧ H' = H0 ∧ backK F c w' k b = some g, ⟨k, F e, rfl, rfl, hg⟩, ?_⟩
    rintro k σ H1 ⟨b, rfl, rfl, hb⟩
    refine ⟨_, rfl, _, _, rfl, rfl, ⟨by decide, by decide⟩, _, rfl, rfl, _, rfl, ?_⟩
    by_cases hbc : b / 4 = c
    · have e1 : decide (V.int (((b : Nat) : Int) / 4) = V.int (c : Nat)) = true := decide_eq_true (by rw [show ((b : Nat) : Int) / 4 = ((b / 4 : Nat) : Int) by omega, hbc])
      show if decide (V.int (((b : Nat) : Int) / 4) = V.int (c : Nat)) = true then _ else _
      rw [e1]
      refine iteT ?_
      cases k with
      | zero =>
        have z : (none : Option Nat) = some g := (if_pos hbc).symm.trans hb
        cases z
      | succ k =>
        rw [backK_in hbc] at hb
        have hx := xor_block (x := w' + 1) hbc (by omega)
        refine ⟨fun σ' H' => ∃ b : Nat, σ' = [some (.ref L), some (.int (e : Nat)), some (.int (c : Nat)), some (.int (w' : Nat)), some (.int (b : Nat))] ∧ H' = H1 ∧ backK F c w' k b = some g, fun σ' H' h => ⟨k, Nat.lt_succ_self _, h⟩, ?_⟩
        exact ⟨_, rfl, _, rfl, _, rfl, b, w', rfl, L, _, _, _, rfl, rfl, SqL.of hL, at_of (j := b ^^^ (w' + 1)) rfl (farL_at (by omega)), _, rfl, rfl, hb⟩
    · have e1 : decide (V.int (((b : Nat) : Int) / 4) = V.int (c : Nat)) = false := decide_eq_false (fun z => hbc (by
        have z := V.int.inj z
        omega))
      show if decide (V.int (((b : Nat) : Int) / 4) = V.int (c : Nat)) = true then _ else _
      rw [e1]
      refine iteF ?_
      rw [backK_out hbc] at hb
      cases hb
      exact ⟨_, rfl, q⟩
end
end One
end P_F2

section P_F3
set_option linter.all false
set_option maxRecDepth 100000
set_option maxHeartbeats 8000000
namespace One
open PySem PySem.Spec PyProof.Rows L2
/-- does some end of crossing c lead straight to its own mate? -/
def closesB (F : Nat → Nat) (c w : Nat) : Bool := (List.range 4).any fun r => decide (F (4 * c + r) = (4 * c + r) ^^^ (w + 1))
theorem closesB_not {F : Nat → Nat} {c w : Nat} (h : ∀ r, r < 4 → F (4 * c + r) ≠ (4 * c + r) ^^^ (w + 1)) : closesB F c w = false := by
  unfold closesB
  refine List.any_eq_false.mpr fun r hr => ?_
  rw [decide_eq_false (h r (List.mem_range.mp hr))]
  decide
theorem closesB_yes {F : Nat → Nat} {c w r : Nat} (hr : r < 4) (h : F (4 * c + r) = (4 * c + r) ^^^ (w + 1)) : closesB F c w = true :=
  List.any_eq_true.mpr ⟨r, List.mem_range.mpr hr, decide_eq_true h⟩
def spCloses : Sp := fun vs H Q _ => ∃ (L : Addr) (m : Nat) (F : Nat → Nat) (c w : Nat), vs = [.ref L, .int (c : Nat), .int (w : Nat)] ∧ H L = some (.lst (farL F m)) ∧ c < m ∧ m ≤ 100 ∧ Q (.bl (closesB F c w)) H
/-- the lines that are left when crossing c goes: B tells what lies behind an end -/
def leftOf (B : Nat → Nat) (c m : Nat) : List (Nat × Nat) := (List.range m).filterMap fun e => if e / 4 ≠ c ∧ e < B e then some (upOf c e, upOf c (B e)) else none
theorem leftOf_snoc (B : Nat → Nat) (c m : Nat) : leftOf B c (m + 1) = leftOf B c m ++ (if m / 4 ≠ c ∧ m < B m then [(upOf c m, upOf c (B m))] else []) := by
  unfold leftOf
  rw [List.range_succ, List.filterMap_append]
  by_cases h : m / 4 ≠ c ∧ m < B m
  · simp [h]
  · simp [h]
def spLeft : Sp := fun vs H Q _ => ∃ (L : Addr) (m : Nat) (F B : Nat → Nat) (c w : Nat), vs = [.ref L, .int (c : Nat), .int (w : Nat)] ∧ H L = some (.lst (farL F m)) ∧ c < m ∧ m ≤ 100 ∧ w < 3 ∧ (∀ e, e < 4 * m → e / 4 ≠ c → ∃ k, backK F c w k (F e) = some (B e)) ∧
  ∀ (H' : Hp) (t : Addr) (as : List Addr), Same H H' → H' t = some (.tup (refs as)) → PL H' as (leftOf B c (4 * m)) → Q (.ref t) H'
section
variable {P : Program} {w : World} {K : PySem.W.Frag} {mg : Str → Option Value} {base : Heap}
theorem ok_closes {f fM : Addr} {fd fdM : FuncData} (F : Fun K "closes" "closes" sCloses f fd) (T : TB mg) (C : TC mg) (M : Cal K mg "mate" fM fdM ["end", "way"]) (GM : FnOk P w K mg base CX0 1 fM fdM ["end", "way"] spMate) :
    FnOk P w K mg base CX0 2 f fd ["fars", "crossing", "way"] spCloses := by
  refine F.ok scCloses (fun vs H Q E h => ?_) (fun cdv A outer s H vs Q E hr h => ?_)
  · obtain ⟨L, m, F, c, w, rfl, _⟩ := h
    rfl
  · obtain ⟨L, m, F, c, w', rfl, hL, hc, hm, q⟩ := h
    have nd := scCloses.nd
    obtain ⟨t4, ht4⟩ := C.places
    refine ⟨_, pss_cons (ps_set (i := 3) nd rfl (Or.inl rfl) (pe_op op_mul (pe_glob (v := .int 4) rfl ht4 ⟨_, rfl⟩) (pv 1)))
      (pss_cons (ps_for PassesOwn.never rfl (pi_range2 (by rfl) T.range (pa_cons (pv 3) (pa_cons (pe_op op_add (pv 3) (pe_glob (v := .int 4) rfl ht4 ⟨_, rfl⟩)) pa_nil))) (pg_name (i := 4) nd rfl (Or.inl rfl))
        (pss_one (ps_if (pt_cmpR op_eq (pe_ix ix_list (pv 0) (pv 4) (fun _ _ => rfl)) (pe_call GM hr rfl M.g M.kp M.b .nil pass0 (pa_cons (pv 4) (pa_cons (pv 2) pa_nil))) (nomark _)) (pss_one (ps_ret pe_bl)) pss_nil)))
      (pss_one (ps_ret pe_bl))), ?_⟩
    have e4 : ((4 : Int) * (c : Nat)) = ((4 * c : Nat) : Int) := by omega
    refine ⟨_, rfl, _, _, rfl, rfl, .inl ⟨by decide, by decide⟩, ?_⟩
    refine ⟨_, rfl, _, rfl, _, _, rfl, rfl, (4 : Int) * (c : Nat), (4 : Int) * (c : Nat) + 4, rfl, ⟨by omega, by omega, by omega, by omega⟩, ?_⟩
    refine for_range (lo := (4 : Int) * (c : Nat)) (n := ((4 : Int) * (c : Nat) + 4 - (4 : Int) * (c : Nat)).toNat) (fun i σ H' => ∃ v4, σ = [some (.ref L), some (.int (c : Nat)), some (.int (w' : Nat)), some (.int ((4 : Int) * (c : Nat))), v4] ∧ H' = H ∧ ∀ r, r < i → F (4 * c + r) ≠ (4 * c + r) ^^^ (w' + 1))
      ⟨none, rfl, rfl, fun r hr => absurd hr (by omega)⟩ ?_ ?_
    · rintro i σ H' hi ⟨v4, rfl, rfl, hno⟩
      have ei : ((4 : Int) * (c : Nat) + (i : Nat)) = ((4 * c + i : Nat) : Int) := by omega
      have hlt : 4 * c + i < 4 * m := by omega
      refine ⟨_, rfl, _, rfl, L, _, _, _, rfl, rfl, SqL.of hL, at_of (j := 4 * c + i) ei (farL_at hlt), _, rfl, _, rfl, 4 * c + i, w', (by rw [← ei]; rfl), rfl, _, rfl, ?_⟩
      by_cases he : F (4 * c + i) = (4 * c + i) ^^^ (w' + 1)
      · have e1 : decide (V.int (F (4 * c + i) : Nat) = V.int (((4 * c + i) ^^^ (w' + 1) : Nat) : Int)) = true := decide_eq_true (by rw [he])
        show if decide (V.int (F (4 * c + i) : Nat) = V.int (((4 * c + i) ^^^ (w' + 1) : Nat) : Int)) = true then _ else _
        rw [e1]
        refine iteT ?_
        rw [closesB_yes (r := i) (by omega) he] at q
        exact q
      · have e1 : decide (V.int (F (4 * c + i) : Nat) = V.int (((4 * c + i) ^^^ (w' + 1) : Nat) : Int)) = false := decide_eq_false (fun z => he (by
          have z := V.int.inj z
          omega))
        show if decide (V.int (F (4 * c + i) : Nat) = V.int (((4 * c + i) ^^^ (w' + 1) : Nat) : Int)) = true then _ else _
        rw [e1]
        refine iteF ⟨_, rfl, rfl, fun r hr => ?_⟩
        by_cases e : r = i
        · rw [e]; exact he
        · exact hno r (by omega)
    · rintro σ H' ⟨v4, rfl, rfl, hno⟩
      rw [closesB_not (fun r hr => hno r (by omega))] at q
      exact q
theorem ok_left {f fB fU : Addr} {fd fdB fdU : FuncData} (F : Fun K "lines_left" "lines_left" sLeft f fd) (T : TB mg) (C : TC mg) (B : Cal K mg "end_behind" fB fdB ["fars", "end", "crossing", "way"]) (GB : FnOk P w K mg base CX0 2 fB fdB ["fars", "end", "crossing", "way"] spBehind)
    (U : Cal K mg "closed_up" fU fdU ["end", "crossing"]) (GU : FnOk P w K mg base CX0 1 fU fdU ["end", "crossing"] spUp) : FnOk P w K mg base CX0 3 f fd ["fars", "crossing", "way"] spLeft := by
  refine F.ok scLeft (fun vs H Q E h => ?_) (fun cdv A outer s H vs Q E hr h => ?_)
  · obtain ⟨L, m, F, B, c, w, rfl, _⟩ := h
    rfl
  · obtain ⟨L, m, F, B', c, w', rfl, hL, hc, hm, hw, hB, q⟩ := h
    have nd := scLeft.nd
    obtain ⟨t4, ht4⟩ := C.places
    have hr1 : Room 1 _ := hr.mono (by decide)
    refine ⟨_, pss_cons (ps_set (i := 3) nd rfl (Or.inl rfl) (pe_lst pa_nil))
      (pss_cons (ps_for PassesOwn.never rfl (pi_range1 (by rfl) T.range (pa_cons (pe_callB call_len_seq (by rfl) T.len PySem.boot_len (pa_cons (pv 0) pa_nil)) pa_nil)) (pg_name (i := 4) nd rfl (Or.inl rfl))
        (pss_one (ps_if (pt_cmpR op_ne (pe_op op_fdiv (pv 4) (pe_glob (v := .int 4) rfl ht4 ⟨_, rfl⟩)) (pv 1) (nomark _))
          (pss_cons (ps_set (i := 5) nd rfl (Or.inl rfl) (pe_call GB hr rfl B.g B.kp B.b .nil pass0 (pa_cons (pv 0) (pa_cons (pv 4) (pa_cons (pv 1) (pa_cons (pv 2) pa_nil))))))
            (pss_one (ps_if (pt_cmpR op_lt (pv 4) (pv 5) (nomark _))
              (pss_one (ps_expr (pe_bm PySem.F.plainAttrs_list PySem.F.slot_list_append PySem.F.type_list_append mt_append (pv 3) (pa_cons (pe_tup (pa_cons (pe_call GU hr1 rfl U.g U.kp U.b .nil pass0 (pa_cons (pv 4) (pa_cons (pv 1) pa_nil)))
                (pa_cons (pe_call GU hr1 rfl U.g U.kp U.b .nil pass0 (pa_cons (pv 5) (pa_cons (pv 1) pa_nil))) pa_nil))) pa_nil)))) pss_nil))) pss_nil)))
      (pss_one (ps_ret (pe_tupleOf (by rfl) T.tuple (pv 3))))), ?_⟩
    refine ⟨Nat.zero_le _, fun D hD => ?_⟩
    have sD := Same.new (o := .lst []) hD
    have hLn : L ≠ D := ne_of_none hL hD
    have lenF : (farL F m).length = 4 * m := farL_len F m
    refine ⟨_, rfl, L, _, rfl, .inl (SqL.of (sD _ _ hL)), 4 * m, (by rw [lenF]; rfl), by omega, by omega, ?_⟩
    refine for_range (lo := 0) (n := (((4 * m : Nat) : Int)).toNat) (fun i σ H' => ∃ (as : List Addr) (v4 v5 : Option V), σ = [some (.ref L), some (.int (c : Nat)), some (.int (w' : Nat)), some (.ref D), v4, v5] ∧ Same H H' ∧ H' D = some (.lst (refs as)) ∧ PL H' as (leftOf B' c i) ∧ as.length ≤ i)
      ⟨[], none, none, rfl, sD, upd_same, .nil, Nat.le_refl _⟩ ?_ ?_
    · rintro i σ H' hi ⟨as, v4, v5, rfl, s', hD', hP', hl'⟩
      have hi : i < 4 * m := by omega
      have ei : ((0 : Int) + (i : Nat)) = ((i : Nat) : Int) := by omega
      refine ⟨_, rfl, _, _, rfl, rfl, ⟨by decide, by decide⟩, _, rfl, rfl, _, rfl, ?_⟩
      by_cases hic : i / 4 = c
      · have e1 : (!decide (V.int (((0 : Int) + (i : Nat)) / 4) = V.int (c : Nat))) = false := by
          rw [decide_eq_true (show V.int (((0 : Int) + (i : Nat)) / 4) = V.int (c : Nat) by rw [show ((0 : Int) + (i : Nat)) / 4 = ((i / 4 : Nat) : Int) by omega, hic])]
          rfl
        show if (!decide (V.int (((0 : Int) + (i : Nat)) / 4) = V.int (c : Nat))) = true then _ else _
        rw [e1]
        refine iteF ⟨as, _, _, rfl, s', hD', ?_, by omega⟩
        rw [leftOf_snoc, if_neg (fun z => z.1 hic), List.append_nil]
        exact hP'
      · have e1 : (!decide (V.int (((0 : Int) + (i : Nat)) / 4) = V.int (c : Nat))) = true := by
          rw [decide_eq_false (fun z => hic (by
            have z := V.int.inj z
            omega))]
          rfl
        show if (!decide (V.int (((0 : Int) + (i : Nat)) / 4) = V.int (c : Nat))) = true then _ else _
        rw [e1]
        obtain ⟨k, hk⟩ := hB i hi hic
        refine iteT ⟨_, rfl, _, rfl, _, rfl, _, rfl, L, m, F, i, c, w', k, B' i, (by rw [ei]; rfl), s' _ _ hL, hi, hc, hw, hk, ?_⟩
        refine ⟨_, rfl, _, rfl, _, _, rfl, rfl, _, rfl, ?_⟩
        by_cases hlt : i < B' i
        · have e2 : decide ((0 : Int) + (i : Nat) < ((B' i : Nat) : Int)) = true := decide_eq_true (by omega)
          show if decide ((0 : Int) + (i : Nat) < ((B' i : Nat) : Int)) = true then _ else _
          rw [e2]
          refine iteT ⟨_, rfl, .inl ⟨rfl, _, SqL.of hD'⟩, _, rfl, _, rfl, i, c, (by rw [ei]; rfl), ?_⟩
          refine ⟨_, rfl, _, rfl, B' i, c, rfl, two_le, fun u hu => ?_⟩
          have su := Same.new (o := .tup [V.int (upOf c i : Nat), V.int (upOf c (B' i) : Nat)]) hu
          have nDu : D ≠ u := ne_of_none hD' hu
          refine ⟨D, _, _, rfl, rfl, su _ _ hD', small1000 (by rw [List.length_map]; omega), as ++ [u], _, _, rfl, fun b o e => ?_, by rw [upd_same, refs_app]; rfl, ?_, by rw [List.length_append, List.length_singleton]; omega⟩
          · rw [upd_ne (ne_of_none e hD)]
            exact su _ _ (s' _ _ e)
          · rw [leftOf_snoc, if_pos ⟨hic, hlt⟩]
            have tk : ∀ b xs, H' b = some (.tup xs) → (upd (upd H' u (.tup [V.int (upOf c i : Nat), V.int (upOf c (B' i) : Nat)])) D (.lst (refs as ++ [V.ref u]))) b = some (.tup xs) := fun b xs e => by
              rw [upd_ne (ne_of e hD' (by intro z; cases z))]
              exact su _ _ e
            refine (hP'.mono tk).app (.cons ?_ .nil)
            show (upd (upd H' u _) D _) u = _
            rw [upd_ne (Ne.symm nDu), upd_same]
        · have e2 : decide ((0 : Int) + (i : Nat) < ((B' i : Nat) : Int)) = false := decide_eq_false (by omega)
          show if decide ((0 : Int) + (i : Nat) < ((B' i : Nat) : Int)) = true then _ else _
          rw [e2]
          refine iteF ⟨as, _, _, rfl, s', hD', ?_, by omega⟩
          rw [leftOf_snoc, if_neg (fun z => hlt z.2), List.append_nil]
          exact hP'
    · rintro σ H' ⟨as, v4, v5, rfl, s', hD', hP', hl'⟩
      refine ⟨_, rfl, .inl ⟨D, _, rfl, SqL.of hD', fun u hu => ?_⟩⟩
      have su := Same.new (o := .tup (refs as)) hu
      exact q _ u as (s'.trans su) upd_same (hP'.mono (sameT su))
end
end One
end P_F3

section P_M10
set_option linter.all false
namespace One
theorem sub_len : ∀ {a b : List Nat}, a.Nodup → (∀ x ∈ a, x ∈ b) → a.length ≤ b.length
  | [], _, _, _ => Nat.zero_le _
  | x :: r, b, nd, h => by
    obtain ⟨h1, h2⟩ := List.nodup_cons.mp nd
    have hx := h x (List.mem_cons_self ..)
    have e := List.length_erase_of_mem hx
    have pos := List.length_pos_of_mem hx
    have ih := sub_len (b := b.erase x) h2 fun y hy => (List.mem_erase_of_ne (fun (q : y = x) => h1 (by rw [← q]; exact hy))).mpr (h y (List.mem_cons_of_mem _ hy))
    rw [List.length_cons]
    omega
theorem up_inj {c e e' : Nat} (h : e / 4 ≠ c) (h' : e' / 4 ≠ c) (q : upOf c e = upOf c e') : e = e' := by
  unfold upOf at q
  split at q <;> split at q <;> omega
theorem up_lt {c e m : Nat} (hc : c < m) (he : e < 4 * m) (h : e / 4 ≠ c) : upOf c e < 4 * (m - 1) := by
  unfold upOf
  split <;> omega
theorem up_onto {c m x : Nat} (hc : c < m) (hx : x < 4 * (m - 1)) : ∃ e, e < 4 * m ∧ e / 4 ≠ c ∧ upOf c e = x := by
  by_cases h : x / 4 < c
  · exact ⟨x, by omega, by omega, if_neg (by omega)⟩
  · refine ⟨x + 4, by omega, by omega, ?_⟩
    unfold upOf
    rw [if_pos (by omega)]
    omega
theorem mem_left {B : Nat → Nat} {c M : Nat} {p : Nat × Nat} : p ∈ leftOf B c M ↔ ∃ e, e < M ∧ e / 4 ≠ c ∧ e < B e ∧ p = (upOf c e, upOf c (B e)) := by
  unfold leftOf
  rw [List.mem_filterMap]
  constructor
  · rintro ⟨e, he, h⟩
    split at h
    · rename_i q
      cases h
      exact ⟨e, List.mem_range.mp he, q.1, q.2, rfl⟩
    · cases h
  · rintro ⟨e, h1, h2, h3, rfl⟩
    exact ⟨e, List.mem_range.mpr h1, if_pos ⟨h2, h3⟩⟩
section
variable {F : Nat → Nat} {m c w : Nat}
theorem left_nodup {B : Nat → Nat} (bo : ∀ e, e < 4 * m → e / 4 ≠ c → B e / 4 ≠ c ∧ B (B e) = e) : ∀ M, M ≤ 4 * m → (ends (leftOf B c M)).Nodup
  | 0, _ => .nil
  | M + 1, hM => by
    have ih := left_nodup bo M (by omega)
    rw [leftOf_snoc, ends_append]
    by_cases q : M / 4 ≠ c ∧ M < B M
    · rw [if_pos q]
      obtain ⟨bM, bb⟩ := bo M (by omega) q.1
      have nin : ∀ x ∈ ends (leftOf B c M), x ≠ upOf c M ∧ x ≠ upOf c (B M) := fun x hx => by
        obtain ⟨p, hp, hxp⟩ := mem_ends.mp hx
        obtain ⟨e, h1, h2, h3, rfl⟩ := mem_left.mp hp
        obtain ⟨be, bbe⟩ := bo e (by omega) h2
        have q2 := q.2
        rcases hxp with rfl | rfl
        · refine ⟨fun z => ?_, fun z => ?_⟩
          · have := up_inj h2 q.1 z
            omega
          · have := up_inj h2 bM z
            omega
        · refine ⟨fun z => ?_, fun z => ?_⟩
          · have z := up_inj be q.1 z
            rw [z] at bbe
            omega
          · have z := up_inj be bM z
            rw [z, bb] at bbe
            omega
      have ne : upOf c M ≠ upOf c (B M) := fun z => by
        have := up_inj q.1 bM z
        have := q.2
        omega
      refine List.nodup_append.mpr ⟨ih, ?_, fun x hx y hy => ?_⟩
      · show [upOf c M, upOf c (B M)].Nodup
        simp [ne]
      · have hy : y ∈ [upOf c M, upOf c (B M)] := hy
        simp only [List.mem_cons, List.not_mem_nil, or_false] at hy
        rcases hy with rfl | rfl
        · exact (nin x hx).1
        · exact (nin x hx).2
    · rw [if_neg q]
      simpa [ends] using ih
/-- what is left when a crossing is sewn out is lines -/
theorem left_lines (I : Inv2 F m) (hc : c < m) (hw : w < 3) (O : Open F c w) : Lines (m - 1) (leftOf (behindF F c w) c (4 * m)) := by
  have bo : ∀ e, e < 4 * m → e / 4 ≠ c → behindF F c w e / 4 ≠ c ∧ behindF F c w (behindF F c w e) = e := fun e he ho => ⟨(behind_is I hc hw O he ho).2.2, behind_inv I hc hw O he ho⟩
  have nd := left_nodup bo (4 * m) (Nat.le_refl _)
  have lt : ∀ x ∈ ends (leftOf (behindF F c w) c (4 * m)), x < 4 * (m - 1) := fun x hx => by
    obtain ⟨p, hp, hxp⟩ := mem_ends.mp hx
    obtain ⟨e, h1, h2, h3, rfl⟩ := mem_left.mp hp
    obtain ⟨_, b2, b3⟩ := behind_is I hc hw O h1 h2
    rcases hxp with rfl | rfl
    · exact up_lt hc h1 h2
    · exact up_lt hc b2 b3
  have full : ∀ x ∈ List.range (4 * (m - 1)), x ∈ ends (leftOf (behindF F c w) c (4 * m)) := fun x hx => by
    obtain ⟨e, h1, h2, rfl⟩ := up_onto hc (List.mem_range.mp hx)
    obtain ⟨_, b2, b3⟩ := behind_is I hc hw O h1 h2
    have hne := behind_ne I hc hw O h1 h2
    have hinv := behind_inv I hc hw O h1 h2
    by_cases q : e < behindF F c w e
    · exact mem_ends.mpr ⟨_, mem_left.mpr ⟨e, h1, h2, q, rfl⟩, .inl rfl⟩
    · exact mem_ends.mpr ⟨_, mem_left.mpr ⟨behindF F c w e, b2, b3, by rw [hinv]; omega, rfl⟩, .inr (by rw [hinv])⟩
  have l1 := pigeon _ _ nd lt
  have l2 := sub_len List.nodup_range full
  rw [List.length_range] at l2
  rw [ends_length] at l1 l2
  exact ⟨by omega, nd, lt⟩
end
end One
end P_M10

section P_M12
set_option linter.all false
/-! At most one way is barred at a crossing. -/
namespace One
/-- a parting of the ends that way w at crossing c keeps, and every line, and every other crossing -/
structure Parts (F : Nat → Nat) (m c w : Nat) (P : Nat → Bool) : Prop where
  far : ∀ e, e < 4 * m → P (F e) = P e
  blk : ∀ e e', e < 4 * m → e' < 4 * m → e / 4 = e' / 4 → e / 4 ≠ c → P e = P e'
  mate : ∀ e, e / 4 = c → P (e ^^^ (w + 1)) = P e
  some_ : ∃ e, e < 4 * m ∧ P e = true
  none_ : ∃ e, e < 4 * m ∧ P e = false
def four (P : Nat → Bool) (c : Nat) : Nat := (if P (4 * c) then 1 else 0) + (if P (4 * c + 1) then 1 else 0) + (if P (4 * c + 2) then 1 else 0) + (if P (4 * c + 3) then 1 else 0)
theorem filter_len (P : Nat → Bool) : ∀ m, ((List.range (4 * m)).filter P).length = ((List.range m).map (four P)).sum
  | 0 => rfl
  | m + 1 => by
    rw [show 4 * (m + 1) = 4 * m + 1 + 1 + 1 + 1 by omega, List.range_succ, List.range_succ, List.range_succ, List.range_succ, List.range_succ]
    simp only [List.filter_append, List.length_append, List.map_append, List.sum_append, filter_len P m, List.filter_cons, List.filter_nil, List.map_cons, List.map_nil, List.sum_cons, List.sum_nil, four]
    rw [show 4 * m + 1 + 1 = 4 * m + 2 by omega, show 4 * m + 2 + 1 = 4 * m + 3 by omega]
    cases P (4 * m) <;> cases P (4 * m + 1) <;> cases P (4 * m + 2) <;> cases P (4 * m + 3) <;> simp
theorem sum_mod {g : Nat → Nat} {c : Nat} : ∀ n, c < n → (∀ i, i < n → i ≠ c → g i % 4 = 0) → (((List.range n).map g).sum) % 4 = g c % 4
  | 0, h, _ => absurd h (by omega)
  | n + 1, h, k => by
    rw [List.range_succ, List.map_append, List.sum_append]
    simp only [List.map_cons, List.map_nil, List.sum_cons, List.sum_nil]
    by_cases e : c = n
    · subst e
      have z : ∀ j, j ≤ c → (((List.range j).map g).sum) % 4 = 0 := fun j => by
        induction j with
        | zero => exact fun _ => rfl
        | succ j ih =>
          intro hj
          rw [List.range_succ, List.map_append, List.sum_append]
          simp only [List.map_cons, List.map_nil, List.sum_cons, List.sum_nil]
          have := ih (by omega)
          have := k j (by omega) (by omega)
          omega
      have := z c (Nat.le_refl _)
      omega
    · have := sum_mod n (by omega) fun i hi => k i (by omega)
      have := k n (by omega) (fun z => e z.symm)
      omega
section
variable {F : Nat → Nat} {m c : Nat}
/-- crossing c has an even number of ends in a set that keeps lines and the other crossings -/
theorem four_even (I : Inv2 F m) (hc : c < m) {P : Nat → Bool} (hf : ∀ e, e < 4 * m → P (F e) = P e) (hb : ∀ e e', e < 4 * m → e' < 4 * m → e / 4 = e' / 4 → e / 4 ≠ c → P e = P e') : four P c % 2 = 0 := by
  have h1 := even_inv (F := F) _ ((List.range (4 * m)).filter P) rfl (List.nodup_range.filter _) fun x hx => by
    obtain ⟨hx1, hx2⟩ := List.mem_filter.mp hx
    have hx1 := List.mem_range.mp hx1
    exact ⟨List.mem_filter.mpr ⟨List.mem_range.mpr (I.lt x hx1), (hf x hx1).trans hx2⟩, I.inv x hx1, I.ne x hx1⟩
  have h2 := sum_mod (g := four P) m hc fun i hi hne => by
    have e1 := hb (4 * i) (4 * i + 1) (by omega) (by omega) (by omega) (by omega)
    have e2 := hb (4 * i) (4 * i + 2) (by omega) (by omega) (by omega) (by omega)
    have e3 := hb (4 * i) (4 * i + 3) (by omega) (by omega) (by omega) (by omega)
    unfold four
    rw [← e1, ← e2, ← e3]
    cases P (4 * i) <;> simp
  rw [← filter_len] at h2
  omega
theorem mates (c : Nat) : (4 * c) ^^^ 1 = 4 * c + 1 ∧ (4 * c) ^^^ 2 = 4 * c + 2 ∧ (4 * c) ^^^ 3 = 4 * c + 3 ∧ (4 * c + 1) ^^^ 2 = 4 * c + 3 ∧ (4 * c + 2) ^^^ 1 = 4 * c + 3 ∧ (4 * c + 1) ^^^ 3 = 4 * c + 2 := by
  have key : ∀ a b, a < 4 → b < 4 → (4 * c + a) ^^^ b = 4 * c + (a ^^^ b) := fun a b ha hb => by
    have h1 := Nat.xor_div_two_pow (a := 4 * c + a) (b := b) (n := 2)
    have h2 := Nat.xor_mod_two_pow (a := 4 * c + a) (b := b) (n := 2)
    rw [show (2 : Nat) ^ 2 = 4 from rfl] at h1 h2
    rw [show (4 * c + a) / 4 = c by omega, show b / 4 = 0 by omega, Nat.xor_zero] at h1
    rw [show (4 * c + a) % 4 = a by omega, show b % 4 = b by omega] at h2
    omega
  have a0 : 4 * c = 4 * c + 0 := rfl
  exact ⟨key 0 1 (by decide) (by decide), key 0 2 (by decide) (by decide), key 0 3 (by decide) (by decide), key 1 2 (by decide) (by decide), key 2 1 (by decide) (by decide), key 1 3 (by decide) (by decide)⟩
/-- a parting, such that it has just two of the four ends: the first one and its mate -/
theorem parts_pair {ps : List (Nat × Nat)} {w : Nat} (L : Lines m ps) (W : Whole m ps) (hc : c < m) (hw : w < 3) {P : Nat → Bool} (S : Parts (One.far ps) m c w P) :
    ∃ R : Nat → Bool, Parts (One.far ps) m c w R ∧ R (4 * c) = true ∧ ∀ k, k < 3 → R (4 * c + k + 1) = decide (k = w) := by
  have I := far_inv L
  -- where all four are alike, all is one crossing by crossing
  have alike : ∀ Q : Nat → Bool, Parts (One.far ps) m c w Q → Q (4 * c) = true → (∀ k, k < 4 → Q (4 * c + k) = true) → False := fun Q T h0 h4 => by
    have hblk : ∀ e e', e < 4 * m → e' < 4 * m → e / 4 = e' / 4 → Q e = Q e' := fun e e' he he' q => by
      by_cases h : e / 4 = c
      · have a := h4 (e % 4) (by omega)
        have b := h4 (e' % 4) (by omega)
        rw [show 4 * c + e % 4 = e by omega] at a
        rw [show 4 * c + e' % 4 = e' by omega] at b
        rw [a, b]
      · exact T.blk e e' he he' q h
    have all : ∀ d, d < m → Q (4 * d) = true := fun d hd => W.from (P := fun d => Q (4 * d) = true) (fun p hp => by
      have hlt := fun e (he : e ∈ ends ps) => L.lt e he
      have l1 := hlt p.1 (mem_ends.mpr ⟨p, hp, .inl rfl⟩)
      have l2 := hlt p.2 (mem_ends.mpr ⟨p, hp, .inr rfl⟩)
      have f := (far_of L.nd hp).1
      have q := T.far p.1 l1
      rw [f] at q
      have a := hblk p.1 (4 * (p.1 / 4)) l1 (by omega) (by omega)
      have b := hblk p.2 (4 * (p.2 / 4)) l2 (by omega) (by omega)
      show Q (4 * (p.1 / 4)) = true ↔ Q (4 * (p.2 / 4)) = true
      rw [← a, ← b, q]) hc h0 hd
    obtain ⟨e, he, hn⟩ := T.none_
    have := all (e / 4) (by omega)
    have a := hblk e (4 * (e / 4)) he (by omega) (by omega)
    rw [a] at hn
    rw [hn] at this
    cases this
  have flip : ∀ Q : Nat → Bool, Parts (One.far ps) m c w Q → Parts (One.far ps) m c w fun e => !Q e := fun Q T =>
    ⟨fun e he => by rw [T.far e he], fun e e' a b d f => by rw [T.blk e e' a b d f], fun e he => by rw [T.mate e he], let ⟨e, h, q⟩ := T.none_; ⟨e, h, by rw [q]; rfl⟩, let ⟨e, h, q⟩ := T.some_; ⟨e, h, by rw [q]; rfl⟩⟩
  obtain ⟨m1, m2, m3, m4, m5, m6⟩ := mates c
  have two : ∀ Q : Nat → Bool, Parts (One.far ps) m c w Q → Q (4 * c) = true → ∀ k, k < 3 → Q (4 * c + k + 1) = decide (k = w) := fun Q T h0 => by
    have hw' : w = 0 ∨ w = 1 ∨ w = 2 := by omega
    have no := alike Q T h0
    rcases hw' with rfl | rfl | rfl
    · have a := T.mate (4 * c) (by omega)
      have b := T.mate (4 * c + 2) (by omega)
      rw [m1] at a
      rw [m5] at b
      have h2 : Q (4 * c + 2) = false := by
        cases h : Q (4 * c + 2) with
        | false => rfl
        | true =>
          refine (no fun k hk => ?_).elim
          have : k = 0 ∨ k = 1 ∨ k = 2 ∨ k = 3 := by omega
          rcases this with rfl | rfl | rfl | rfl
          · exact h0
          · exact a.trans h0
          · exact h
          · exact b.trans h
      intro k hk
      have : k = 0 ∨ k = 1 ∨ k = 2 := by omega
      rcases this with rfl | rfl | rfl
      · exact a.trans h0
      · exact h2
      · exact b.trans h2
    · have a := T.mate (4 * c) (by omega)
      have b := T.mate (4 * c + 1) (by omega)
      rw [m2] at a
      rw [m4] at b
      have h2 : Q (4 * c + 1) = false := by
        cases h : Q (4 * c + 1) with
        | false => rfl
        | true =>
          refine (no fun k hk => ?_).elim
          have : k = 0 ∨ k = 1 ∨ k = 2 ∨ k = 3 := by omega
          rcases this with rfl | rfl | rfl | rfl
          · exact h0
          · exact h
          · exact a.trans h0
          · exact b.trans h
      intro k hk
      have : k = 0 ∨ k = 1 ∨ k = 2 := by omega
      rcases this with rfl | rfl | rfl
      · exact h2
      · exact a.trans h0
      · exact b.trans h2
    · have a := T.mate (4 * c) (by omega)
      have b := T.mate (4 * c + 1) (by omega)
      rw [m3] at a
      rw [m6] at b
      have h2 : Q (4 * c + 1) = false := by
        cases h : Q (4 * c + 1) with
        | false => rfl
        | true =>
          refine (no fun k hk => ?_).elim
          have : k = 0 ∨ k = 1 ∨ k = 2 ∨ k = 3 := by omega
          rcases this with rfl | rfl | rfl | rfl
          · exact h0
          · exact h
          · exact b.trans h
          · exact a.trans h0
      intro k hk
      have : k = 0 ∨ k = 1 ∨ k = 2 := by omega
      rcases this with rfl | rfl | rfl
      · exact h2
      · exact b.trans h2
      · exact a.trans h0
  cases h : P (4 * c) with
  | true => exact ⟨P, S, h, two P S h⟩
  | false =>
    have h' : (!P (4 * c)) = true := by rw [h]; rfl
    exact ⟨_, flip P S, h', two _ (flip P S) h'⟩
/-- two ways that part are one -/
theorem parts_one {ps : List (Nat × Nat)} {w w' : Nat} (L : Lines m ps) (W : Whole m ps) (hc : c < m) (hw : w < 3) (hw' : w' < 3) {P P' : Nat → Bool} (S : Parts (One.far ps) m c w P) (S' : Parts (One.far ps) m c w' P') : w = w' := by
  obtain ⟨R, T, r0, r1⟩ := parts_pair L W hc hw S
  obtain ⟨R', T', r0', r1'⟩ := parts_pair L W hc hw' S'
  have ev := four_even (far_inv L) hc (P := fun e => R e && R' e) (fun e he => by rw [T.far e he, T'.far e he]) (fun e e' a b d f => by rw [T.blk e e' a b d f, T'.blk e e' a b d f])
  have q1 : R (4 * c + 1) = _ := r1 0 (by decide)
  have q2 : R (4 * c + 2) = _ := r1 1 (by decide)
  have q3 : R (4 * c + 3) = _ := r1 2 (by decide)
  have q1' : R' (4 * c + 1) = _ := r1' 0 (by decide)
  have q2' : R' (4 * c + 2) = _ := r1' 1 (by decide)
  have q3' : R' (4 * c + 3) = _ := r1' 2 (by decide)
  unfold four at ev
  simp only [r0, r0', q1, q2, q3, q1', q2', q3'] at ev
  have a : w = 0 ∨ w = 1 ∨ w = 2 := by omega
  have b : w' = 0 ∨ w' = 1 ∨ w' = 2 := by omega
  rcases a with rfl | rfl | rfl <;> rcases b with rfl | rfl | rfl <;> first | rfl | (exfalso; revert ev; decide)
end
end One
end P_M12

section P_M14
set_option linter.all false
/-! Labels run together line by line. -/
namespace One
structure Runs (n : Nat) (ps : List (Nat × Nat)) (t : List Nat) : Prop where
  len : t.length = n
  done : ∀ p ∈ ps, t.getD (p.1 / 4) 0 = t.getD (p.2 / 4) 0
  sound : ∀ P : Nat → Prop, (∀ p ∈ ps, P (p.1 / 4) ↔ P (p.2 / 4)) → ∀ i j, i < n → j < n → t.getD i 0 = t.getD j 0 → (P i ↔ P j)
theorem getD_range {n i : Nat} (h : i < n) : (List.range n).getD i 0 = i := by
  rw [List.getD_eq_getElem?_getD, List.getElem?_range h]
  rfl
theorem runs_start (n : Nat) : Runs n [] (List.range n) :=
  ⟨List.length_range, fun p h => absurd h (by simp), fun P _ i j hi hj e => by
    rw [getD_range hi, getD_range hj] at e
    rw [e]⟩
def run1 (t : List Nat) (p : Nat × Nat) : List Nat := t.map fun k => if k = t.getD (p.1 / 4) 0 then t.getD (p.2 / 4) 0 else k
theorem run1_get {t : List Nat} {p : Nat × Nat} {i : Nat} (h : i < t.length) : (run1 t p).getD i 0 = if t.getD i 0 = t.getD (p.1 / 4) 0 then t.getD (p.2 / 4) 0 else t.getD i 0 := by
  unfold run1
  rw [List.getD_eq_getElem?_getD, List.getElem?_map, List.getElem?_eq_getElem h]
  show (if t[i] = _ then _ else t[i]) = _
  have e : t.getD i 0 = t[i] := by
    rw [List.getD_eq_getElem?_getD, List.getElem?_eq_getElem h]
    rfl
  rw [e]
theorem runs_step {n : Nat} {ps : List (Nat × Nat)} {t : List Nat} {p : Nat × Nat} (r : Runs n ps t) (hlt : ∀ q ∈ ps ++ [p], q.1 < 4 * n ∧ q.2 < 4 * n) : Runs n (ps ++ [p]) (run1 t p) := by
  have hl : (run1 t p).length = n := by
    unfold run1
    rw [List.length_map]
    exact r.len
  have hp := hlt p (List.mem_append.mpr (.inr (List.mem_singleton.mpr rfl)))
  have a1 : p.1 / 4 < t.length := by rw [r.len]; omega
  have a2 : p.2 / 4 < t.length := by rw [r.len]; omega
  refine ⟨hl, fun q hq => ?_, fun P hP i j hi hj e => ?_⟩
  · rcases List.mem_append.mp hq with hq | hq
    · have b := hlt q (List.mem_append.mpr (.inl hq))
      rw [run1_get (by rw [r.len]; omega), run1_get (by rw [r.len]; omega), r.done q hq]
    · rw [List.mem_singleton.mp hq, run1_get a1, run1_get a2, if_pos rfl]
      split <;> rfl
  · have hP0 : ∀ q ∈ ps, P (q.1 / 4) ↔ P (q.2 / 4) := fun q hq => hP q (List.mem_append.mpr (.inl hq))
    have hPp := hP p (List.mem_append.mpr (.inr (List.mem_singleton.mpr rfl)))
    have s := r.sound P hP0
    rw [run1_get (by rw [r.len]; exact hi), run1_get (by rw [r.len]; exact hj)] at e
    by_cases h1 : t.getD i 0 = t.getD (p.1 / 4) 0
    · by_cases h2 : t.getD j 0 = t.getD (p.1 / 4) 0
      · exact s i j hi hj (h1.trans h2.symm)
      · rw [if_pos h1, if_neg h2] at e
        exact (s i _ hi (by omega) h1).trans (hPp.trans (s _ j (by omega) hj e))
    · by_cases h2 : t.getD j 0 = t.getD (p.1 / 4) 0
      · rw [if_neg h1, if_pos h2] at e
        exact (s i _ hi (by omega) e).trans (hPp.symm.trans (s j _ hj (by omega) h2).symm)
      · rw [if_neg h1, if_neg h2] at e
        exact s i j hi hj e
theorem runs_whole {n : Nat} {ps : List (Nat × Nat)} {t : List Nat} (hn : 0 < n) (r : Runs n ps t) : (∀ i, i < n → t.getD i 0 = t.getD 0 0) ↔ Whole n ps := by
  constructor
  · intro h P hP h0 c hc
    exact (r.sound P hP 0 c hn hc (h c hc).symm).mp h0
  · intro w i hi
    exact w (fun c => t.getD c 0 = t.getD 0 0) (fun p hp => by rw [r.done p hp]) rfl i hi
theorem count_all {t : List Nat} (x : Nat) : t.length = t.count x ↔ ∀ i, i < t.length → t.getD i 0 = x := by
  rw [eq_comm, List.count_eq_length]
  constructor
  · intro h i hi
    rw [List.getD_eq_getElem?_getD, List.getElem?_eq_getElem hi]
    exact (h _ (List.getElem_mem hi)).symm
  · intro h y hy
    obtain ⟨i, hi, e⟩ := List.mem_iff_getElem.mp hy
    have := h i hi
    rw [List.getD_eq_getElem?_getD, List.getElem?_eq_getElem hi] at this
    exact (this.symm.trans e)
end One
end P_M14

section P_M13
set_option linter.all false
/-! A law's own sewing out: two joinings of lines. -/
namespace One
def hasE (a : Nat) (p : Nat × Nat) : Bool := decide (p.1 = a) || decide (p.2 = a)
theorem hasE_iff {a : Nat} {p : Nat × Nat} : hasE a p = true ↔ a = p.1 ∨ a = p.2 := by
  unfold hasE
  simp only [Bool.or_eq_true, decide_eq_true_eq]
  exact ⟨fun h => h.imp Eq.symm Eq.symm, fun h => h.imp Eq.symm Eq.symm⟩
theorem line_one : ∀ {L : List (Nat × Nat)}, (ends L).Nodup → ∀ {p q : Nat × Nat} {e : Nat}, p ∈ L → q ∈ L → hasE e p = true → hasE e q = true → p = q
  | [], _, p, q, e, hp, _, _, _ => absurd hp (by simp)
  | r :: L, h, p, q, e, hp, hq, hep, heq => by
    have h : (r.1 :: r.2 :: ends L).Nodup := h
    obtain ⟨h1, h2⟩ := List.nodup_cons.mp h
    obtain ⟨h3, h4⟩ := List.nodup_cons.mp h2
    have out : ∀ z ∈ L, hasE e z = true → hasE e r = true → False := fun z hz a b => by
      have hm : e ∈ ends L := mem_ends.mpr ⟨z, hz, hasE_iff.mp a⟩
      rcases hasE_iff.mp b with b | b
      · exact h1 (b ▸ List.mem_cons_of_mem _ hm)
      · exact h3 (b ▸ hm)
    rcases List.mem_cons.mp hp with e1 | hp1 <;> rcases List.mem_cons.mp hq with e2 | hq1
    · rw [e1, e2]
    · exact (out _ hq1 heq (e1 ▸ hep)).elim
    · exact (out _ hp1 hep (e2 ▸ heq)).elim
    · exact line_one h4 hp1 hq1 hep heq
theorem nodup_lines : ∀ {L : List (Nat × Nat)}, (ends L).Nodup → L.Nodup
  | [], _ => .nil
  | r :: L, h => by
    have h' : (r.1 :: r.2 :: ends L).Nodup := h
    obtain ⟨h1, h2⟩ := List.nodup_cons.mp h'
    obtain ⟨h3, h4⟩ := List.nodup_cons.mp h2
    exact List.nodup_cons.mpr ⟨fun m => h1 (List.mem_cons_of_mem _ (mem_ends.mpr ⟨r, m, .inl rfl⟩)), nodup_lines h4⟩
/-- the line that has an end, as it stands -/
def lineAt (L : List (Nat × Nat)) (a : Nat) : Nat × Nat := (L.filter (hasE a)).headD (0, 0)
theorem lineAt_of {L : List (Nat × Nat)} (h : (ends L).Nodup) {a : Nat} (ha : a ∈ ends L) : L.filter (hasE a) = [lineAt L a] ∧ lineAt L a ∈ L ∧ hasE a (lineAt L a) = true := by
  obtain ⟨p, hp, hpa⟩ := mem_ends.mp ha
  have hpa := hasE_iff.mpr hpa
  have nd := (nodup_lines h).filter (hasE a)
  have one : ∀ q ∈ L.filter (hasE a), q = p := fun q hq => by
    obtain ⟨q1, q2⟩ := List.mem_filter.mp hq
    exact line_one h q1 hp q2 hpa
  have hm : p ∈ L.filter (hasE a) := List.mem_filter.mpr ⟨hp, hpa⟩
  have e : L.filter (hasE a) = [p] := by
    revert nd one hm
    generalize L.filter (hasE a) = M
    intro nd one hm
    match M, nd, one, hm with
    | [], _, _, hm => cases hm
    | [x], _, one, _ => rw [one x (by simp)]
    | x :: y :: r, nd, one, _ =>
      have a := one x (by simp)
      have b := one y (by simp)
      rw [a, b] at nd
      simp at nd
  have e2 : lineAt L a = p := by
    unfold lineAt
    rw [e]
    rfl
  rw [e2]
  exact ⟨e, hp, hpa⟩
/-- the other end of a line -/
def otherE (p : Nat × Nat) (a : Nat) : Nat := if p.1 = a then p.2 else p.1
theorem other_far {L : List (Nat × Nat)} (h : (ends L).Nodup) {p : Nat × Nat} (hp : p ∈ L) {a : Nat} (ha : hasE a p = true) : otherE p a = far L a := by
  obtain ⟨f1, f2⟩ := far_of h hp
  unfold otherE
  rcases hasE_iff.mp ha with rfl | rfl
  · rw [if_pos rfl, f1]
  · have ne : p.1 ≠ p.2 := nodup_pair h p hp
    rw [if_neg ne, f2]
def restOf (L : List (Nat × Nat)) (a b : Nat) : List (Nat × Nat) := L.filter fun p => !decide (p = lineAt L a) && !decide (p = lineAt L b)
/-- two lines put together at their ends a and b -/
def without (L : List (Nat × Nat)) (a b : Nat) : List (Nat × Nat) := restOf L a b ++ [(far L a, far L b)]
section
variable {L : List (Nat × Nat)} {a b : Nat}
theorem same_line (h : (ends L).Nodup) (ha : a ∈ ends L) (hb : b ∈ ends L) (hab : a ≠ b) : lineAt L a = lineAt L b ↔ far L a = b := by
  obtain ⟨_, a2, a3⟩ := lineAt_of h ha
  obtain ⟨_, b2, b3⟩ := lineAt_of h hb
  constructor
  · intro e
    rw [← e] at b3
    rw [← other_far h a2 a3]
    unfold otherE
    rcases hasE_iff.mp a3 with q | q
    · rw [if_pos q.symm]
      rcases hasE_iff.mp b3 with z | z
      · exact absurd (q.trans z.symm) hab
      · exact z.symm
    · have ne := nodup_pair h _ a2
      rw [if_neg (fun z => ne (z.trans q))]
      rcases hasE_iff.mp b3 with z | z
      · exact z.symm
      · exact absurd (q.trans z.symm) hab
  · intro e
    refine line_one h a2 b2 ?_ b3
    rw [← e, ← other_far h a2 a3]
    unfold otherE
    split
    · exact hasE_iff.mpr (.inr rfl)
    · exact hasE_iff.mpr (.inl rfl)
theorem without_perm (h : (ends L).Nodup) (ha : a ∈ ends L) (hb : b ∈ ends L) (hab : a ≠ b) (hf : far L a ≠ b) : (ends L).Perm (a :: b :: ends (without L a b)) := by
  obtain ⟨_, a2, a3⟩ := lineAt_of h ha
  obtain ⟨_, b2, b3⟩ := lineAt_of h hb
  have ne : lineAt L a ≠ lineAt L b := fun e => hf ((same_line h ha hb hab).mp e)
  have p1 : L.Perm (lineAt L a :: lineAt L b :: restOf L a b) := by
    refine (List.perm_ext_iff_of_nodup (nodup_lines h) ?_).mpr fun p => ?_
    · refine List.nodup_cons.mpr ⟨fun m => ?_, List.nodup_cons.mpr ⟨fun m => ?_, (nodup_lines h).filter _⟩⟩
      · rcases List.mem_cons.mp m with e | m
        · exact ne e
        · have := (List.mem_filter.mp m).2
          simp at this
      · have := (List.mem_filter.mp m).2
        simp at this
    · constructor
      · intro hp
        by_cases e1 : p = lineAt L a
        · exact e1 ▸ List.mem_cons_self ..
        · by_cases e2 : p = lineAt L b
          · exact List.mem_cons_of_mem _ (e2 ▸ List.mem_cons_self ..)
          · exact List.mem_cons_of_mem _ (List.mem_cons_of_mem _ (List.mem_filter.mpr ⟨hp, by simp [e1, e2]⟩))
      · intro hp
        rcases List.mem_cons.mp hp with rfl | hp
        · exact a2
        · rcases List.mem_cons.mp hp with rfl | hp
          · exact b2
          · exact (List.mem_filter.mp hp).1
  have pa : ∀ {x : Nat} {p : Nat × Nat}, p ∈ L → hasE x p = true → [p.1, p.2].Perm [x, far L x] := fun {x p} hp hx => by
    rw [← other_far h hp hx]
    unfold otherE
    rcases hasE_iff.mp hx with q | q
    · rw [if_pos q.symm, q]
    · have nn := nodup_pair h _ hp
      rw [if_neg (fun z => nn (z.trans q)), q]
      exact .swap ..
  have p2 := ends_perm p1
  have p3 : (ends (lineAt L a :: lineAt L b :: restOf L a b)).Perm ([a, far L a] ++ ([b, far L b] ++ ends (restOf L a b))) := (pa a2 a3).append ((pa b2 b3).append_right _)
  refine (p2.trans p3).trans ?_
  unfold without
  rw [ends_append]
  show (a :: far L a :: b :: far L b :: ends (restOf L a b)).Perm (a :: b :: (ends (restOf L a b) ++ [far L a, far L b]))
  refine .cons _ ?_
  refine (List.Perm.swap b (far L a) _).trans (.cons _ ?_)
  exact (List.perm_append_comm (l₁ := [far L a, far L b]) (l₂ := ends (restOf L a b)))
theorem without_nodup (h : (ends L).Nodup) (ha : a ∈ ends L) (hb : b ∈ ends L) (hab : a ≠ b) (hf : far L a ≠ b) : (ends (without L a b)).Nodup ∧ ∀ e, e ∈ ends (without L a b) ↔ e ∈ ends L ∧ e ≠ a ∧ e ≠ b := by
  have p := without_perm h ha hb hab hf
  have nd := p.nodup_iff.mp h
  obtain ⟨n1, n2⟩ := List.nodup_cons.mp nd
  obtain ⟨n3, n4⟩ := List.nodup_cons.mp n2
  refine ⟨n4, fun e => ⟨fun m => ⟨p.mem_iff.mpr (List.mem_cons_of_mem _ (List.mem_cons_of_mem _ m)), fun z => by subst z; exact n1 (List.mem_cons_of_mem _ m), fun z => by subst z; exact n3 m⟩, fun ⟨m, e1, e2⟩ => ?_⟩⟩
  rcases List.mem_cons.mp (p.mem_iff.mp m) with z | m
  · exact absurd z e1
  · rcases List.mem_cons.mp m with z | m
    · exact absurd z e2
    · exact m
def jn (F : Nat → Nat) (a b e : Nat) : Nat := if e = F a then F b else if e = F b then F a else F e
theorem without_far (h : (ends L).Nodup) (ha : a ∈ ends L) (hb : b ∈ ends L) (hab : a ≠ b) (hf : far L a ≠ b) {e : Nat} (he : e ∈ ends (without L a b)) : far (without L a b) e = jn (far L) a b e := by
  obtain ⟨nd, _⟩ := without_nodup h ha hb hab hf
  obtain ⟨q, hq, hqe⟩ := mem_ends.mp he
  unfold jn
  have hnew : (far L a, far L b) ∈ without L a b := List.mem_append.mpr (.inr (List.mem_singleton.mpr rfl))
  obtain ⟨g1, g2⟩ := far_of nd hnew
  by_cases e1 : e = far L a
  · rw [if_pos e1, e1]
    exact g1
  · rw [if_neg e1]
    by_cases e2 : e = far L b
    · rw [if_pos e2, e2]
      exact g2
    · rw [if_neg e2]
      rcases List.mem_append.mp hq with m | m
      · have hm := (List.mem_filter.mp m).1
        obtain ⟨f1, f2⟩ := far_of h hm
        obtain ⟨k1, k2⟩ := far_of nd hq
        rcases hqe with rfl | rfl
        · rw [f1, k1]
        · rw [f2, k2]
      · rw [List.mem_singleton.mp m] at hqe
        exact absurd hqe (by simp [e1, e2])
end
/-- the four ends of a crossing, mates by two and two -/
structure FourE (c w a b a' b' : Nat) : Prop where
  ia : a / 4 = c
  ib : b / 4 = c
  ia' : a' / 4 = c
  ib' : b' / 4 = c
  ma : a ^^^ (w + 1) = b
  mb : b ^^^ (w + 1) = a
  ma' : a' ^^^ (w + 1) = b'
  mb' : b' ^^^ (w + 1) = a'
  ab : a ≠ b
  aa : a ≠ a'
  ab' : a ≠ b'
  ba : b ≠ a'
  bb : b ≠ b'
  ab'' : a' ≠ b'
  all : ∀ e, e / 4 = c → e = a ∨ e = b ∨ e = a' ∨ e = b'
theorem FourE.flip {c w a b a' b' : Nat} (f : FourE c w a b a' b') : FourE c w b a a' b' :=
  ⟨f.ib, f.ia, f.ia', f.ib', f.mb, f.ma, f.ma', f.mb', f.ab.symm, f.ba, f.bb, f.aa, f.ab', f.ab'', fun e he => by rcases f.all e he with h | h | h | h <;> simp [h]⟩
theorem FourE.flop {c w a b a' b' : Nat} (f : FourE c w a b a' b') : FourE c w a b b' a' :=
  ⟨f.ia, f.ib, f.ib', f.ia', f.ma, f.mb, f.mb', f.ma', f.ab, f.ab', f.aa, f.bb, f.ba, f.ab''.symm, fun e he => by rcases f.all e he with h | h | h | h <;> simp [h]⟩
theorem jn_flip {F : Nat → Nat} {a b e : Nat} (h : F a ≠ F b) : jn F b a e = jn F a b e := by
  unfold jn
  by_cases h1 : e = F a
  · rw [if_pos h1, if_neg (fun z => h (h1.symm.trans z)), if_pos h1]
  · rw [if_neg h1, if_neg h1]
section
variable {F : Nat → Nat} {m c w a b a' b' : Nat}
theorem sewn_a (I : Inv2 F m) (hc : c < m) (Q : FourE c w a b a' b') (o1 : F a ≠ b) (o2 : F a' ≠ b') {e : Nat} (he : e < 4 * m) (ho : e / 4 ≠ c) (h : F e = a) : ∃ k, backK F c w k (F e) = some (jn (jn F a b) a' b' e) := by
  have la : a < 4 * m := by have := Q.ia; omega
  have lb : b < 4 * m := by have := Q.ib; omega
  have la' : a' < 4 * m := by have := Q.ia'; omega
  have lb' : b' < 4 * m := by have := Q.ib'; omega
  have fa : F a = e := by rw [← h]; exact I.inv e he
  have out : ∀ x, x / 4 = c → e ≠ x := fun x hx z => ho (z ▸ hx)
  have inj : ∀ {x y}, x < 4 * m → F x = y → F y = x := fun {x y} hx q => by rw [← q]; exact I.inv x hx
  have ne_ab : F a ≠ F b := fun z => Q.ab (by have := inj la z; rw [I.inv b lb] at this; exact this.symm)
  have nb : F b ≠ b := I.ne b lb
  have fb_a : F b ≠ a := fun z => out b Q.ib (fa.symm.trans (inj lb z))
  rw [h]
  by_cases hb : F b / 4 = c
  · have : F b = a' ∨ F b = b' := by
      rcases Q.all _ hb with z | z | z | z
      · exact absurd z fb_a
      · exact absurd z nb
      · exact .inl z
      · exact .inr z
    rcases this with z | z
    · have fa' : F a' = b := inj lb z
      have hx : F b' / 4 ≠ c := fun q => by
        rcases Q.all _ q with y | y | y | y
        · exact out b' Q.ib' (fa.symm.trans (inj lb' y))
        · exact Q.ab'' (z.symm.trans (inj lb' y))
        · exact Q.bb (fa'.symm.trans (inj lb' y))
        · exact I.ne b' lb' y
      refine ⟨2, ?_⟩
      rw [backK_in Q.ia, Q.ma, z, backK_in Q.ia', Q.ma', backK_out hx]
      have e1 : jn F a b a' = e := by
        unfold jn
        rw [if_neg (fun y => out a' Q.ia' (fa.symm.trans y.symm)), if_pos z.symm, fa]
      have e2 : jn F a b b' = F b' := by
        unfold jn
        rw [if_neg (fun y => out b' Q.ib' (fa.symm.trans y.symm)), if_neg (fun y => Q.ab'' (z.symm.trans y.symm))]
      show some (F b') = some (if e = jn F a b a' then jn F a b b' else _)
      rw [e1, if_pos rfl, e2]
    · have fb' : F b' = b := inj lb z
      have hx : F a' / 4 ≠ c := fun q => by
        rcases Q.all _ q with y | y | y | y
        · exact out a' Q.ia' (fa.symm.trans (inj la' y))
        · exact Q.ab'' ((inj la' y).symm.trans z)
        · exact I.ne a' la' y
        · exact Q.ba (fb'.symm.trans (inj la' y))
      refine ⟨2, ?_⟩
      rw [backK_in Q.ia, Q.ma, z, backK_in Q.ib', Q.mb', backK_out hx]
      have e1 : jn F a b b' = e := by
        unfold jn
        rw [if_neg (fun y => out b' Q.ib' (fa.symm.trans y.symm)), if_pos z.symm, fa]
      have e2 : jn F a b a' = F a' := by
        unfold jn
        rw [if_neg (fun y => out a' Q.ia' (fa.symm.trans y.symm)), if_neg (fun y => Q.ab'' (y.trans z))]
      have e3 : e ≠ F a' := fun y => by
        rw [y, I.inv a' la'] at h
        exact Q.aa h.symm
      show some (F a') = some (if e = jn F a b a' then jn F a b b' else if e = jn F a b b' then jn F a b a' else _)
      rw [e2, e1, if_neg e3, if_pos rfl]
  · refine ⟨1, ?_⟩
    rw [backK_in Q.ia, Q.ma, backK_out hb]
    have e1 : jn F a b a' = F a' := by
      unfold jn
      rw [if_neg (fun y => out a' Q.ia' (fa.symm.trans y.symm)), if_neg (fun (y : a' = F b) => hb (y ▸ Q.ia'))]
    have e2 : jn F a b b' = F b' := by
      unfold jn
      rw [if_neg (fun y => out b' Q.ib' (fa.symm.trans y.symm)), if_neg (fun (y : b' = F b) => hb (y ▸ Q.ib'))]
    have e3 : e ≠ F a' := fun y => by
      rw [y, I.inv a' la'] at h
      exact Q.aa h.symm
    have e4 : e ≠ F b' := fun y => by
      rw [y, I.inv b' lb'] at h
      exact Q.ab' h.symm
    have e5 : jn F a b e = F b := by
      unfold jn
      rw [if_pos fa.symm]
    show some (F b) = some (if e = jn F a b a' then jn F a b b' else if e = jn F a b b' then jn F a b a' else jn F a b e)
    rw [e1, e2, if_neg e3, if_neg e4, e5]
theorem sewn_a' (I : Inv2 F m) (hc : c < m) (Q : FourE c w a b a' b') (o1 : F a ≠ b) (o2 : F a' ≠ b') {e : Nat} (he : e < 4 * m) (ho : e / 4 ≠ c) (h : F e = a') : ∃ k, backK F c w k (F e) = some (jn (jn F a b) a' b' e) := by
  have la : a < 4 * m := by have := Q.ia; omega
  have lb : b < 4 * m := by have := Q.ib; omega
  have la' : a' < 4 * m := by have := Q.ia'; omega
  have lb' : b' < 4 * m := by have := Q.ib'; omega
  have inj : ∀ {x y}, x < 4 * m → F x = y → F y = x := fun {x y} hx q => by rw [← q]; exact I.inv x hx
  have fa' : F a' = e := inj he h
  have out : ∀ x, x / 4 = c → e ≠ x := fun x hx z => ho (z ▸ hx)
  have e1 : jn F a b a' = e := by
    unfold jn
    rw [if_neg (fun y => out a Q.ia (fa'.symm.trans (inj la y.symm))), if_neg (fun y => out b Q.ib (fa'.symm.trans (inj lb y.symm))), fa']
  rw [h]
  show ∃ k, backK F c w k a' = some (if e = jn F a b a' then jn F a b b' else _)
  rw [e1, if_pos rfl]
  unfold jn
  by_cases h1 : b' = F a
  · rw [if_pos h1]
    have fb' : F b' = a := inj la h1.symm
    have hx : F b / 4 ≠ c := fun q => by
      rcases Q.all _ q with y | y | y | y
      · exact Q.bb ((inj lb y).symm.trans h1.symm)
      · exact I.ne b lb y
      · exact out b Q.ib (fa'.symm.trans (inj lb y))
      · exact Q.ab (fb'.symm.trans (inj lb y))
    exact ⟨2, by rw [backK_in Q.ia', Q.ma', fb', backK_in Q.ia, Q.ma, backK_out hx]⟩
  · rw [if_neg h1]
    by_cases h2 : b' = F b
    · rw [if_pos h2]
      have fb' : F b' = b := inj lb h2.symm
      have hx : F a / 4 ≠ c := fun q => by
        rcases Q.all _ q with y | y | y | y
        · exact I.ne a la y
        · exact o1 y
        · exact out a Q.ia (fa'.symm.trans (inj la y))
        · exact h1 y.symm
      exact ⟨2, by rw [backK_in Q.ia', Q.ma', fb', backK_in Q.ib, Q.mb, backK_out hx]⟩
    · rw [if_neg h2]
      have hx : F b' / 4 ≠ c := fun q => by
        rcases Q.all _ q with y | y | y | y
        · exact h1 (inj lb' y).symm
        · exact h2 (inj lb' y).symm
        · exact o2 (inj lb' y)
        · exact I.ne b' lb' y
      exact ⟨1, by rw [backK_in Q.ia', Q.ma', backK_out hx]⟩
/-- both joinings tell what lies behind an end -/
theorem sewn_both (I : Inv2 F m) (hc : c < m) (Q : FourE c w a b a' b') (o1 : F a ≠ b) (o2 : F a' ≠ b') (hq : jn F a b a' ≠ b') {e : Nat} (he : e < 4 * m) (ho : e / 4 ≠ c) : ∃ k, backK F c w k (F e) = some (jn (jn F a b) a' b' e) := by
  have la : a < 4 * m := by have := Q.ia; omega
  have lb : b < 4 * m := by have := Q.ib; omega
  have la' : a' < 4 * m := by have := Q.ia'; omega
  have lb' : b' < 4 * m := by have := Q.ib'; omega
  have inj : ∀ {x y}, x < 4 * m → F x = y → F y = x := fun {x y} hx q => by rw [← q]; exact I.inv x hx
  have ne1 : F a ≠ F b := fun z => Q.ab (by have := inj la z; rw [I.inv b lb] at this; exact this.symm)
  have o1' : F b ≠ a := fun z => o1 (inj lb z)
  have o2' : F b' ≠ a' := fun z => o2 (inj lb' z)
  by_cases h : F e / 4 = c
  · rcases Q.all _ h with z | z | z | z
    · exact sewn_a I hc Q o1 o2 he ho z
    · have := sewn_a I hc Q.flip o1' o2 he ho z
      rw [show jn F b a = jn F a b from funext fun x => jn_flip ne1] at this
      exact this
    · exact sewn_a' I hc Q o1 o2 he ho z
    · have := sewn_a' I hc Q.flop o1 o2' he ho z
      have ne2 : jn F a b a' ≠ jn F a b b' := fun q => by
        have inv : ∀ x, x < 4 * m → x ≠ a → x ≠ b → jn F a b (jn F a b x) = x := fun x hx xa xb => by
          unfold jn
          by_cases h1 : x = F a
          · rw [if_pos h1]
            rw [if_neg (fun y => ne1 y.symm), if_pos rfl, h1]
          · rw [if_neg h1]
            by_cases h2 : x = F b
            · rw [if_pos h2, if_pos rfl, h2]
            · rw [if_neg h2, if_neg (fun y => xa (by have := I.inv x hx; rw [y, I.inv a la] at this; exact this.symm)), if_neg (fun y => xb (by have := I.inv x hx; rw [y, I.inv b lb] at this; exact this.symm))]
              exact I.inv x hx
        have r1 := inv a' la' Q.aa.symm Q.ba.symm
        have r2 := inv b' lb' Q.ab'.symm Q.bb.symm
        rw [q, r2] at r1
        exact Q.ab'' r1.symm
      rw [show jn (jn F a b) b' a' e = jn (jn F a b) a' b' e from jn_flip ne2] at this
      exact this
  · refine ⟨0, ?_⟩
    rw [backK_out h]
    have out : ∀ x, x / 4 = c → x < 4 * m → e ≠ F x := fun x hx hl z => h (by rw [z, I.inv x hl]; exact hx)
    have e1 : jn F a b e = F e := by
      unfold jn
      rw [if_neg (out a Q.ia la), if_neg (out b Q.ib lb)]
    have key : ∀ x, x / 4 = c → x < 4 * m → x ≠ a → x ≠ b → e ≠ jn F a b x := fun x hx hl xa xb z => by
      unfold jn at z
      by_cases h1 : x = F a
      · rw [if_pos h1] at z
        exact out b Q.ib lb z
      · rw [if_neg h1] at z
        by_cases h2 : x = F b
        · rw [if_pos h2] at z
          exact out a Q.ia la z
        · rw [if_neg h2] at z
          exact out x hx hl z
    show some (F e) = some (if e = jn F a b a' then _ else if e = jn F a b b' then _ else jn F a b e)
    rw [if_neg (key a' Q.ia' la' Q.aa.symm Q.ba.symm), if_neg (key b' Q.ib' lb' Q.ab'.symm Q.bb.symm), e1]
end
end One
end P_M13

section P_M15
set_option linter.all false
/-! A barred way parts the ends; what a law's own sewing out leaves is what is left. -/
namespace One
section
variable {F : Nat → Nat} {m c w : Nat}
theorem through_rev (I : Inv2 F m) (hc : c < m) (hw : w < 3) {e g x : Nat} (h : Through F c w e g) : e / 4 = c → Through F c w g x → Through F c w (e ^^^ (w + 1)) x := by
  induction h with
  | @out e h0 =>
    intro he k
    have fe := I.inv e (by omega)
    cases k with
    | out q => rw [fe] at q; exact absurd he q
    | step q r =>
      rw [fe] at r
      exact r
  | @step e g h0 _ ih =>
    intro he k
    have fe := I.inv e (by omega)
    have mb : (F e ^^^ (w + 1)) / 4 = c := (mate_block hw).trans h0
    have := ih mb k
    rw [mate_mate] at this
    cases this with
    | out q => rw [fe] at q; exact absurd he q
    | step q r =>
      rw [fe] at r
      exact r
theorem open_of (hc : closesB F c w = false) : Open F c w := fun e he z => by
  have := closesB_yes (F := F) (c := c) (w := w) (r := e % 4) (by omega) (by rw [show 4 * c + e % 4 = e by omega]; exact z)
  rw [hc] at this
  cases this
/-- what closes parts the ends -/
theorem parts_closes (I : Inv2 F m) (hc : c < m) (h2 : 2 ≤ m) (hw : w < 3) (h : closesB F c w = true) : ∃ P, Parts F m c w P := by
  unfold closesB at h
  obtain ⟨r, hr, hx⟩ := List.any_eq_true.mp h
  have hr := List.mem_range.mp hr
  have hx := of_decide_eq_true hx
  generalize hxe : 4 * c + r = x at hx
  have xc : x / 4 = c := by omega
  have xl : x < 4 * m := by omega
  have mc : (x ^^^ (w + 1)) / 4 = c := (mate_block hw).trans xc
  have ml : x ^^^ (w + 1) < 4 * m := by omega
  have fx := I.inv x xl
  rw [hx] at fx
  refine ⟨fun e => decide (e = x) || decide (e = x ^^^ (w + 1)), fun e he => ?_, fun e e' _ _ q hq => ?_, fun e he => ?_, ⟨x, xl, by simp⟩, ?_⟩
  · rw [Bool.eq_iff_iff]
    simp only [Bool.or_eq_true, decide_eq_true_eq]
    constructor
    · rintro (z | z)
      · right
        have := I.inv e he
        rw [z, hx] at this
        exact this.symm
      · left
        have := I.inv e he
        rw [z, fx] at this
        exact this.symm
    · rintro (rfl | rfl)
      · exact .inr hx
      · exact .inl fx
  · have a : ¬ e = x := fun z => hq (by rw [z]; exact xc)
    have b : ¬ e = x ^^^ (w + 1) := fun z => hq (by rw [z]; exact mc)
    have a' : ¬ e' = x := fun z => hq (by rw [q, z]; exact xc)
    have b' : ¬ e' = x ^^^ (w + 1) := fun z => hq (by rw [q, z]; exact mc)
    simp [a, b, a', b']
  · rw [Bool.eq_iff_iff]
    simp only [Bool.or_eq_true, decide_eq_true_eq]
    constructor
    · rintro (z | z)
      · right
        rw [← z, mate_mate]
      · left
        have := congrArg (· ^^^ (w + 1)) z
        simp only [mate_mate] at this
        exact this
    · rintro (rfl | rfl)
      · exact .inr rfl
      · exact .inl (mate_mate _ _)
  · by_cases h0 : c = 0
    · exact ⟨4, by omega, by simp; omega⟩
    · refine ⟨0, by omega, by simp; omega⟩
theorem leftOf_congr {B B' : Nat → Nat} : ∀ M, (∀ e, e < M → e / 4 ≠ c → B e = B' e) → leftOf B c M = leftOf B' c M
  | 0, _ => rfl
  | M + 1, h => by
    rw [leftOf_snoc, leftOf_snoc, leftOf_congr M fun e he ho => h e (by omega) ho]
    by_cases q : M / 4 ≠ c
    · rw [h M (by omega) q]
    · rw [if_neg (fun z => q z.1), if_neg (fun z => q z.1)]
theorem back_behind (I : Inv2 F m) (hc : c < m) (hw : w < 3) (O : Open F c w) {B : Nat → Nat} (hB : ∀ e, e < 4 * m → e / 4 ≠ c → ∃ k, backK F c w k (F e) = some (B e)) {e : Nat} (he : e < 4 * m) (ho : e / 4 ≠ c) : B e = behindF F c w e := by
  obtain ⟨k, hk⟩ := hB e he ho
  exact (through_of _ _ _ hk).one (through_of _ _ _ (behind_is I hc hw O he ho).1)
/-- what isn't whole behind it parts the ends -/
theorem parts_left (I : Inv2 F m) (hc : c < m) (h2 : 2 ≤ m) (hw : w < 3) (h : closesB F c w = false) {B : Nat → Nat} (hB : ∀ e, e < 4 * m → e / 4 ≠ c → ∃ k, backK F c w k (F e) = some (B e)) (hn : ¬ Whole (m - 1) (leftOf B c (4 * m))) : ∃ P, Parts F m c w P := by
  have O := open_of h
  have ⟨P', hP, h0, d, hd, hnd⟩ : ∃ P' : Nat → Prop, (∀ p ∈ leftOf B c (4 * m), P' (p.1 / 4) ↔ P' (p.2 / 4)) ∧ P' 0 ∧ ∃ d, d < m - 1 ∧ ¬ P' d := by
    refine Classical.byContradiction fun z => hn fun P' a b c hc => Classical.byContradiction fun y => z ⟨P', a, b, c, hc, y⟩
  have line : ∀ e, e < 4 * m → e / 4 ≠ c → (P' (upOf c e / 4) ↔ P' (upOf c (behindF F c w e) / 4)) := fun e he ho => by
    have bb := back_behind I hc hw O hB he ho
    obtain ⟨_, b2, b3⟩ := behind_is I hc hw O he ho
    have bi := behind_inv I hc hw O he ho
    have bn := behind_ne I hc hw O he ho
    by_cases q : e < behindF F c w e
    · exact hP _ (mem_left.mpr ⟨e, he, ho, by rw [bb]; exact q, by rw [bb]⟩)
    · have bb2 := back_behind I hc hw O hB b2 b3
      rw [bi] at bb2
      exact (hP _ (mem_left.mpr ⟨_, b2, b3, by rw [bb2]; omega, by rw [bb2]⟩)).symm
  let Pr : Nat → Prop := fun e => (e / 4 ≠ c ∧ P' (upOf c e / 4)) ∨ (e / 4 = c ∧ ∃ g, Through F c w e g ∧ P' (upOf c g / 4))
  have gIn : ∀ {e g}, Through F c w e g → e < 4 * m → g < 4 * m ∧ g / 4 ≠ c := fun {e g} t => by
    induction t with
    | @out e q => exact fun he => ⟨I.lt e he, q⟩
    | @step e g q _ ih =>
      intro he
      have := (mate_block (e := F e) hw).trans q
      exact ih (by omega)
  have matePr : ∀ e, e / 4 = c → Pr e → Pr (e ^^^ (w + 1)) := fun e he p => by
    rcases p with ⟨q, _⟩ | ⟨_, g, t, pg⟩
    · exact absurd he q
    · obtain ⟨g1, g2⟩ := gIn t (by omega)
      obtain ⟨b1, _, _⟩ := behind_is I hc hw O g1 g2
      exact .inr ⟨(mate_block hw).trans he, _, through_rev I hc hw t he (through_of _ _ _ b1), (line g g1 g2).mp pg⟩
  have farPr : ∀ e, e < 4 * m → Pr e → Pr (F e) := fun e he p => by
    have fe := I.inv e he
    rcases p with ⟨q, pe⟩ | ⟨q, g, t, pg⟩
    · by_cases h1 : F e / 4 = c
      · have := Through.out (F := F) (c := c) (w := w) (e := F e) (by rw [fe]; exact q)
        rw [fe] at this
        exact .inr ⟨h1, e, this, pe⟩
      · have b : behindF F c w e = F e := by
          have := (behind_is I hc hw O he q).1
          rw [backK_out h1] at this
          exact (Option.some.inj this).symm
        have := (line e he q).mp pe
        rw [b] at this
        exact .inl ⟨h1, this⟩
    · cases t with
      | out h1 => exact .inl ⟨h1, pg⟩
      | step h1 t =>
        have mb : (F e ^^^ (w + 1)) / 4 = c := (mate_block hw).trans h1
        have := matePr _ mb (.inr ⟨mb, g, t, pg⟩)
        rw [mate_mate] at this
        exact this
  refine ⟨fun e => @decide (Pr e) (Classical.propDecidable _), fun e he => ?_, fun e e' _ _ q hq => ?_, fun e he => ?_, ?_, ?_⟩
  · refine decide_eq_decide.mpr ⟨fun p => ?_, farPr e he⟩
    have := farPr _ (I.lt e he) p
    rw [I.inv e he] at this
    exact this
  · refine decide_eq_decide.mpr ?_
    have hq' : e' / 4 ≠ c := by rw [← q]; exact hq
    have up : upOf c e / 4 = upOf c e' / 4 := by
      unfold upOf
      split <;> split <;> omega
    constructor
    · rintro (⟨_, p⟩ | ⟨z, _⟩)
      · exact .inl ⟨hq', up ▸ p⟩
      · exact absurd z hq
    · rintro (⟨_, p⟩ | ⟨z, _⟩)
      · exact .inl ⟨hq, up ▸ p⟩
      · exact absurd z hq'
  · refine decide_eq_decide.mpr ⟨fun p => ?_, matePr e he⟩
    have := matePr _ ((mate_block hw).trans he) p
    rw [mate_mate] at this
    exact this
  · obtain ⟨e, h1, h3, h4⟩ := up_onto (c := c) (m := m) (x := 0) hc (by omega)
    exact ⟨e, h1, @decide_eq_true _ (Classical.propDecidable _) (.inl ⟨h3, by rw [h4]; exact h0⟩)⟩
  · obtain ⟨e, h1, h3, h4⟩ := up_onto (c := c) (m := m) (x := 4 * d) hc (by omega)
    refine ⟨e, h1, @decide_eq_false _ (Classical.propDecidable _) ?_⟩
    rintro (⟨_, p⟩ | ⟨z, _⟩)
    · rw [h4, show 4 * d / 4 = d by omega] at p
      exact hnd p
    · exact h3 z
end
/-! ### the law's own sewing out -/
def upL (c : Nat) (p : Nat × Nat) : Nat × Nat := low (upOf c p.1) (upOf c p.2)
theorem up_lt' {c x y : Nat} (hx : x / 4 ≠ c) (hy : y / 4 ≠ c) (h : x < y) : upOf c x < upOf c y := by
  unfold upOf
  split <;> split <;> omega
theorem perm_left {L : List (Nat × Nat)} {B : Nat → Nat} {c m : Nat} (nd : (ends L).Nodup) (hm : ∀ e, e ∈ ends L ↔ e < 4 * m ∧ e / 4 ≠ c) (hB : ∀ e, e < 4 * m → e / 4 ≠ c → B e = far L e) : (L.map (upL c)).Perm (leftOf B c (4 * m)) := by
  have inL : ∀ {p}, p ∈ L → (p.1 < 4 * m ∧ p.1 / 4 ≠ c) ∧ (p.2 < 4 * m ∧ p.2 / 4 ≠ c) ∧ far L p.1 = p.2 ∧ far L p.2 = p.1 ∧ p.1 ≠ p.2 := fun {p} hp =>
    ⟨(hm _).mp (mem_ends.mpr ⟨p, hp, .inl rfl⟩), (hm _).mp (mem_ends.mpr ⟨p, hp, .inr rfl⟩), (far_of nd hp).1, (far_of nd hp).2, nodup_pair nd p hp⟩
  have bo : ∀ e, e < 4 * m → e / 4 ≠ c → B e / 4 ≠ c ∧ B (B e) = e := fun e he ho => by
    obtain ⟨z, zz⟩ := far_line nd ((hm e).mpr ⟨he, ho⟩)
    have hf : far L e ∈ ends L := by
      rcases z with z | z
      · exact mem_ends.mpr ⟨_, z, .inr rfl⟩
      · exact mem_ends.mpr ⟨_, z, .inl rfl⟩
    obtain ⟨f1, f2⟩ := (hm _).mp hf
    rw [hB e he ho, hB _ f1 f2]
    exact ⟨f2, zz⟩
  refine (List.perm_ext_iff_of_nodup ?_ (nodup_lines (left_nodup bo _ (Nat.le_refl _)))).mpr fun x => ?_
  · refine nodup_map_on (fun p hp q hq e => ?_) (nodup_lines nd)
    obtain ⟨⟨a1, a2⟩, ⟨a3, a4⟩, _, _, a5⟩ := inL hp
    obtain ⟨⟨b1, b2⟩, ⟨b3, b4⟩, _, _, b5⟩ := inL hq
    have key := (low_mem (upOf c q.1) (upOf c q.2) (upOf c p.1)).mp (by
      have : upL c p = upL c q := e
      unfold upL at this
      rw [← this]
      exact (low_mem _ _ _).mpr (.inl rfl))
    refine line_one nd hp hq (e := p.1) (hasE_iff.mpr (.inl rfl)) (hasE_iff.mpr ?_)
    rcases key with k | k
    · exact .inl (up_inj a2 b2 k)
    · exact .inr (up_inj a2 b4 k)
  · rw [mem_left, List.mem_map]
    constructor
    · rintro ⟨p, hp, rfl⟩
      obtain ⟨⟨a1, a2⟩, ⟨a3, a4⟩, f1, f2, a5⟩ := inL hp
      by_cases q : p.1 < p.2
      · refine ⟨p.1, a1, a2, by rw [hB _ a1 a2, f1]; exact q, ?_⟩
        rw [hB _ a1 a2, f1]
        unfold upL low
        rw [if_neg (by have := up_lt' a2 a4 q; omega)]
      · have q : p.2 < p.1 := by omega
        refine ⟨p.2, a3, a4, by rw [hB _ a3 a4, f2]; exact q, ?_⟩
        rw [hB _ a3 a4, f2]
        unfold upL low
        rw [if_pos (up_lt' a4 a2 q)]
    · rintro ⟨e, h1, h2, h3, rfl⟩
      obtain ⟨z, zz⟩ := far_line nd ((hm e).mpr ⟨h1, h2⟩)
      have hb := hB e h1 h2
      obtain ⟨b1, _⟩ := bo e h1 h2
      have u := up_lt' h2 b1 h3
      rw [← hb] at z
      rcases z with z | z
      · refine ⟨_, z, ?_⟩
        unfold upL low
        rw [if_neg (by show ¬ upOf c (B e) < upOf c e; omega)]
      · refine ⟨_, z, ?_⟩
        unfold upL low
        rw [if_pos (show upOf c e < upOf c (B e) from u)]
end One
end P_M15

section P_M16
set_option linter.all false
/-! Ways barred, what is left as a yard, crossings sewn out in either order. -/
namespace One
def BarW (ps : List (Nat × Nat)) (m c w : Nat) : Prop := closesB (far ps) c w = true ∨ ¬ Whole (m - 1) (leftOf (behindF (far ps) c w) c (4 * m))
section
variable {ps : List (Nat × Nat)} {m c w w' : Nat}
theorem bar_parts (L : Lines m ps) (h2 : 2 ≤ m) (hc : c < m) (hw : w < 3) (h : BarW ps m c w) : ∃ P, Parts (far ps) m c w P := by
  have I := far_inv L
  cases q : closesB (far ps) c w with
  | true => exact parts_closes I hc h2 hw q
  | false =>
    rcases h with h | h
    · rw [q] at h
      cases h
    · exact parts_left I hc h2 hw q (fun e he ho => ⟨2, (behind_is I hc hw (open_of q) he ho).1⟩) h
/-- at most one way is barred -/
theorem bar_one (Y : Yard m ps) (h2 : 2 ≤ m) (hc : c < m) (hw : w < 3) (hw' : w' < 3) (h : BarW ps m c w) (h' : BarW ps m c w') : w = w' := by
  obtain ⟨P, S⟩ := bar_parts Y.lines h2 hc hw h
  obtain ⟨P', S'⟩ := bar_parts Y.lines h2 hc hw' h'
  exact parts_one Y.lines Y.whole hc hw hw' S S'
theorem left_up {B : Nat → Nat} (hB : ∀ e, e < 4 * m → e / 4 ≠ c → B e / 4 ≠ c) : ∀ M, M ≤ 4 * m → (leftOf B c M).Pairwise ltP
  | 0, _ => .nil
  | M + 1, h => by
    rw [leftOf_snoc]
    refine List.pairwise_append.mpr ⟨left_up hB M (by omega), ?_, fun x hx y hy => ?_⟩
    · split
      · exact List.pairwise_singleton ..
      · exact .nil
    · obtain ⟨e, h1, h3, h4, rfl⟩ := mem_left.mp hx
      split at hy
      · rename_i q
        rw [List.mem_singleton.mp hy]
        exact .inl (up_lt' h3 q.1 h1)
      · cases hy
/-- what is left, where the way isn't barred, is a yard -/
theorem left_yard (Y : Yard m ps) (h2 : 2 ≤ m) (hc : c < m) (hw : w < 3) (h : ¬ BarW ps m c w) : Yard (m - 1) (leftOf (behindF (far ps) c w) c (4 * m)) := by
  have I := far_inv Y.lines
  have q : closesB (far ps) c w = false := by
    cases z : closesB (far ps) c w with
    | false => rfl
    | true => exact absurd (.inl z) h
  have O := open_of q
  have W : Whole (m - 1) (leftOf (behindF (far ps) c w) c (4 * m)) := Classical.byContradiction fun z => h (.inr z)
  have bo : ∀ e, e < 4 * m → e / 4 ≠ c → behindF (far ps) c w e / 4 ≠ c := fun e he ho => (behind_is I hc hw O he ho).2.2
  refine ⟨by omega, left_lines I hc hw O, W, left_up bo _ (Nat.le_refl _), fun p hp => ?_⟩
  obtain ⟨e, h1, h3, h4, rfl⟩ := mem_left.mp hp
  exact up_lt' h3 (bo e h1 h3) h4
end
/-- the yards of one crossing -/
theorem yard_one {ps : List (Nat × Nat)} (Y : Yard 1 ps) : ps = [(0, 1), (2, 3)] ∨ ps = [(0, 2), (1, 3)] ∨ ps = [(0, 3), (1, 2)] := by
  have hl := Y.lines.len
  match ps, hl, Y with
  | [(a, b), (c, d)], _, Y =>
    have nd := Y.lines.nd
    have l1 := Y.low (a, b) (by simp)
    have l2 := Y.low (c, d) (by simp)
    have up := Y.up
    have b1 := Y.lines.lt b (by simp [ends])
    have b2 := Y.lines.lt d (by simp [ends])
    simp only [ends, List.nodup_cons, List.mem_cons, List.not_mem_nil, or_false, not_or] at nd
    simp only [List.pairwise_cons, List.mem_singleton, forall_eq] at up
    have u := up.1
    unfold ltP at u
    dsimp only at u l1 l2
    simp only [List.cons.injEq, Prod.mk.injEq, and_true]
    omega
/-! ### going straight on through two crossings -/
inductive Thr (F : Nat → Nat) (w : Nat) (S : Nat → Prop) : Nat → Nat → Prop
  | out {e : Nat} : ¬ S (F e / 4) → Thr F w S e (F e)
  | step {e g : Nat} : S (F e / 4) → Thr F w S (F e ^^^ (w + 1)) g → Thr F w S e g
theorem Thr.one {F : Nat → Nat} {w : Nat} {S : Nat → Prop} {e g : Nat} (h : Thr F w S e g) : ∀ {g' : Nat}, Thr F w S e g' → g = g' := by
  induction h with
  | out h0 =>
    intro g' k
    cases k with
    | out _ => rfl
    | step h1 _ => exact absurd h1 h0
  | step h0 _ ih =>
    intro g' k
    cases k with
    | out h1 => exact absurd h0 h1
    | step _ k => exact ih k
section
variable {F : Nat → Nat} {w c d : Nat}
abbrev Two (c d : Nat) : Nat → Prop := fun x => x = c ∨ x = d
theorem thr_out {e x : Nat} (h : Through F c w e x) : x / 4 ≠ d → Thr F w (Two c d) e x := by
  induction h with
  | out h0 => exact fun h => .out fun z => z.elim h0 h
  | step h0 _ ih => exact fun h => .step (.inl h0) (ih h)
theorem thr_in {e x g : Nat} (h : Through F c w e x) : x / 4 = d → Thr F w (Two c d) (x ^^^ (w + 1)) g → Thr F w (Two c d) e g := by
  induction h with
  | out h0 => exact fun h k => .step (.inr h) k
  | step h0 _ ih => exact fun h k => .step (.inl h0) (ih h k)
theorem Thr.swap {e g : Nat} (h : Thr F w (Two c d) e g) : Thr F w (Two d c) e g := by
  induction h with
  | out h0 => exact .out fun z => h0 z.symm
  | step h0 _ ih => exact .step h0.symm ih
end
/-! ### lifting what holds behind a crossing -/
section
variable {F : Nat → Nat} {m c w : Nat}
theorem through_lt (I : Inv2 F m) (hc : c < m) (hw : w < 3) {e g : Nat} (t : Through F c w e g) : e < 4 * m → g < 4 * m ∧ g / 4 ≠ c := by
  induction t with
  | @out e q => exact fun he => ⟨I.lt e he, q⟩
  | @step e g q _ ih =>
    intro he
    have := (mate_block (e := F e) hw).trans q
    exact ih (by omega)
theorem lift_ends (I : Inv2 F m) (hc : c < m) (hw : w < 3) (O : Open F c w) {Q : Nat → Prop} (hQ : ∀ e, e < 4 * m → e / 4 ≠ c → (Q (upOf c e) ↔ Q (upOf c (behindF F c w e)))) :
    ∃ R : Nat → Prop, (∀ e, e < 4 * m → (R (F e) ↔ R e)) ∧ (∀ e, e / 4 = c → (R (e ^^^ (w + 1)) ↔ R e)) ∧ ∀ e, e / 4 ≠ c → (R e ↔ Q (upOf c e)) := by
  let Pr : Nat → Prop := fun e => (e / 4 ≠ c ∧ Q (upOf c e)) ∨ (e / 4 = c ∧ ∃ g, Through F c w e g ∧ Q (upOf c g))
  have matePr : ∀ e, e / 4 = c → Pr e → Pr (e ^^^ (w + 1)) := fun e he p => by
    rcases p with ⟨q, _⟩ | ⟨_, g, t, pg⟩
    · exact absurd he q
    · obtain ⟨g1, g2⟩ := through_lt I hc hw t (by omega)
      obtain ⟨b1, _, _⟩ := behind_is I hc hw O g1 g2
      exact .inr ⟨(mate_block hw).trans he, _, through_rev I hc hw t he (through_of _ _ _ b1), (hQ g g1 g2).mp pg⟩
  have farPr : ∀ e, e < 4 * m → Pr e → Pr (F e) := fun e he p => by
    have fe := I.inv e he
    rcases p with ⟨q, pe⟩ | ⟨q, g, t, pg⟩
    · by_cases h1 : F e / 4 = c
      · have := Through.out (F := F) (c := c) (w := w) (e := F e) (by rw [fe]; exact q)
        rw [fe] at this
        exact .inr ⟨h1, e, this, pe⟩
      · have b : behindF F c w e = F e := by
          have := (behind_is I hc hw O he q).1
          rw [backK_out h1] at this
          exact (Option.some.inj this).symm
        have := (hQ e he q).mp pe
        rw [b] at this
        exact .inl ⟨h1, this⟩
    · cases t with
      | out h1 => exact .inl ⟨h1, pg⟩
      | step h1 t =>
        have mb : (F e ^^^ (w + 1)) / 4 = c := (mate_block hw).trans h1
        have := matePr _ mb (.inr ⟨mb, g, t, pg⟩)
        rw [mate_mate] at this
        exact this
  refine ⟨Pr, fun e he => ⟨fun p => ?_, farPr e he⟩, fun e he => ⟨fun p => ?_, matePr e he⟩, fun e he => ⟨?_, fun q => .inl ⟨he, q⟩⟩⟩
  · have := farPr _ (I.lt e he) p
    rw [I.inv e he] at this
    exact this
  · have := matePr _ ((mate_block hw).trans he) p
    rw [mate_mate] at this
    exact this
  · rintro (⟨_, q⟩ | ⟨z, _⟩)
    · exact q
    · exact absurd z he
theorem far_left {B : Nat → Nat} (bo : ∀ e, e < 4 * m → e / 4 ≠ c → B e < 4 * m ∧ B e / 4 ≠ c ∧ B (B e) = e ∧ B e ≠ e) (nd : (ends (leftOf B c (4 * m))).Nodup) {e : Nat} (he : e < 4 * m) (ho : e / 4 ≠ c) : far (leftOf B c (4 * m)) (upOf c e) = upOf c (B e) := by
  obtain ⟨b0, b1, b2, b3⟩ := bo e he ho
  by_cases q : e < B e
  · exact (far_of nd (mem_left.mpr ⟨e, he, ho, q, rfl⟩)).1
  · have := (far_of nd (mem_left.mpr ⟨B e, b0, b1, by rw [b2]; omega, rfl⟩)).2
    dsimp only at this
    rw [b2] at this
    exact this
end
end One
end P_M16

section P_M17
set_option linter.all false
/-! Of two crossings put across one behind the other the first one goes out first. -/
namespace One
theorem xor2 (n : Nat) : (4 * n) ^^^ 2 = 4 * n + 2 ∧ (4 * n + 1) ^^^ 2 = 4 * n + 3 := ⟨(mates n).2.1, (mates n).2.2.2.1⟩
theorem shift2 {e : Nat} (h : 4 ≤ e) : (e - 4) ^^^ 2 = (e ^^^ 2) - 4 := by
  have m1 := mates (e / 4)
  have m2 := mates (e / 4 - 1)
  obtain ⟨_, a, _, b, _⟩ := m1
  obtain ⟨_, a', _, b', _⟩ := m2
  have k1 : (4 * (e / 4) + 2) ^^^ 2 = 4 * (e / 4) := by rw [← a]; exact mate_mate _ 1
  have k2 : (4 * (e / 4) + 3) ^^^ 2 = 4 * (e / 4) + 1 := by rw [← b]; exact mate_mate _ 1
  have k3 : (4 * (e / 4 - 1) + 2) ^^^ 2 = 4 * (e / 4 - 1) := by rw [← a']; exact mate_mate _ 1
  have k4 : (4 * (e / 4 - 1) + 3) ^^^ 2 = 4 * (e / 4 - 1) + 1 := by rw [← b']; exact mate_mate _ 1
  have : e % 4 = 0 ∨ e % 4 = 1 ∨ e % 4 = 2 ∨ e % 4 = 3 := by omega
  rcases this with h | h | h | h
  · have e1 : e = 4 * (e / 4) := by omega
    have e2 : e - 4 = 4 * (e / 4 - 1) := by omega
    rw [e2, a']
    have : e ^^^ 2 = 4 * (e / 4) + 2 := by
      conv => lhs; rw [e1]
      exact a
    omega
  · have e1 : e = 4 * (e / 4) + 1 := by omega
    have e2 : e - 4 = 4 * (e / 4 - 1) + 1 := by omega
    rw [e2, b']
    have : e ^^^ 2 = 4 * (e / 4) + 3 := by
      conv => lhs; rw [e1]
      exact b
    omega
  · have e1 : e = 4 * (e / 4) + 2 := by omega
    have e2 : e - 4 = 4 * (e / 4 - 1) + 2 := by omega
    rw [e2, k3]
    have : e ^^^ 2 = 4 * (e / 4) := by
      conv => lhs; rw [e1]
      exact k1
    omega
  · have e1 : e = 4 * (e / 4) + 3 := by omega
    have e2 : e - 4 = 4 * (e / 4 - 1) + 3 := by omega
    rw [e2, k4]
    have : e ^^^ 2 = 4 * (e / 4) + 1 := by
      conv => lhs; rw [e1]
      exact k2
    omega
/-- what goes straight on at the last crossing goes along the lines that were there ahead of it -/
theorem straight {n : Nat} {ps T : List (Nat × Nat)} {i j : Nat} {a b : Nat × Nat} (L : Lines n ps) (ha : ps[i]? = some a) (hb : ps[j]? = some b) (hp : T.Perm (putOn n ps i j a b)) {R : Nat → Prop} (hf : ∀ e, e < 4 * (n + 1) → (R (far T e) ↔ R e)) (hm : ∀ e, e / 4 = n → (R (e ^^^ 2) ↔ R e)) :
    (∀ p ∈ ps, R p.1 ↔ R p.2) ∧ ∀ e, e / 4 = n → ∃ x, x < 4 * n ∧ (R e ↔ R x) := by
  have LT : Lines (n + 1) T := (put_lines L ha hb).perm hp.symm
  have line : ∀ q ∈ putOn n ps i j a b, R q.1 ↔ R q.2 := fun q hq => by
    have hq := hp.mem_iff.mpr hq
    have := hf q.1 (LT.lt _ (mem_ends.mpr ⟨q, hq, .inl rfl⟩))
    rw [(far_of LT.nd hq).1] at this
    exact this.symm
  have la : a.1 < 4 * n := L.lt _ (mem_ends.mpr ⟨a, List.mem_of_getElem? ha, .inl rfl⟩)
  have lb : b.1 < 4 * n := L.lt _ (mem_ends.mpr ⟨b, List.mem_of_getElem? hb, .inl rfl⟩)
  obtain ⟨x0, x1⟩ := xor2 n
  have m0 := hm (4 * n) (by omega)
  have m1 := hm (4 * n + 1) (by omega)
  rw [x0] at m0
  rw [x1] at m1
  have kept : ∀ q ∈ keepIx (notIJ i j) 0 ps, R q.1 ↔ R q.2 := fun q hq => line q (List.mem_append.mpr (.inl hq))
  have fr : ∀ q ∈ fresh n i j a b, R q.1 ↔ R q.2 := fun q hq => line q (List.mem_append.mpr (.inr hq))
  have each : ∀ e, e / 4 = n → e = 4 * n ∨ e = 4 * n + 1 ∨ e = 4 * n + 2 ∨ e = 4 * n + 3 := fun e he => by omega
  by_cases hij : i = j
  · subst hij
    cases ha.symm.trans hb
    unfold fresh at fr
    rw [if_pos rfl] at fr
    have f1 := fr (a.1, 4 * n) (by simp)
    have f2 := fr (4 * n + 1, 4 * n + 2) (by simp)
    have f3 := fr (a.2, 4 * n + 3) (by simp)
    dsimp only at f1 f2 f3
    refine ⟨fun p hp' => ?_, fun e he => ⟨a.1, la, ?_⟩⟩
    · rcases List.mem_cons.mp ((keep_one ha).mem_iff.mp hp') with rfl | h
      · exact f1.trans (m0.symm.trans (f2.symm.trans (m1.symm.trans f3.symm)))
      · exact kept p h
    · rcases each e he with rfl | rfl | rfl | rfl
      · exact f1.symm
      · exact f2.trans (m0.trans f1.symm)
      · exact m0.trans f1.symm
      · exact m1.trans (f2.trans (m0.trans f1.symm))
  · unfold fresh at fr
    rw [if_neg hij] at fr
    have f1 := fr (a.1, 4 * n) (by simp)
    have f2 := fr (a.2, 4 * n + 2) (by simp)
    have f3 := fr (b.1, 4 * n + 1) (by simp)
    have f4 := fr (b.2, 4 * n + 3) (by simp)
    dsimp only at f1 f2 f3 f4
    refine ⟨fun p hp' => ?_, fun e he => ?_⟩
    · rcases List.mem_cons.mp ((keep_two hij ha hb).mem_iff.mp hp') with rfl | h
      · exact f1.trans (m0.symm.trans f2.symm)
      · rcases List.mem_cons.mp h with rfl | h
        · exact f3.trans (m1.symm.trans f4.symm)
        · exact kept p h
    · rcases each e he with rfl | rfl | rfl | rfl
      · exact ⟨a.1, la, f1.symm⟩
      · exact ⟨b.1, lb, f3.symm⟩
      · exact ⟨a.1, la, m0.trans f1.symm⟩
      · exact ⟨b.1, lb, m1.trans f3.symm⟩
theorem left_put' {n : Nat} {ps : List (Nat × Nat)} (y : Yard n ps) : leftOf (far ps) n (4 * (n + 1)) = ps := by
  have drop : ∀ r, r < 4 → leftOf (far ps) n (4 * n + r + 1) = leftOf (far ps) n (4 * n + r) := fun r hr => by
    rw [leftOf_snoc, if_neg (fun z => z.1 (by omega)), List.append_nil]
  have e : leftOf (far ps) n (4 * (n + 1)) = leftOf (far ps) n (4 * n) := by
    rw [show 4 * (n + 1) = 4 * n + 3 + 1 by omega, drop 3 (by omega), drop 2 (by omega), drop 1 (by omega)]
    exact drop 0 (by omega)
  rw [e, ← yard_linesOf y]
  have key : ∀ m, m ≤ 4 * n → leftOf (far (linesOf (far ps) (4 * n))) n m = linesOf (far ps) m := by
    rw [yard_linesOf y]
    intro m
    induction m with
    | zero => exact fun _ => rfl
    | succ m ih =>
      intro hm
      rw [leftOf_snoc, linesOf_snoc, ih (by omega)]
      have hf := far_lt y.lines (e := m) (by omega)
      have u1 : upOf n m = m := if_neg (by omega)
      have u2 : upOf n (far ps m) = far ps m := if_neg (by omega)
      have hd : m / 4 ≠ n := by omega
      by_cases h : m < far ps m
      · rw [if_pos ⟨hd, h⟩, if_pos h, u1, u2]
      · rw [if_neg (fun z => h z.2), if_neg h]
  exact key _ (Nat.le_refl _)
section
variable {n : Nat} {ps T1 T2 : List (Nat × Nat)} {i j i' j' : Nat} {a b a' b' : Nat × Nat}
theorem flat2 (Y : Yard n ps) (ha : ps[i]? = some a) (hb : ps[j]? = some b) (hp : T1.Perm (putOn n ps i j a b)) (Y1 : Yard (n + 1) T1) (ha' : T1[i']? = some a') (hb' : T1[j']? = some b') (hp' : T2.Perm (putOn (n + 1) T1 i' j' a' b'))
    {R : Nat → Prop} (hf : ∀ e, e < 4 * (n + 2) → (R (far T2 e) ↔ R e)) (hm : ∀ e, e / 4 = n → (R (e ^^^ 2) ↔ R e)) (hm' : ∀ e, e / 4 = n + 1 → (R (e ^^^ 2) ↔ R e)) (hc : ∀ e e', e < 4 * n → e' < 4 * n → e / 4 = e' / 4 → (R e ↔ R e')) : ∀ e, e < 4 * (n + 2) → (R e ↔ R 0) := by
  obtain ⟨s1, s2⟩ := straight Y1.lines ha' hb' hp' hf hm'
  have hf1 : ∀ e, e < 4 * (n + 1) → (R (far T1 e) ↔ R e) := fun e he => by
    obtain ⟨z | z, _⟩ := far_line Y1.lines.nd (ends_full Y1.lines he)
    · exact (s1 _ z).symm
    · exact s1 _ z
  obtain ⟨t1, t2⟩ := straight Y.lines ha hb hp hf1 hm
  have pos := Y.pos
  have low : ∀ e, e < 4 * n → (R e ↔ R 0) := fun e he => by
    have := Y.whole (fun d => R (4 * d) ↔ R 0) (fun p hp => by
      have l1 := Y.lines.lt p.1 (mem_ends.mpr ⟨p, hp, .inl rfl⟩)
      have l2 := Y.lines.lt p.2 (mem_ends.mpr ⟨p, hp, .inr rfl⟩)
      have c1 := hc p.1 (4 * (p.1 / 4)) l1 (by omega) (by omega)
      have c2 := hc p.2 (4 * (p.2 / 4)) l2 (by omega) (by omega)
      have := t1 p hp
      show (R (4 * (p.1 / 4)) ↔ R 0) ↔ (R (4 * (p.2 / 4)) ↔ R 0)
      rw [← c1, ← c2, this]) Iff.rfl (e / 4) (by omega)
    exact (hc e (4 * (e / 4)) he (by omega) (by omega)).trans this
  have mid : ∀ e, e < 4 * (n + 1) → (R e ↔ R 0) := fun e he => by
    by_cases h : e / 4 = n
    · obtain ⟨x, hx, k⟩ := t2 e h
      exact k.trans (low x hx)
    · exact low e (by omega)
  intro e he
  by_cases h : e / 4 = n + 1
  · obtain ⟨x, hx, k⟩ := s2 e h
    exact k.trans (mid x hx)
  · exact mid e (by omega)
/-- the first one goes out ahead of the second one -/
theorem free_first (Y : Yard n ps) (ha : ps[i]? = some a) (hb : ps[j]? = some b) (hp : T1.Perm (putOn n ps i j a b)) (Y1 : Yard (n + 1) T1) (ha' : T1[i']? = some a') (hb' : T1[j']? = some b') (hp' : T2.Perm (putOn (n + 1) T1 i' j' a' b')) (Y2 : Yard (n + 2) T2) : ¬ BarW T2 (n + 2) n 1 := by
  intro h
  obtain ⟨P, S⟩ := bar_parts Y2.lines (by omega) (by omega) (by decide) h
  have all := flat2 Y ha hb hp Y1 ha' hb' hp' (R := fun e => P e = true) (fun e he => by rw [S.far e he]) (fun e he => by rw [S.mate e he])
    (fun e he => by
      have mb : (e ^^^ 2) / 4 = e / 4 := mate_block (w := 1) (by decide)
      rw [S.blk (e ^^^ 2) e (by omega) (by omega) mb (by omega)])
    (fun e e' he he' q => by rw [S.blk e e' (by omega) (by omega) q (by omega)])
  obtain ⟨x, hx, px⟩ := S.some_
  obtain ⟨y, hy, py⟩ := S.none_
  have := ((all x hx).trans (all y hy).symm).mp px
  rw [py] at this
  cases this
/-- .. and the second one behind it -/
theorem free_second (Y : Yard n ps) (ha : ps[i]? = some a) (hb : ps[j]? = some b) (hp : T1.Perm (putOn n ps i j a b)) (Y1 : Yard (n + 1) T1) (ha' : T1[i']? = some a') (hb' : T1[j']? = some b') (hp' : T2.Perm (putOn (n + 1) T1 i' j' a' b')) (Y2 : Yard (n + 2) T2) :
    ¬ BarW (leftOf (behindF (far T2) n 1) n (4 * (n + 2))) (n + 1) n 1 := by
  have hfree := free_first Y ha hb hp Y1 ha' hb' hp' Y2
  have YL := left_yard Y2 (by omega) (by omega) (by decide) hfree
  have YL : Yard (n + 1) (leftOf (behindF (far T2) n 1) n (4 * (n + 2))) := YL
  have I := far_inv Y2.lines
  have O : Open (far T2) n 1 := open_of (by
    cases z : closesB (far T2) n 1 with
    | false => rfl
    | true => exact absurd (.inl z) hfree)
  have pos := Y.pos
  intro h
  obtain ⟨P, S⟩ := bar_parts YL.lines (by omega) (by omega) (by decide) h
  have fl : ∀ e, e < 4 * (n + 2) → e / 4 ≠ n → far (leftOf (behindF (far T2) n 1) n (4 * (n + 2))) (upOf n e) = upOf n (behindF (far T2) n 1 e) := fun e he ho =>
    far_left (fun e he ho => ⟨(behind_is I (by omega) (by decide) O he ho).2.1, (behind_is I (by omega) (by decide) O he ho).2.2, behind_inv I (by omega) (by decide) O he ho, behind_ne I (by omega) (by decide) O he ho⟩) YL.lines.nd he ho
  obtain ⟨R, r1, r2, r3⟩ := lift_ends I (by omega) (by decide) O (Q := fun x => P x = true) fun e he ho => by
    have l := up_lt (m := n + 2) (by omega) he ho
    have := S.far (upOf n e) l
    rw [fl e he ho] at this
    rw [this]
  have all := flat2 Y ha hb hp Y1 ha' hb' hp' r1 r2 (fun e he => by
      have mb : (e ^^^ 2) / 4 = e / 4 := mate_block (w := 1) (by decide)
      rw [r3 e (by omega), r3 (e ^^^ 2) (by omega)]
      have u1 : upOf n e = e - 4 := if_pos (by omega)
      have u2 : upOf n (e ^^^ 2) = (e ^^^ 2) - 4 := if_pos (by omega)
      rw [u1, u2, ← shift2 (by omega), S.mate (e - 4) (by omega)])
    (fun e e' he he' q => by
      have u1 : upOf n e = e := if_neg (by omega)
      have u2 : upOf n e' = e' := if_neg (by omega)
      rw [r3 e (by omega), r3 e' (by omega), u1, u2, S.blk e e' (by omega) (by omega) q (by omega)])
  have get : ∀ x, x < 4 * (n + 1) → (P x = true ↔ R 0) := fun x hx => by
    obtain ⟨e, h1, h2, h3⟩ := up_onto (c := n) (m := n + 2) (x := x) (by omega) (by omega)
    have := r3 e h2
    rw [h3] at this
    exact this.symm.trans (all e h1)
  obtain ⟨x, hx, px⟩ := S.some_
  obtain ⟨y, hy, py⟩ := S.none_
  have := ((get x hx).trans (get y hy).symm).mp px
  rw [py] at this
  cases this
def downE (n x : Nat) : Nat := if n ≤ x / 4 then x + 4 else x
/-- both out, it is the yard that was -/
theorem both_out (Y : Yard n ps) (hn : n < 40) (ha : ps[i]? = some a) (hb : ps[j]? = some b) (hp : T1.Perm (putOn n ps i j a b)) (Y1 : Yard (n + 1) T1) (ha' : T1[i']? = some a') (hb' : T1[j']? = some b') (hp' : T2.Perm (putOn (n + 1) T1 i' j' a' b')) (Y2 : Yard (n + 2) T2) :
    leftOf (behindF (far (leftOf (behindF (far T2) n 1) n (4 * (n + 2)))) n 1) n (4 * (n + 1)) = ps := by
  have hfree := free_first Y ha hb hp Y1 ha' hb' hp' Y2
  have hsec := free_second Y ha hb hp Y1 ha' hb' hp' Y2
  have YL : Yard (n + 1) (leftOf (behindF (far T2) n 1) n (4 * (n + 2))) := left_yard Y2 (by omega) (by omega) (by decide) hfree
  have I := far_inv Y2.lines
  have IL := far_inv YL.lines
  have opn : ∀ {qs : List (Nat × Nat)} {m : Nat}, ¬ BarW qs m n 1 → Open (far qs) n 1 := fun {qs m} h => open_of (by
    cases z : closesB (far qs) n 1 with
    | false => rfl
    | true => exact absurd (.inl z) h)
  have O := opn hfree
  have OL := opn hsec
  have fl : ∀ e, e < 4 * (n + 2) → e / 4 ≠ n → far (leftOf (behindF (far T2) n 1) n (4 * (n + 2))) (upOf n e) = upOf n (behindF (far T2) n 1 e) := fun e he ho =>
    far_left (fun e he ho => ⟨(behind_is I (by omega) (by decide) O he ho).2.1, (behind_is I (by omega) (by decide) O he ho).2.2, behind_inv I (by omega) (by decide) O he ho, behind_ne I (by omega) (by decide) O he ho⟩) YL.lines.nd he ho
  obtain ⟨sb1, _⟩ := sew_back Y.lines ha hb hp (by omega)
  obtain ⟨sb2, _⟩ := sew_back Y1.lines ha' hb' hp' (by omega)
  have upd : ∀ x, upOf n (downE n x) = x := fun x => by
    unfold downE upOf
    split <;> split <;> omega
  have dn : ∀ x, x / 4 ≠ n → downE n (upOf n x) = x := fun x hx => by
    unfold downE upOf
    split <;> split <;> omega
  have dne : ∀ x, downE n x / 4 ≠ n := fun x => by
    unfold downE
    split <;> omega
  have dlt : ∀ x, x < 4 * (n + 1) → downE n x < 4 * (n + 2) := fun x hx => by
    unfold downE
    split <;> omega
  -- by the yard that was
  have A : ∀ {e g : Nat}, Through (far T1) n 1 e g → e < 4 * (n + 1) → Thr (far T2) 1 (Two (n + 1) n) e g := fun {e g} h => by
    induction h with
    | @out e h0 => exact fun he => thr_out (through_of _ _ _ (sb2 e he)) h0
    | @step e g h0 _ ih =>
      intro he
      refine thr_in (through_of _ _ _ (sb2 e he)) h0 (ih ?_)
      have := mate_block (e := far T1 e) (w := 1) (by decide)
      omega
  -- by what is left
  have B : ∀ {e g : Nat}, Through (far (leftOf (behindF (far T2) n 1) n (4 * (n + 2)))) n 1 e g → e < 4 * (n + 1) → Thr (far T2) 1 (Two n (n + 1)) (downE n e) (downE n g) := fun {e g} h => by
    induction h with
    | @out e h0 =>
      intro he
      have f := fl _ (dlt e he) (dne e)
      rw [upd] at f
      obtain ⟨b1, b2, b3⟩ := behind_is I (by omega) (by decide) O (dlt e he) (dne e)
      rw [f, dn _ b3]
      refine thr_out (through_of _ _ _ b1) fun z => h0 ?_
      rw [f]
      unfold upOf
      rw [if_pos (by omega)]
      omega
    | @step e g h0 _ ih =>
      intro he
      have f := fl _ (dlt e he) (dne e)
      rw [upd] at f
      obtain ⟨b1, b2, b3⟩ := behind_is I (by omega) (by decide) O (dlt e he) (dne e)
      have hN : behindF (far T2) n 1 (downE n e) / 4 = n + 1 := by
        rw [f] at h0
        unfold upOf at h0
        split at h0 <;> omega
      have u : upOf n (behindF (far T2) n 1 (downE n e)) = behindF (far T2) n 1 (downE n e) - 4 := if_pos (by omega)
      refine thr_in (through_of _ _ _ b1) hN ?_
      have mb := mate_block (e := far (leftOf (behindF (far T2) n 1) n (4 * (n + 2))) e) (w := 1) (by decide)
      have k := ih (by omega)
      rw [f, u] at k mb
      have sh : (behindF (far T2) n 1 (downE n e) - 4) ^^^ (1 + 1) = (behindF (far T2) n 1 (downE n e) ^^^ 2) - 4 := shift2 (by omega)
      rw [sh] at k mb
      have d4 : downE n ((behindF (far T2) n 1 (downE n e) ^^^ 2) - 4) = behindF (far T2) n 1 (downE n e) ^^^ 2 := by
        have mb2 : (behindF (far T2) n 1 (downE n e) ^^^ 2) / 4 = behindF (far T2) n 1 (downE n e) / 4 := mate_block (w := 1) (by decide)
        unfold downE
        rw [if_pos (by show n ≤ ((behindF (far T2) n 1 (downE n e) ^^^ 2) - 4) / 4; omega)]
        show (behindF (far T2) n 1 (downE n e) ^^^ 2) - 4 + 4 = behindF (far T2) n 1 (downE n e) ^^^ 2
        omega
      rw [d4] at k
      exact k
  have same : ∀ e, e < 4 * (n + 1) → e / 4 ≠ n → behindF (far (leftOf (behindF (far T2) n 1) n (4 * (n + 2)))) n 1 e = far ps e := fun e he ho => by
    obtain ⟨b1, b2, b3⟩ := behind_is IL (by omega) (by decide) OL he ho
    have k1 := B (through_of _ _ _ b1) he
    have k2 := (A (through_of _ _ _ (sb1 e (by omega))) he).swap
    have de : downE n e = e := if_neg (by omega)
    rw [de] at k1
    have q := k1.one k2
    have lf := far_lt Y.lines (e := e) (by omega)
    unfold downE at q
    split at q <;> omega
  rw [leftOf_congr _ same]
  exact left_put' Y
end
end One
end P_M17

section P_F4
set_option linter.all false
set_option maxRecDepth 100000
set_option maxHeartbeats 8000000
namespace One
open PySem PySem.Spec PyProof.Rows L2
abbrev sNeed : Stmt := top 19
abbrev sIsYard : Stmt := top 20
abbrev sCross : Stmt := top 26
abbrev sBadYard : Stmt := top 2
theorem scNeed : FnScope ["thing", "place"] ["thing"] (defScope sNeed) := ⟨rfl, rfl, rfl, by decide +kernel, rfl, by decide +kernel, by decide +kernel⟩
theorem scIsYard : FnScope ["thing"] ["thing"] (defScope sIsYard) := ⟨rfl, rfl, rfl, by decide +kernel, rfl, by decide +kernel, by decide +kernel⟩
theorem scCross : FnScope ["yard"] ["yard"] (defScope sCross) := ⟨rfl, rfl, rfl, by decide +kernel, rfl, by decide +kernel, by decide +kernel⟩
theorem il_of {H : Hp} {N : Nat} {as : List Addr} {ps : List (Nat × Nat)} (h : PL H as ps) (k : ∀ p ∈ ps, p.1 < p.2 ∧ p.2 < N) : IL H N (refs as) (ps.map some) := by
  induction h with
  | nil => exact .nil
  | cons h1 _ ih =>
    obtain ⟨k1, k2⟩ := k _ (List.mem_cons_self ..)
    exact .line h1 k1 k2 (ih fun p m => k p (List.mem_cons_of_mem _ m))
theorem map_some_inj {α : Type} : ∀ {a b : List α}, a.map some = b.map some → a = b
  | [], [], _ => rfl
  | [], _ :: _, h => by cases h
  | _ :: _, [], h => by cases h
  | x :: a, y :: b, h => by
    rw [List.map_cons, List.map_cons] at h
    obtain ⟨h1, h2⟩ := List.cons.inj h
    rw [Option.some.inj h1, map_some_inj h2]
theorem Yard.lt {n : Nat} {ps : List (Nat × Nat)} (y : Yard n ps) : ∀ p ∈ ps, p.1 < p.2 ∧ p.2 < 4 * n := fun p m => ⟨y.low p m, y.lines.lt _ (mem_ends.mpr ⟨p, m, .inr rfl⟩)⟩
/-- a yard has no fault -/
theorem fault_good {H : Hp} {t : Addr} {n : Nat} {ps : List (Nat × Nat)} {Q : VK} {E : XK} (y : YAt H t n ps) (hn : n ≤ 40) (q : ∀ H', Same H H' → Q .non H') : spFault [.ref t] H Q E := by
  obtain ⟨Y, as, ht, hP⟩ := y
  have hl : (refs as).length = 2 * n := by rw [List.length_map, hP.len, Y.lines.len]
  have hpos := Y.pos
  refine ⟨_, rfl, .inr ⟨t, refs as, ps.map some, rfl, ht, ?_, ?_, fun k hk => ?_, fun _ qs e => ?_⟩⟩
  · unfold canBe
    rw [hl]
    simp only [Bool.and_eq_true, decide_eq_true_eq]
    omega
  · rw [hl]
    exact il_of hP fun p m => ⟨(Y.lt p m).1, by have := (Y.lt p m).2; omega⟩
  · rw [yard_good Y] at hk
    cases hk
  · cases map_some_inj e
    rw [hl, show 2 * n / 2 = n by omega]
    exact ⟨fun _ => q, fun z => absurd Y.whole z⟩
theorem fault_mono {H : Hp} {v : V} {Q Q' : VK} {E E' : XK} (h : spFault [v] H Q E) (k : ∀ r H', Q r H' → Q' r H') : spFault [v] H Q' E' := by
  obtain ⟨v', e, h⟩ := h
  refine ⟨v', e, ?_⟩
  rcases h with ⟨h1, h2⟩ | ⟨t, xs, os, h1, h2, h3, h4, h5, h6⟩
  · exact .inl ⟨h1, fun H' p a b => k _ _ (h2 H' p a b)⟩
  · exact .inr ⟨t, xs, os, h1, h2, h3, h4, fun j e H' p a b => k _ _ (h5 j e H' p a b), fun e ps eo => ⟨fun z H' a => k _ _ ((h6 e ps eo).1 z H' a), fun z H' p a b => k _ _ ((h6 e ps eo).2 z H' p a b)⟩⟩
/-- a tuple of no good length: () -/
theorem fault_len {H : Hp} {t : Addr} {xs : List V} {Q : VK} {E : XK} (ht : H t = some (.tup xs)) (hc : canBe (xs.length : Nat) = false) (q : ∀ (H' : Hp) (p : Addr), Same H H' → H' p = some (.tup []) → Q (.ref p) H') : spFault [.ref t] H Q E :=
  ⟨_, rfl, .inl ⟨.inr ⟨t, xs, rfl, ht, hc⟩, q⟩⟩
/-- a fault told -/
def Wrong (C0 : Addr) (E : XK) (r : V) (H : Hp) : Prop := ∃ (p : Addr) (ns : List Nat), r = .ref p ∧ H p = some (.tup (nats ns)) ∧ ns.length ≤ 100 ∧ (∀ n ∈ ns, n < 1000) ∧ ∀ d, H d = none → E (.ref C0) (some d) (upd H d (.xd [("place", .ref p)]))
def spNeed (C0 : Addr) : Sp := fun vs H Q E => ∃ v, vs = [v] ∧ spFault [v] H (fun r H' => (r = .non ∧ Q v H') ∨ Wrong C0 E r H') E0
def spIsYard : Sp := fun vs H Q _ => ∃ v, vs = [v] ∧ spFault [v] H (fun r H' => Q (.bl (decide (r = .non))) H') E0
def spCross (C0 : Addr) : Sp := fun vs H Q E => spNeed C0 vs H (fun v H' => ∃ t xs, v = .ref t ∧ H' t = some (.tup xs) ∧ Q (.int ((xs.length / 2 : Nat))) H') E
section
variable {P : Program} {w : World} {K : PySem.W.Frag} {mg : Str → Option Value} {base : Heap} {C0 fI : Addr} {sX : Stmt}
theorem ok_need {f fF : Addr} {fd fdF : FuncData} (F : Fun K "need_yard" "need_yard" sNeed f fd) (T : OwnTxt P K sX "place" C0 fI) (O : OwnCls K mg "BadYard" C0 fI) (noS : mg "super" = none) (B : Cal K mg "yard_fault" fF fdF ["thing"]) (GF : FnOk P w K mg base CX0 4 fF fdF ["thing"] spFault) :
    FnOk P w K mg base (L2.CX P w) 5 f fd ["thing"] (spNeed C0) := by
  refine F.okX scNeed (fun vs H Q E h => ?_) (fun cdv A outer s H vs Q E hr h => ?_)
  · obtain ⟨v, rfl, _⟩ := h
    rfl
  · obtain ⟨v, rfl, h⟩ := h
    have nd := scNeed.nd
    refine ⟨_, pss_cons (ps_set (i := 1) nd rfl (Or.inl rfl) (pe_call GF hr rfl B.g B.kp B.b .nil pass0 (pa_cons (pv 0) pa_nil)))
      (pss_cons (ps_if (pt_cmpR op_notN (pv 1) pe_non (nomark _)) (pss_one (ps_raiseX rfl (Or.inl rfl) T O noS hr (takes_of rfl rfl rfl rfl) (pa_cons (pv 1) pa_nil) (by rfl))) pss_nil)
      (pss_one (ps_ret (pv 0)))), ?_⟩
    refine ⟨_, rfl, ?_⟩
    unfold tNil
    refine fault_mono (Q := fun r H' => (r = .non ∧ Q v H') ∨ Wrong C0 E r H') h fun r H' hq => ?_
    rcases hq with ⟨rfl, q⟩ | ⟨p, ns, rfl, hp, hl, hs, q⟩
    · exact ⟨_, rfl, rfl, _, rfl, iteF ⟨_, rfl, q⟩⟩
    · refine ⟨_, rfl, rfl, _, rfl, iteT ⟨_, rfl, _, rfl, .tup ns (SqT.of hp) hl hs, fun d hd => q d hd⟩⟩
theorem ok_isyard {f fF : Addr} {fd fdF : FuncData} (F : Fun K "is_yard" "is_yard" sIsYard f fd) (B : Cal K mg "yard_fault" fF fdF ["thing"]) (GF : FnOk P w K mg base CX0 4 fF fdF ["thing"] spFault) :
    FnOk P w K mg base CX0 5 f fd ["thing"] spIsYard := by
  refine F.ok scIsYard (fun vs H Q E h => ?_) (fun cdv A outer s H vs Q E hr h => ?_)
  · obtain ⟨v, rfl, _⟩ := h
    rfl
  · obtain ⟨v, rfl, h⟩ := h
    refine ⟨_, pss_one (ps_ret (pe_cmpR op_isN (pe_call GF hr rfl B.g B.kp B.b .nil pass0 (pa_cons (pv 0) pa_nil)) pe_non (nomark _))), ?_⟩
    refine ⟨_, rfl, ?_⟩
    unfold tNil
    exact fault_mono h fun r H' hq => ⟨rfl, hq⟩
theorem ok_cross {f fN : Addr} {fd fdN : FuncData} (F : Fun K "crossings" "crossings" sCross f fd) (T : TB mg) (N : Cal K mg "need_yard" fN fdN ["thing"]) (GN : FnOk P w K mg base (L2.CX P w) 5 fN fdN ["thing"] (spNeed C0)) :
    FnOk P w K mg base (L2.CX P w) 6 f fd ["yard"] (spCross C0) := by
  refine F.okX scCross (fun vs H Q E h => ?_) (fun cdv A outer s H vs Q E hr h => ?_)
  · obtain ⟨v, rfl, _⟩ := h
    rfl
  · obtain ⟨v, rfl, h⟩ := h
    refine ⟨_, pss_one (ps_ret (pe_op op_fdiv (pe_callB call_len_seq (by rfl) T.len PySem.boot_len (pa_cons (pe_call GN hr rfl N.g N.kp N.b .nil (passes_call (takes_of rfl rfl rfl rfl) (fun _ _ _ _ h => h)) (pa_cons (pv 0) pa_nil)) pa_nil)) pe_int)), ?_⟩
    refine ⟨_, rfl, v, rfl, fault_mono h fun r H' hq => hq.imp (fun ⟨e, t, xs, e2, ht, q⟩ => ⟨e, t, xs, by rw [e2], .inr (SqT.of ht), ?_⟩) id⟩
    refine ⟨_, _, rfl, rfl, ⟨by decide, by decide⟩, ?_⟩
    have e4 : ((xs.length : Nat) : Int) / 2 = ((xs.length / 2 : Nat) : Int) := by omega
    show Q (.int (((xs.length : Nat) : Int) / 2)) H'
    rw [e4]
    exact q
end
end One
end P_F4

section P_F5
set_option linter.all false
set_option maxRecDepth 100000
set_option maxHeartbeats 8000000
namespace One
open PySem PySem.Spec PyProof.Rows L2
abbrev sPut : Stmt := top 29
abbrev nPut : List Str := ["yard", "line", "other", "many", "stay", "new", "low", "high", "come", "other_low", "other_high", "number", "pair"]
theorem scPut : FnScope nPut ["yard", "line", "other"] (defScope sPut) := ⟨rfl, rfl, rfl, by decide +kernel, rfl, by decide +kernel, by decide +kernel⟩
def RPlace (C : Addr) (E : XK) (H : Hp) : Prop := ∀ (H' : Hp) (p d : Addr), Same H H' → H' p = some (.tup []) → H' d = some (.xd [("place", .ref p)]) → E (.ref C) (some d) H'
def spPut (C0 C5 C7 : Addr) : Sp := fun vs H Q E => ∃ (t : Addr) (v1 v2 : V) (T1 T2 : String), vs = [.ref t, v1, v2] ∧ TV H v1 T1 ∧ TV H v2 T2 ∧
  ((∃ xs, H t = some (.tup xs) ∧ canBe (xs.length : Nat) = false ∧ RPlace C0 E H) ∨
    ∃ n ps, YAt H t n ps ∧ n ≤ 40 ∧ (n = 40 → ∀ (H' : Hp) (d : Addr), Same H H' → H' d = some (.xd [("many", .int 41)]) → E (.ref C7) (some d) H') ∧
      (n < 40 → (belowV v1 (2 * n : Nat) && belowV v2 (2 * n : Nat)) = false → RPlace C5 E H) ∧
      (n < 40 → ∀ (i j : Nat) (a b : Nat × Nat), v1 = .int (i : Nat) → v2 = .int (j : Nat) → ps[i]? = some a → ps[j]? = some b →
        ∀ (H' : Hp) (t' : Addr) (as : List Addr) (T : List (Nat × Nat)), Same H H' → H' t' = some (.tup (refs as)) → PL H' as T → T.Perm (putOn n ps i j a b) → T.Pairwise leP → Q (.ref t') H'))
theorem below_nat {v : V} {n : Nat} (h : belowV v (n : Nat) = true) : ∃ i : Nat, v = .int (i : Nat) ∧ i < n := by
  cases v with
  | int i =>
    have h : (decide (0 ≤ i) && decide (i < ((n : Nat) : Int))) = true := h
    simp only [Bool.and_eq_true, decide_eq_true_eq] at h
    obtain ⟨j, rfl⟩ : ∃ j : Nat, i = (j : Nat) := ⟨i.toNat, by omega⟩
    exact ⟨j, rfl, by omega⟩
  | _ => exact nof h
section
variable {P : Program} {w : World} {K : PySem.W.Frag} {mg : Str → Option Value} {base : Heap} {C0 C5 C7 f5 f7 : Addr} {x5 x7 : Stmt}
theorem ok_put {f fC fB : Addr} {fd fdC fdB : FuncData} (F : Fun K "put_across" "put_across" sPut f fd) (T : TB mg) (TCo : TC mg) (T5 : OwnTxt P K x5 "place" C5 f5) (O5 : OwnCls K mg "OutOfPlace" C5 f5) (T7 : OwnTxt P K x7 "many" C7 f7) (O7 : OwnCls K mg "TooMany" C7 f7) (noS : mg "super" = none)
    (C : Cal K mg "crossings" fC fdC ["yard"]) (GC : FnOk P w K mg base (L2.CX P w) 6 fC fdC ["yard"] (spCross C0)) (B : Cal K mg "is_below" fB fdB ["thing", "many"]) (GB : FnOk P w K mg base CX0 2 fB fdB ["thing", "many"] spIsBelow) :
    FnOk P w K mg base (L2.CX P w) 7 f fd ["yard", "line", "other"] (spPut C0 C5 C7) := by
  refine F.okX scPut (fun vs H Q E h => ?_) (fun cdv A outer s H vs Q E hr h => ?_)
  · obtain ⟨t, v1, v2, T1, T2, rfl, _⟩ := h
    rfl
  · obtain ⟨t, v1, v2, T1, T2, rfl, hv1, hv2, h⟩ := h
    have nd := scPut.nd
    have hr2 : Room 2 _ := hr.mono (by decide)
    obtain ⟨u40, ht40⟩ := TCo.most
    obtain ⟨u4, ht4⟩ := TCo.places
    refine ⟨_, pss_cons (ps_set (i := 3) nd rfl (Or.inl rfl) (pe_call GC hr rfl C.g C.kp C.b .nil (passes_call (takes_of rfl rfl rfl rfl) (fun _ _ _ _ h => h)) (pa_cons (pv 0) pa_nil)))
      (pss_cons (ps_if (pt_cmpR op_eq (pv 3) (pe_glob (v := .int 40) rfl ht40 ⟨_, rfl⟩) (nomark _)) (pss_one (ps_raiseX rfl (Or.inr (Or.inr rfl)) T7 O7 noS hr (takes_of rfl rfl rfl rfl) (pa_cons (pe_op op_add (pv 3) pe_int) pa_nil) (by rfl))) pss_nil)
      (pss_cons (ps_if (PW.pt (pw_or (pt_not (pt_val (pe_call GB hr2 rfl B.g B.kp B.b .nil pass0 (pa_cons (pv 1) (pa_cons (pe_callB call_len_seq (by rfl) T.len PySem.boot_len (pa_cons (pv 0) pa_nil)) pa_nil)))))
          (pw_or1 (pt_not (pt_val (pe_call GB hr2 rfl B.g B.kp B.b .nil pass0 (pa_cons (pv 2) (pa_cons (pe_callB call_len_seq (by rfl) T.len PySem.boot_len (pa_cons (pv 0) pa_nil)) pa_nil)))))))) (pss_one (ps_raiseX rfl (Or.inl rfl) T5 O5 noS hr (takes_of rfl rfl rfl rfl) (pa_cons (pe_tup pa_nil) pa_nil) (by rfl))) pss_nil)
      (pss_cons (ps_setLc (i := 4) (own := [("number", 11), ("pair", 12)]) (g := gTup K 2 (gCons (gName 11) (gCons (gName 12) gNil))) (tt := tAnd (tTest (tOp rNe (tVar 11) (tVar 1))) (tTest (tOp rNe (tVar 11) (tVar 2)))) (te := tVar 12) rfl nd rfl rfl (sw_true rfl rfl rfl (by decide +kernel)) (pi_enumT (by rfl) T.enumerate (pa_cons (pv 0) pa_nil))
          (blkOk_by (N := nPut) (sc := defScope sPut) (by decide +kernel)) (fun _ _ _ _ _ => pg_tup rfl (pgs_cons (pg_name (i := 11) nd rfl (Or.inl rfl)) (pgs_cons (pg_name (i := 12) nd rfl (Or.inl rfl)) pgs_nil)))
          (fun _ _ _ _ _ => pts_one (PW.pt (pw_and (pt_cmpR op_ne (pv 11) (pv 1) (nomark _)) (pw_and1 (pt_cmpR op_ne (pv 11) (pv 2) (nomark _)))))) (fun _ _ _ _ _ => pv 12))
      (pss_cons (ps_set (i := 5) nd rfl (Or.inl rfl) (pe_op op_mul (pe_glob (v := .int 4) rfl ht4 ⟨_, rfl⟩) (pv 3)))
      (pss_cons (ps_asg (pe_ix ix_tup (pv 0) (pv 1) (fun _ _ => rfl)) (pg_tup rfl (pgs_cons (pg_name (i := 6) nd rfl (Or.inl rfl)) (pgs_cons (pg_name (i := 7) nd rfl (Or.inl rfl)) pgs_nil))))
      (C8.pss_cut (ps_if (pt_cmpR op_eq (pv 1) (pv 2) (nomark _))
          (pss_one (ps_set (i := 8) nd rfl (Or.inl rfl) (pe_lst (pa_cons (pe_tup (pa_cons (pv 6) (pa_cons (pv 5) pa_nil))) (pa_cons (pe_tup (pa_cons (pe_op op_add (pv 5) pe_int) (pa_cons (pe_op op_add (pv 5) pe_int) pa_nil))) (pa_cons (pe_tup (pa_cons (pv 7) (pa_cons (pe_op op_add (pv 5) pe_int) pa_nil))) pa_nil))))))
          (pss_cons (ps_asg (pe_ix ix_tup (pv 0) (pv 2) (fun _ _ => rfl)) (pg_tup rfl (pgs_cons (pg_name (i := 9) nd rfl (Or.inl rfl)) (pgs_cons (pg_name (i := 10) nd rfl (Or.inl rfl)) pgs_nil))))
            (pss_one (ps_set (i := 8) nd rfl (Or.inl rfl) (pe_lst (pa_cons (pe_tup (pa_cons (pv 6) (pa_cons (pv 5) pa_nil))) (pa_cons (pe_tup (pa_cons (pv 7) (pa_cons (pe_op op_add (pv 5) pe_int) pa_nil))) (pa_cons (pe_tup (pa_cons (pv 9) (pa_cons (pe_op op_add (pv 5) pe_int) pa_nil))) (pa_cons (pe_tup (pa_cons (pv 10) (pa_cons (pe_op op_add (pv 5) pe_int) pa_nil))) pa_nil)))))))))
      (pss_one (ps_ret (pe_tupleOf (by rfl) T.tuple (pe_callB cr_sortedPO (by rfl) T.sorted boot_sorted (pa_cons (pe_op op_catS (pv 4) (pv 8)) pa_nil))))))))))), ?_⟩
    refine ⟨_, rfl, ?_⟩
    unfold tNil
    rcases h with ⟨xs, ht, hc, hR⟩ | ⟨n, ps, hY, hn, k40, kbad, kgood⟩
    · exact ⟨_, rfl, fault_len ht hc fun H' p s' hp => .inr ⟨p, [], rfl, hp, by simp, by simp, fun d hd => hR _ p d (s'.trans (Same.new hd)) ((Same.new hd) _ _ hp) upd_same⟩⟩
    · obtain ⟨Y, as, ht, hP⟩ := id hY
      have hl : (refs as).length = 2 * n := by rw [List.length_map, hP.len, Y.lines.len]
      refine ⟨_, rfl, fault_good hY hn fun H1 s1 => .inl ⟨rfl, t, refs as, rfl, s1 _ _ ht, ?_⟩⟩
      rw [show (refs as).length / 2 = n by omega]
      have ht1 := s1 _ _ ht
      have hP1 := hP.mono (sameT s1)
      refine ⟨_, rfl, rfl, _, rfl, ?_⟩
      by_cases h40 : n = 40
      · subst h40
        refine iteT ⟨_, rfl, _, _, rfl, rfl, _, rfl, .int 41 (by decide), fun d hd => k40 rfl _ d (s1.trans (Same.new hd)) upd_same⟩
      · have hn40 : n < 40 := by omega
        have e1 : decide (V.int (n : Nat) = V.int 40) = false := decide_eq_false (fun z => h40 (by
          have z := V.int.inj z
          omega))
        show if decide (V.int (n : Nat) = V.int 40) = true then _ else _
        rw [e1]
        have bad : ∀ H2, Same H H2 → (belowV v1 (2 * n : Nat) && belowV v2 (2 * n : Nat)) = false → ∀ p d, H2 p = some (.tup []) → H2 d = some (.xd [("place", .ref p)]) → E (.ref C5) (some d) H2 := fun H2 s2 hb p d => kbad hn40 hb H2 p d s2
        refine iteF ?_
        have el : (((refs as).length : Nat) : Int) = ((2 * n : Nat) : Int) := by rw [hl]
        refine ⟨_, rfl, _, rfl, t, _, rfl, .inr (SqT.of ht1), v1, ((2 * n : Nat) : Int), T1, (by rw [el]; rfl), hv1.mono s1, _, rfl, ?_⟩
        cases hb1 : belowV v1 ((2 * n : Nat) : Int) with
        | false =>
          refine iteT ⟨Nat.zero_le _, fun p hp => ⟨_, rfl, .tup [] (SqT.of upd_same) (by simp) (by simp), fun d hd => bad _ (s1.trans ((Same.new hp).trans (Same.new hd))) (by rw [hb1]; rfl) p d ((Same.new hd) _ _ upd_same) upd_same⟩⟩
        | true =>
          refine iteF ⟨_, rfl, _, rfl, t, _, rfl, .inr (SqT.of ht1), v2, ((2 * n : Nat) : Int), T2, (by rw [el]; rfl), hv2.mono s1, _, rfl, ?_⟩
          cases hb2 : belowV v2 ((2 * n : Nat) : Int) with
          | false => exact iteT ⟨Nat.zero_le _, fun p hp => ⟨_, rfl, .tup [] (SqT.of upd_same) (by simp) (by simp), fun d hd => bad _ (s1.trans ((Same.new hp).trans (Same.new hd))) (by rw [hb1, hb2]; rfl) p d ((Same.new hd) _ _ upd_same) upd_same⟩⟩
          | true =>
            refine iteF ?_
            obtain ⟨i, rfl, hi⟩ := below_nat hb1
            obtain ⟨j, rfl, hj⟩ := below_nat hb2
            obtain ⟨a, ha⟩ : ∃ a, ps[i]? = some a := ⟨_, List.getElem?_eq_getElem (by rw [Y.lines.len]; exact hi)⟩
            obtain ⟨b, hb⟩ : ∃ b, ps[j]? = some b := ⟨_, List.getElem?_eq_getElem (by rw [Y.lines.len]; exact hj)⟩
            have hq := kgood hn40 i j a b rfl rfl ha hb
            have hal : as.length = 2 * n := by rw [← hl, List.length_map]
            refine ⟨_, rfl, t, _, rfl, SqT.of ht1, fun D hD => ?_⟩
            have sD := Same.new (o := .lst []) hD
            refine lc_it (walk_enumT (K := K) (a := t) (xs := refs as)) (fun k H6 => H6 D = some (.lst (refs (keepIx (notIJ i j) 0 (as.take k)))) ∧ Same H1 H6) ⟨upd_same, sD⟩ (fun k H6 _ h => SqT.of (h.2 _ _ ht1)) ?_ ?_
            · rintro k x H6 H7 hk ⟨hD6, s6⟩ ⟨T, x', y', rfl, hT, rfl, ex, ey⟩
              cases ex
              have hk' : k < as.length := by rw [List.length_map] at hk; exact hk
              have ey : (refs as)[k]? = some y' := ey
              rw [List.getElem?_map, List.getElem?_eq_getElem hk'] at ey
              cases ey
              have s7 := Same.new (o := .tup [V.int (k : Nat), V.ref as[k]]) hT
              refine ⟨T, _, rfl, SqT.of upd_same, rfl, _, _, rfl, _, _, rfl, rfl, rfl, ?_⟩
              refine ⟨_, rfl, _, rfl, rfl, _, rfl, ?_⟩
              have hsn : keepIx (notIJ i j) 0 (as.take (k + 1)) = keepIx (notIJ i j) 0 (as.take k) ++ (if notIJ i j k then [as[k]] else []) := by
                rw [List.take_succ, List.getElem?_eq_getElem hk', Option.toList_some, keepIx_snoc, List.length_take, Nat.zero_add, Nat.min_eq_left (Nat.le_of_lt hk')]
              have hD7 := s7 _ _ hD6
              have s17 := s6.trans s7
              have dN : ∀ x y : Nat, (!decide (V.int (x : Nat) = V.int (y : Nat))) = !decide (x = y) := fun x y => by
                congr 1
                refine decide_eq_decide.mpr ⟨fun z => ?_, fun z => by rw [z]⟩
                have z := V.int.inj z
                omega
              have skip : notIJ i j k = false → (upd H6 T (.tup [V.int (k : Nat), V.ref as[k]])) D = some (.lst (refs (keepIx (notIJ i j) 0 (as.take (k + 1))))) ∧ Same H1 (upd H6 T (.tup [V.int (k : Nat), V.ref as[k]])) := fun z => by
                rw [hsn, z]
                simp only [Bool.false_eq_true, if_false, List.append_nil]
                exact ⟨hD7, s17⟩
              show if (!decide (V.int (k : Nat) = V.int (i : Nat))) = true then _ else _
              rw [dN]
              refine ite2 (fun h1 => ⟨_, rfl, _, rfl, rfl, _, rfl, ?_⟩) (fun h1 => iteF (skip ?_))
              · show if (!decide (V.int (k : Nat) = V.int (j : Nat))) = true then _ else _
                rw [dN]
                refine ite2 (fun h2 => ⟨_, rfl, _, hD7, small1000 ?_, ?_, fun b o e => ?_⟩) (fun h2 => skip ?_)
                · rw [List.length_map]
                  exact Nat.le_trans (keepIx_length_le _ _ _) (by rw [List.length_take]; omega)
                · have hn : notIJ i j k = true := by
                    unfold notIJ
                    rw [h1, h2]
                    rfl
                  rw [upd_same, hsn, if_pos hn, refs_app]
                  rfl
                · rw [upd_ne (ne_of_none e hD)]
                  exact s17 _ _ e
                · unfold notIJ
                  rw [Bool.eq_false_iff.mpr h2, Bool.and_false]
              · unfold notIJ
                rw [Bool.eq_false_iff.mpr h1, Bool.false_and]
            · rintro H6 ⟨hD6, s6⟩
              have e6 : as.take (refs as).length = as := by rw [List.length_map, List.take_length]
              rw [e6] at hD6
              have ht6 := s6 _ _ ht1
              have hP6 := hP1.mono (sameT s6)
              obtain ⟨a1, ha1, pa1⟩ := hP6.get ha
              obtain ⟨b1, hb1', pb1⟩ := hP6.get hb
              have e4 : (4 : Int) * (n : Nat) = ((4 * n : Nat) : Int) := by omega
              refine ⟨_, rfl, _, _, rfl, rfl, .inl ⟨by decide, by decide⟩, ?_⟩
              refine ⟨_, rfl, _, rfl, t, _, _, _, rfl, rfl, SqT.of ht6, ref_at ha1, a1, _, rfl, SqT.of pa1, rfl, _, _, rfl, _, _, rfl, rfl, ?_⟩
              refine ⟨fun σ H9 => ∃ (l : Addr) (fa : List Addr) (w9 w10 : Option V), σ = [some (.ref t), some (.int (i : Nat)), some (.int (j : Nat)), some (.int (n : Nat)), some (.ref D), some (.int (4 * (n : Nat))), some (.int (a.1 : Nat)), some (.int (a.2 : Nat)), some (.ref l), w9, w10, none, none] ∧ Same H6 H9 ∧ H9 l = some (.lst (refs fa)) ∧ PL H9 fa (fresh n i j a b), ?_, ?_⟩
              · refine ⟨_, rfl, _, rfl, rfl, _, rfl, ?_⟩
                by_cases hij : i = j
                · have e1 : decide (V.int (i : Nat) = V.int (j : Nat)) = true := decide_eq_true (by rw [hij])
                  show if decide (V.int (i : Nat) = V.int (j : Nat)) = true then _ else _
                  rw [e1]
                  refine iteT ⟨_, rfl, _, rfl, two_le, fun t1 ht1 => ⟨_, rfl, _, _, rfl, rfl, _, rfl, _, _, rfl, rfl, two_le, fun t2 ht2 => ⟨_, rfl, _, rfl, _, _, rfl, rfl, two_le, fun t3 ht3 => ⟨(by show 3 ≤ sizeLine; decide), fun l9 hl9 => ?_⟩⟩⟩⟩
                  have u1 := Same.new (o := .tup [V.int (a.1 : Nat), V.int (4 * (n : Nat))]) ht1
                  have u2 := Same.new (o := .tup [V.int (4 * (n : Nat) + 1), V.int (4 * (n : Nat) + 2)]) ht2
                  have u3 := Same.new (o := .tup [V.int (a.2 : Nat), V.int (4 * (n : Nat) + 3)]) ht3
                  have u9 := Same.new (o := .lst [V.ref t1, V.ref t2, V.ref t3]) hl9
                  refine ⟨l9, [t1, t2, t3], _, _, rfl, u1.trans (u2.trans (u3.trans u9)), upd_same, ?_⟩
                  unfold fresh
                  rw [if_pos hij]
                  exact .cons (PAt.of (u9 _ _ (u3 _ _ (u2 _ _ upd_same))) rfl (by omega)) (.cons (PAt.of (u9 _ _ (u3 _ _ upd_same)) (by omega) (by omega)) (.cons (PAt.of (u9 _ _ upd_same) rfl (by omega)) .nil))
                · have e1 : decide (V.int (i : Nat) = V.int (j : Nat)) = false := decide_eq_false (fun z => hij (by
                    have z := V.int.inj z
                    omega))
                  show if decide (V.int (i : Nat) = V.int (j : Nat)) = true then _ else _
                  rw [e1]
                  refine iteF ⟨_, rfl, _, rfl, t, _, _, _, rfl, rfl, SqT.of ht6, ref_at hb1', b1, _, rfl, SqT.of pb1, rfl, _, _, rfl, _, _, rfl, rfl, ?_⟩
                  refine ⟨_, rfl, _, rfl, two_le, fun t4 ht4 => ⟨_, rfl, _, rfl, _, _, rfl, rfl, two_le, fun t5 ht5 => ⟨_, rfl, _, rfl, _, _, rfl, rfl, two_le, fun t6 ht6 => ⟨_, rfl, _, rfl, _, _, rfl, rfl, two_le, fun t7 ht7 => ⟨(by show 4 ≤ sizeLine; decide), fun l8 hl8 => ?_⟩⟩⟩⟩⟩
                  have w4 := Same.new (o := .tup [V.int (a.1 : Nat), V.int (4 * (n : Nat))]) ht4
                  have w5 := Same.new (o := .tup [V.int (a.2 : Nat), V.int (4 * (n : Nat) + 2)]) ht5
                  have w6 := Same.new (o := .tup [V.int (b.1 : Nat), V.int (4 * (n : Nat) + 1)]) ht6
                  have w7 := Same.new (o := .tup [V.int (b.2 : Nat), V.int (4 * (n : Nat) + 3)]) ht7
                  have w8 := Same.new (o := .lst [V.ref t4, V.ref t5, V.ref t6, V.ref t7]) hl8
                  refine ⟨l8, [t4, t5, t6, t7], _, _, rfl, w4.trans (w5.trans (w6.trans (w7.trans w8))), upd_same, ?_⟩
                  unfold fresh
                  rw [if_neg hij]
                  exact .cons (PAt.of (w8 _ _ (w7 _ _ (w6 _ _ (w5 _ _ upd_same)))) rfl (by omega)) (.cons (PAt.of (w8 _ _ (w7 _ _ (w6 _ _ upd_same))) rfl (by omega)) (.cons (PAt.of (w8 _ _ (w7 _ _ upd_same)) rfl (by omega)) (.cons (PAt.of (w8 _ _ upd_same) rfl (by omega)) .nil)))
              · rintro σ H9 ⟨l, fa, w9, w10, rfl, s9, hl9, hF9⟩
                have hD9 := s9 _ _ hD6
                have hK9 := (hP6.mono (sameT s9)).keep (notIJ i j) 0
                have lk := keepIx_length_le (notIJ i j) 0 as
                have lf : fa.length ≤ 4 := by
                  rw [hF9.len]
                  unfold fresh
                  split <;> simp
                refine ⟨_, rfl, _, rfl, D, l, _, _, rfl, rfl, SqL.of hD9, hl9, ?_, fun q hq0 => ?_⟩
                · rw [List.length_map, List.length_map]
                  exact Nat.le_of_lt (small1000 (by omega))
                have sq := Same.new (o := .lst (refs (keepIx (notIJ i j) 0 as) ++ refs fa)) hq0
                rw [← refs_app] at sq ⊢
                show rSortedPO K [V.ref q] _ (fun x H1 => kTup K x H1 Q)
                refine rd_sorted (SqL.of upd_same) ((hK9.app hF9).mono (sameT sq)) fun cs qs l2 hC hperm hle hl2 => ?_
                have s10 := Same.new (o := .lst (refs cs)) hl2
                refine .inl ⟨l2, _, rfl, SqL.of upd_same, fun u hu => ?_⟩
                have s11 := Same.new (o := .tup (refs cs)) hu
                exact hq _ u cs qs (s1.trans (s6.trans (s9.trans (sq.trans (s10.trans s11))))) upd_same (hC.mono (sameT (s10.trans s11))) hperm hle
end
end One
end P_F5

section P_F6
set_option linter.all false
set_option maxRecDepth 100000
set_option maxHeartbeats 8000000
namespace One
open PySem PySem.Spec PyProof.Rows L2
abbrev sSewn : Stmt := top 30
abbrev nSewn : List Str := ["yard", "crossing", "way", "many", "fars", "left"]
theorem scSewn : FnScope nSewn ["yard", "crossing", "way"] (defScope sSewn) := ⟨rfl, rfl, rfl, by decide +kernel, rfl, by decide +kernel, by decide +kernel⟩
def RWay (C : Addr) (w : Nat) (E : XK) (H : Hp) : Prop := ∀ (H' : Hp) (d : Addr), Same H H' → H' d = some (.xd [("way", .int (w : Nat))]) → E (.ref C) (some d) H'
def spSewn (C5 C6 : Addr) : Sp := fun vs H Q E => ∃ (t : Addr) (v1 v2 : V) (T1 T2 : String) (m : Nat) (ps : List (Nat × Nat)), vs = [.ref t, v1, v2] ∧ TV H v1 T1 ∧ TV H v2 T2 ∧ YAt H t m ps ∧ m ≤ 40 ∧
  ((m = 1 ∨ belowV v1 (m : Nat) = false ∨ belowV v2 (3 : Nat) = false) → RPlace C5 E H) ∧
  (m ≠ 1 → ∀ c w : Nat, v1 = .int (c : Nat) → v2 = .int (w : Nat) → c < m → w < 3 →
    (closesB (far ps) c w = true → RWay C6 w E H) ∧
    (closesB (far ps) c w = false → ∃ B : Nat → Nat, (∀ e, e < 4 * m → e / 4 ≠ c → ∃ k, backK (far ps) c w k (far ps e) = some (B e)) ∧ Asked (m - 1) (leftOf B c (4 * m)) ∧
      (Whole (m - 1) (leftOf B c (4 * m)) → ∀ (H' : Hp) (t' : Addr) (as : List Addr), Same H H' → H' t' = some (.tup (refs as)) → PL H' as (leftOf B c (4 * m)) → Q (.ref t') H') ∧
      (¬ Whole (m - 1) (leftOf B c (4 * m)) → RWay C6 w E H)))
section
variable {P : Program} {w : World} {K : PySem.W.Frag} {mg : Str → Option Value} {base : Heap} {C0 C5 C6 f5 f6 : Addr} {x5 x6 : Stmt}
theorem ok_sewn {f fC fB fF fL fX fW : Addr} {fd fdC fdB fdF fdL fdX fdW : FuncData} (F : Fun K "sewn_out" "sewn_out" sSewn f fd) (ways : ∃ t, mg "MANY_WAYS" = some (.int 3 t)) (T5 : OwnTxt P K x5 "place" C5 f5) (O5 : OwnCls K mg "OutOfPlace" C5 f5) (T6 : OwnTxt P K x6 "way" C6 f6) (O6 : OwnCls K mg "Barred" C6 f6) (noS : mg "super" = none)
    (C : Cal K mg "crossings" fC fdC ["yard"]) (GC : FnOk P w K mg base (L2.CX P w) 6 fC fdC ["yard"] (spCross C0)) (B : Cal K mg "is_below" fB fdB ["thing", "many"]) (GB : FnOk P w K mg base CX0 2 fB fdB ["thing", "many"] spIsBelow)
    (A : Cal K mg "fars_of_lines" fF fdF ["lines"]) (GA : FnOk P w K mg base CX0 1 fF fdF ["lines"] spFars) (D : Cal K mg "closes" fX fdX ["fars", "crossing", "way"]) (GD : FnOk P w K mg base CX0 2 fX fdX ["fars", "crossing", "way"] spCloses)
    (L : Cal K mg "lines_left" fL fdL ["fars", "crossing", "way"]) (GL : FnOk P w K mg base CX0 3 fL fdL ["fars", "crossing", "way"] spLeft) (W : Cal K mg "is_whole" fW fdW ["lines"]) (GW : FnOk P w K mg base CX0 2 fW fdW ["lines"] spIsWhole) :
    FnOk P w K mg base (L2.CX P w) 7 f fd ["yard", "crossing", "way"] (spSewn C5 C6) := by
  refine F.okX scSewn (fun vs H Q E h => ?_) (fun cdv A' outer s H vs Q E hr h => ?_)
  · obtain ⟨t, v1, v2, T1, T2, m, ps, rfl, _⟩ := h
    rfl
  · obtain ⟨t, v1, v2, T1, T2, m, ps, rfl, hv1, hv2, hY, hm, kbad, kgood⟩ := h
    have nd := scSewn.nd
    have hr1 : Room 1 _ := hr.mono (by decide)
    have hr2 : Room 2 _ := hr.mono (by decide)
    have hr3 : Room 3 _ := hr.mono (by decide)
    obtain ⟨u3, ht3⟩ := ways
    refine ⟨_, pss_cons (ps_set (i := 3) nd rfl (Or.inl rfl) (pe_call GC hr rfl C.g C.kp C.b .nil (passes_call (takes_of rfl rfl rfl rfl) (fun _ _ _ _ h => h)) (pa_cons (pv 0) pa_nil)))
      (pss_cons (ps_if (PW.pt (pw_or (pt_cmpR op_eq (pv 3) pe_int (nomark _)) (pw_or (pt_not (pt_val (pe_call GB hr2 rfl B.g B.kp B.b .nil pass0 (pa_cons (pv 1) (pa_cons (pv 3) pa_nil)))))
          (pw_or1 (pt_not (pt_val (pe_call GB hr2 rfl B.g B.kp B.b .nil pass0 (pa_cons (pv 2) (pa_cons (pe_glob (v := .int 3) rfl ht3 ⟨_, rfl⟩) pa_nil)))))))))
          (pss_one (ps_raiseX rfl (Or.inl rfl) T5 O5 noS hr (takes_of rfl rfl rfl rfl) (pa_cons (pe_tup pa_nil) pa_nil) (by rfl))) pss_nil)
      (pss_cons (ps_set (i := 4) nd rfl (Or.inl rfl) (pe_call GA hr1 rfl A.g A.kp A.b .nil pass0 (pa_cons (pv 0) pa_nil)))
      (pss_cons (ps_if (pt_val (pe_call GD hr2 rfl D.g D.kp D.b .nil pass0 (pa_cons (pv 4) (pa_cons (pv 1) (pa_cons (pv 2) pa_nil))))) (pss_one (ps_raiseX rfl (Or.inr (Or.inl rfl)) T6 O6 noS hr (takes_of rfl rfl rfl rfl) (pa_cons (pv 2) pa_nil) (by rfl))) pss_nil)
      (pss_cons (ps_set (i := 5) nd rfl (Or.inl rfl) (pe_call GL hr3 rfl L.g L.kp L.b .nil pass0 (pa_cons (pv 4) (pa_cons (pv 1) (pa_cons (pv 2) pa_nil)))))
      (pss_cons (ps_if (pt_not (pt_val (pe_call GW hr2 rfl W.g W.kp W.b .nil pass0 (pa_cons (pv 5) pa_nil)))) (pss_one (ps_raiseX rfl (Or.inr (Or.inl rfl)) T6 O6 noS hr (takes_of rfl rfl rfl rfl) (pa_cons (pv 2) pa_nil) (by rfl))) pss_nil)
      (pss_one (ps_ret (pv 5)))))))), ?_⟩
    refine ⟨_, rfl, ?_⟩
    unfold tNil
    obtain ⟨Y, as, ht, hP⟩ := id hY
    have hl : (refs as).length = 2 * m := by rw [List.length_map, hP.len, Y.lines.len]
    refine ⟨_, rfl, fault_good hY hm fun H1 s1 => .inl ⟨rfl, t, refs as, rfl, s1 _ _ ht, ?_⟩⟩
    rw [show (refs as).length / 2 = m by omega]
    have ht1 := s1 _ _ ht
    have hP1 := hP.mono (sameT s1)
    have bad : (m = 1 ∨ belowV v1 (m : Nat) = false ∨ belowV v2 (3 : Nat) = false) → ∀ H2, Same H H2 → ∀ p d, H2 p = some (.tup []) → H2 d = some (.xd [("place", .ref p)]) → E (.ref C5) (some d) H2 := fun z H2 s2 p d => kbad z H2 p d s2
    refine ⟨_, rfl, rfl, _, rfl, ?_⟩
    by_cases h1 : m = 1
    · have e1 : decide (V.int (m : Nat) = V.int 1) = true := decide_eq_true (by rw [h1]; rfl)
      show if decide (V.int (m : Nat) = V.int 1) = true then _ else _
      rw [e1]
      refine iteT ⟨Nat.zero_le _, fun p hp => ⟨_, rfl, .tup [] (SqT.of upd_same) (by simp) (by simp), fun d hd => bad (.inl h1) _ (s1.trans ((Same.new hp).trans (Same.new hd))) p d ((Same.new hd) _ _ upd_same) upd_same⟩⟩
    · have e1 : decide (V.int (m : Nat) = V.int 1) = false := decide_eq_false (fun z => h1 (by
        have z := V.int.inj z
        omega))
      show if decide (V.int (m : Nat) = V.int 1) = true then _ else _
      rw [e1]
      refine iteF ⟨_, rfl, _, rfl, v1, ((m : Nat) : Int), T1, rfl, hv1.mono s1, _, rfl, ?_⟩
      cases hb1 : belowV v1 ((m : Nat) : Int) with
      | false => exact iteT ⟨Nat.zero_le _, fun p hp => ⟨_, rfl, .tup [] (SqT.of upd_same) (by simp) (by simp), fun d hd => bad (.inr (.inl hb1)) _ (s1.trans ((Same.new hp).trans (Same.new hd))) p d ((Same.new hd) _ _ upd_same) upd_same⟩⟩
      | true =>
        refine iteF ⟨_, rfl, v2, ((3 : Nat) : Int), T2, rfl, hv2.mono s1, _, rfl, ?_⟩
        cases hb2 : belowV v2 ((3 : Nat) : Int) with
        | false => exact iteT ⟨Nat.zero_le _, fun p hp => ⟨_, rfl, .tup [] (SqT.of upd_same) (by simp) (by simp), fun d hd => bad (.inr (.inr hb2)) _ (s1.trans ((Same.new hp).trans (Same.new hd))) p d ((Same.new hd) _ _ upd_same) upd_same⟩⟩
        | true =>
          refine iteF ?_
          obtain ⟨c, rfl, hc⟩ := below_nat hb1
          obtain ⟨w', rfl, hw⟩ := below_nat hb2
          obtain ⟨kc, kn⟩ := kgood h1 c w' rfl rfl hc hw
          refine ⟨_, rfl, t, m, as, ps, rfl, ht1, hP1, Y.lines, by omega, fun H2 G s2 hG0 hG => ?_⟩
          have s12 := s1.trans s2
          refine ⟨_, rfl, _, rfl, _, rfl, G, m, far ps, c, w', rfl, hG, hc, by omega, _, rfl, ?_⟩
          cases hcl : closesB (far ps) c w' with
          | true =>
            exact iteT ⟨_, rfl, _, rfl, .int w' (by omega), fun d hd => kc hcl _ d (s12.trans (Same.new hd)) upd_same⟩
          | false =>
            obtain ⟨Bk, hB, hA, kw, kno⟩ := kn hcl
            refine iteF ⟨_, rfl, _, rfl, _, rfl, G, m, far ps, Bk, c, w', rfl, hG, hc, by omega, hw, hB, fun H3 t3 as3 s3 ht3' hP3 => ?_⟩
            have s123 := s12.trans s3
            refine ⟨_, rfl, t3, m - 1, as3, _, rfl, ht3', hP3, hA, by omega, fun H4 b s4 hb => ⟨b, rfl, ?_⟩⟩
            cases b with
            | true => exact iteF ⟨_, rfl, kw (hb.mp rfl) _ t3 as3 (s123.trans s4) (s4 _ _ ht3') (hP3.mono (sameT s4))⟩
            | false => exact iteT ⟨_, rfl, _, rfl, .int w' (by omega), fun d hd => kno (fun z => nomatch hb.mpr z) _ d (s123.trans (s4.trans (Same.new hd))) upd_same⟩
end
end One
end P_F6

section P_H9
set_option linter.all false
set_option maxRecDepth 100000
set_option maxHeartbeats 8000000
namespace One
open PySem PySem.Spec PyProof.Rows L2
/-! ### what the law's reading wants -/
theorem left_put {n : Nat} {ps : List (Nat × Nat)} (y : Yard n ps) : leftOf (far ps) n (4 * (n + 1)) = ps := by
  have drop : ∀ r, r < 4 → leftOf (far ps) n (4 * n + r + 1) = leftOf (far ps) n (4 * n + r) := fun r hr => by
    rw [leftOf_snoc, if_neg (fun z => z.1 (by omega)), List.append_nil]
  have e : leftOf (far ps) n (4 * (n + 1)) = leftOf (far ps) n (4 * n) := by
    rw [show 4 * (n + 1) = 4 * n + 3 + 1 by omega, drop 3 (by omega), drop 2 (by omega), drop 1 (by omega)]
    exact drop 0 (by omega)
  rw [e, ← yard_linesOf y]
  have key : ∀ m, m ≤ 4 * n → leftOf (far (linesOf (far ps) (4 * n))) n m = linesOf (far ps) m := by
    rw [yard_linesOf y]
    intro m
    induction m with
    | zero => exact fun _ => rfl
    | succ m ih =>
      intro hm
      rw [leftOf_snoc, linesOf_snoc, ih (by omega)]
      have hf := far_lt y.lines (e := m) (by omega)
      have u1 : upOf n m = m := if_neg (by omega)
      have u2 : upOf n (far ps m) = far ps m := if_neg (by omega)
      have hd : m / 4 ≠ n := by omega
      by_cases h : m < far ps m
      · rw [if_pos ⟨hd, h⟩, if_pos h, u1, u2]
      · rw [if_neg (fun z => h z.2), if_neg h]
  exact key _ (Nat.le_refl _)
theorem Yard.asked {n : Nat} {ps : List (Nat × Nat)} (y : Yard n ps) : Asked n ps := ⟨y.pos, y.lines.len, fun p m => by
  have := y.lt p m
  omega⟩
theorem MS.keepN {H H' : Hp} {p c : Addr} {n : Nat} (M : MS H p c n) (k : LamX.ExtN H H') : MS H' p c n := by
  obtain ⟨cells, a, l, x, h1, h2, h3⟩ := M.ex
  exact ⟨⟨cells, a, l, x, k _ _ h1 (fun ps z => by cases z), k _ _ h2 (fun ps z => by cases z), h3⟩, M.nn⟩
theorem TV.monoN {H H' : Hp} {v : V} {T : String} (h : TV H v T) (k : LamX.ExtN H H') : TV H' v T := by
  cases h with
  | non => exact .non
  | bl b => exact .bl b
  | int i => exact .int i
  | str x => exact .str x
  | tup e => exact .tup (k _ _ e (fun ps z => by cases z))
  | lst e => exact .lst (k _ _ e (fun ps z => by cases z))
  | dct e => exact .dct (k _ _ e (fun ps z => by cases z))
theorem tupN {H H' : Hp} (k : LamX.ExtN H H') : ∀ b xs, H b = some (.tup xs) → H' b = some (.tup xs) := fun b xs e => k _ _ e (fun ps z => by cases z)
theorem lstN {H H' : Hp} (k : LamX.ExtN H H') {b : Addr} {xs : List V} (e : H b = some (.lst xs)) : H' b = some (.lst xs) := k _ _ e (fun ps z => by cases z)
theorem tabs_ext {T : List (Addr × Str)} {H H' : Hp} {p c : Addr} {n : Nat} (t : LamX.Tabs T H) (M : MS H p c n) (e : Ext p H H') : LamX.Tabs T H' := fun q hq => by
  obtain ⟨cells, a, l, x, hp, _⟩ := M.ex
  obtain ⟨ps, h1, h2, h3⟩ := t q hq
  refine ⟨ps, e _ _ (fun z => by rw [z, hp] at h1; cases h1) h1, h2, fun pos cv hcv => ?_⟩
  obtain ⟨c', rfl, hc⟩ := h3 pos cv hcv
  refine ⟨c', rfl, e _ _ (fun z => by rw [z, hp] at hc; cases hc) hc⟩
theorem shown_nil : (PyData.tuple []).shown = ("()" : Str) := by decide +kernel
section
variable {K : PySem.W.Frag} {CL : Nat → Addr} {RE : Addr} {H : Hp} {Q Q0 : VK} {y : Addr} {v1 v2 : V} {T1 T2 : String}
theorem rep_nil {p : Addr} (hp : H p = some (.tup [])) : RepV K H (.ref p) "()" := by
  rw [← shown_nil]
  exact .data (.tup (SqT.of hp) .nil) rfl rfl (by decide) (by rw [shown_nil]; decide)
theorem told_place {i : Nat} {txt : Str} (R : ErrC K CL RE i) (hf : fldOf i = "place") (ht : toldOf i "()" = txt) (hQ : ∀ H', Same H H' → Q (.str txt) H') : RPlace (CL i) (XTold K CL RE Q) H := fun H' p d s hp hd =>
  ⟨i, d, .ref p, "()", R, rfl, rfl, by rw [hf]; exact hd, fun H'' s' => rep_nil (s' _ _ hp), by decide, fun H'' s' => by rw [ht]; exact hQ H'' (s.trans s')⟩
theorem put_odd {n : Nat} {ps : List (Nat × Nat)} (R : ErrC K CL RE 5) (hY : YAt H y n ps) (hn : n < 40) (h1 : TV H v1 T1) (h2 : TV H v2 T2) (hb : (belowV v1 (2 * n : Nat) && belowV v2 (2 * n : Nat)) = false) (hQ : ∀ H', Same H H' → Q (.str "place ()") H') :
    spPut (CL 0) (CL 5) (CL 7) [.ref y, v1, v2] H Q0 (XTold K CL RE Q) := by
  refine ⟨y, v1, v2, T1, T2, rfl, h1, h2, .inr ⟨n, ps, hY, by omega, fun z => absurd z (by omega), fun _ _ => told_place R rfl (by decide +kernel) hQ, fun _ i j a b e1 e2 ha hb' => ?_⟩⟩
  exfalso
  subst e1 e2
  obtain ⟨Y, _⟩ := hY
  have l1 := (List.getElem?_eq_some_iff.mp ha).1
  have l2 := (List.getElem?_eq_some_iff.mp hb').1
  rw [Y.lines.len] at l1 l2
  have c1 : belowV (.int (i : Nat)) (2 * n : Nat) = true := by
    show (decide (0 ≤ ((i : Nat) : Int)) && decide (((i : Nat) : Int) < ((2 * n : Nat) : Int))) = true
    simp only [Bool.and_eq_true, decide_eq_true_eq]
    omega
  have c2 : belowV (.int (j : Nat)) (2 * n : Nat) = true := by
    show (decide (0 ≤ ((j : Nat) : Int)) && decide (((j : Nat) : Int) < ((2 * n : Nat) : Int))) = true
    simp only [Bool.and_eq_true, decide_eq_true_eq]
    omega
  rw [c1, c2] at hb
  cases hb
theorem put_short {xs : List V} (R : ErrC K CL RE 0) (ht : H y = some (.tup xs)) (hc : canBe (xs.length : Nat) = false) (h1 : TV H v1 T1) (h2 : TV H v2 T2) (hQ : ∀ H', Same H H' → Q (.str "yard ()") H') : spPut (CL 0) (CL 5) (CL 7) [.ref y, v1, v2] H Q0 (XTold K CL RE Q) :=
  ⟨y, v1, v2, T1, T2, rfl, h1, h2, .inl ⟨xs, ht, hc, told_place R rfl (by decide +kernel) hQ⟩⟩
theorem put_many {ps : List (Nat × Nat)} (R : ErrC K CL RE 7) (hY : YAt H y 40 ps) (h1 : TV H v1 T1) (h2 : TV H v2 T2) (hQ : ∀ H', Same H H' → Q (.str "many 41") H') : spPut (CL 0) (CL 5) (CL 7) [.ref y, v1, v2] H Q0 (XTold K CL RE Q) := by
  refine ⟨y, v1, v2, T1, T2, rfl, h1, h2, .inr ⟨40, ps, hY, by omega, fun _ H' d s hd => ?_, fun z => absurd z (by omega), fun z => absurd z (by omega)⟩⟩
  have e : toldOf 7 ((toString ((41 : Nat) : Int) : String) : Str) = ("many 41" : Str) := by decide +kernel
  exact ⟨7, d, .int (41 : Nat), ((toString ((41 : Nat) : Int) : String) : Str), R, rfl, rfl, hd, fun _ _ => .int 41 (by decide), by decide +kernel, fun H'' s' => by rw [e]; exact hQ H'' (s.trans s')⟩
theorem TV.monoE {H H' : Hp} {v : V} {T : String} {p c : Addr} {n n' : Nat} (h : TV H v T) (M : MS H p c n) (M' : MS H' p c n') (e : Ext p H H') : TV H' v T := by
  obtain ⟨_, _, _, _, hp, _⟩ := M.ex
  obtain ⟨_, _, _, _, hp', _⟩ := M'.ex
  cases h with
  | non => exact .non
  | bl b => exact .bl b
  | int i => exact .int i
  | str x => exact .str x
  | @tup a xs ea => exact .tup (e _ _ (fun z => by rw [z, hp] at ea; cases ea) ea)
  | @lst a xs ea => exact .lst (e _ _ (fun z => by rw [z, hp] at ea; cases ea) ea)
  | @dct a kvs ea =>
    by_cases z : a = p
    · subst z
      exact .dct hp'
    · exact .dct (e _ _ z ea)
theorem cut_one (xs : List V) (h : 1 ≤ xs.length) : (cutV xs (some 1) none).length = xs.length - 1 := by
  unfold cutV
  rw [List.length_take, List.length_drop]
  have e : HT.sIx xs.length 0 (some 1) = 1 := by
    have := HT.sIx_nat xs.length 0 1
    rw [show ((1 : Nat) : Int) = 1 from rfl] at this
    omega
  rw [e, HT.sIx_none]
  omega
theorem below_yes {i n : Nat} (h : i < n) : belowV (.int (i : Nat)) (n : Nat) = true := by
  show (decide (0 ≤ ((i : Nat) : Int)) && decide (((i : Nat) : Int) < ((n : Nat) : Int))) = true
  simp only [Bool.and_eq_true, decide_eq_true_eq]
  omega
theorem put_ok {C0 C5 C7 : Addr} {E : XK} {n i j : Nat} {ps : List (Nat × Nat)} {a b : Nat × Nat} (hY : YAt H y n ps) (hn : n < 40) (ha : ps[i]? = some a) (hb : ps[j]? = some b)
    (hq : ∀ (H' : Hp) (t' : Addr) (as : List Addr) (T : List (Nat × Nat)), Same H H' → H' t' = some (.tup (refs as)) → PL H' as T → T.Perm (putOn n ps i j a b) → T.Pairwise leP → Q (.ref t') H') : spPut C0 C5 C7 [.ref y, .int (i : Nat), .int (j : Nat)] H Q E := by
  have l1 := (List.getElem?_eq_some_iff.mp ha).1
  have l2 := (List.getElem?_eq_some_iff.mp hb).1
  rw [hY.1.lines.len] at l1 l2
  refine ⟨y, _, _, "int", "int", rfl, .int _, .int _, .inr ⟨n, ps, hY, by omega, fun z => absurd z (by omega), fun _ z => ?_, fun _ i' j' a' b' e1 e2 ha' hb' => ?_⟩⟩
  · rw [below_yes l1, below_yes l2] at z
    cases z
  · have e1 := V.int.inj e1
    have e2 := V.int.inj e2
    obtain rfl : i = i' := by omega
    obtain rfl : j = j' := by omega
    cases ha.symm.trans ha'
    cases hb.symm.trans hb'
    exact hq
theorem sewn_ok {C5 C6 : Addr} {E : XK} {n i j : Nat} {ps T : List (Nat × Nat)} {a b : Nat × Nat} (hT : YAt H y (n + 1) T) (Y : Yard n ps) (hn : n < 40) (ha : ps[i]? = some a) (hb : ps[j]? = some b) (hp : T.Perm (putOn n ps i j a b))
    (hq : ∀ (H' : Hp) (t' : Addr) (as : List Addr), Same H H' → H' t' = some (.tup (refs as)) → PL H' as ps → Q (.ref t') H') : spSewn C5 C6 [.ref y, .int (n : Nat), .int 1] H Q E := by
  obtain ⟨sb, c0, c1, c2, c3⟩ := sew_back Y.lines ha hb hp (by omega : n < 64)
  have hpos := Y.pos
  have hcl : closesB (far T) n 1 = false := closesB_not fun r hr => by
    have h4 : r = 0 ∨ r = 1 ∨ r = 2 ∨ r = 3 := by omega
    rcases h4 with rfl | rfl | rfl | rfl
    · exact c0
    · exact c1
    · exact c2
    · exact c3
  refine ⟨y, _, _, "int", "int", n + 1, T, rfl, .int _, .int _, hT, by omega, fun z => ?_, fun _ c w e1 e2 hc hw => ?_⟩
  · exfalso
    rcases z with z | z | z
    · omega
    · rw [below_yes (by omega)] at z
      cases z
    · have e : belowV (.int 1) (3 : Nat) = true := rfl
      rw [e] at z
      cases z
  · have e1 := V.int.inj e1
    have e2 := V.int.inj e2
    obtain rfl : n = c := by omega
    obtain rfl : w = 1 := by omega
    refine ⟨fun z => (by rw [hcl] at z; cases z), fun _ => ⟨far ps, fun e he hne => ⟨2, sb e (by omega)⟩, ?_, fun _ H' t' as s ht hP => ?_, fun z => ?_⟩⟩
    · rw [left_put Y]
      exact Y.asked
    · rw [left_put Y] at hP
      exact hq H' t' as s ht hP
    · rw [left_put Y] at z
      exact absurd Y.whole z
end
theorem extN_wr {H Hb He : Hp} {l : Addr} {o : HO} (eb : LamX.ExtN H Hb) (hl : Hb l = none) (ee : LamX.ExtN H He) : LamX.ExtN H (upd He l o) := fun b u h n => by
  rw [upd_ne (ne_of_none (eb b u h n) hl)]
  exact ee b u h n
theorem tabs_wr {T : List (Addr × Str)} {H : Hp} {l : Addr} {xs : List V} {o : HO} (t : LamX.Tabs T H) (h : H l = some (.lst xs)) : LamX.Tabs T (upd H l o) := fun q hq => by
  obtain ⟨ps, h1, h2, h3⟩ := t q hq
  refine ⟨ps, by rw [upd_ne (fun z => by rw [z, h] at h1; cases h1)]; exact h1, h2, fun pos cv hcv => ?_⟩
  obtain ⟨c', rfl, hc⟩ := h3 pos cv hcv
  exact ⟨c', rfl, by rw [upd_ne (fun z => by rw [z, h] at hc; cases hc)]; exact hc⟩
theorem yard_small {n : Nat} {ps : List (Nat × Nat)} (y : Yard n ps) (h : n ≤ 41) : (∀ p ∈ ps, p.1 < 1000 ∧ p.2 < 1000) ∧ ps.length ≤ 1000 := ⟨fun p m => by
  have := y.lt p m
  omega, by rw [y.lines.len]; omega⟩
end One
end P_H9

section P_H10
set_option linter.all false
set_option maxRecDepth 100000
set_option maxHeartbeats 8000000
namespace One
open PySem PySem.W PySem.Calls PyProof.Rows PySem.HandSPX L2
/-- a class's __init__, its first statement -/
def initOf : Stmt → Stmt
  | .ClassDef (body := b) .. => b.getD 0 (.Pass ⟨0, 0, 0, 0⟩)
  | s => s
theorem shape0 : Shape (initOf (top 2)) "place" := ⟨_, _, _, _, _, _, _, _, _, _, _, _, _, _, _, _, rfl, rfl, rfl, by decide +kernel, fun _ => rfl⟩
theorem shape5 : Shape (initOf (top 7)) "place" := ⟨_, _, _, _, _, _, _, _, _, _, _, _, _, _, _, _, rfl, rfl, rfl, by decide +kernel, fun _ => rfl⟩
theorem shape6 : Shape (initOf (top 8)) "way" := ⟨_, _, _, _, _, _, _, _, _, _, _, _, _, _, _, _, rfl, rfl, rfl, by decide +kernel, fun _ => rfl⟩
theorem shape7 : Shape (initOf (top 9)) "many" := ⟨_, _, _, _, _, _, _, _, _, _, _, _, _, _, _, _, rfl, rfl, rfl, by decide +kernel, fun _ => rfl⟩
/-- a def of the top -/
structure DefAt (K : Frag) (x : Str) (st : Stmt) (f : Addr) (fd : FuncData) : Prop where
  ns : nsIn K mainGlobals x = some (some (.ref f))
  fn : L2.Fun K x x st f fd
theorem def_at {K : Frag} {x : Str} {st : Stmt} {f : Addr} {oc kV dc pm cd ct : Value} {od an : Option Addr} {sl : Array (Option Value)} (a : nsIn K mainGlobals x = some (some (.ref f))) (l : K.lookup f = some ⟨oc, od, .func (fnOf x x (defArgs st) (defBody st) (defScope st) .none kV dc pm an cd ct), sl⟩)
    (c : codeIn K cd x = true) (k : keepIn K (.ref f) = true) : DefAt K x st f (fnOf x x (defArgs st) (defBody st) (defScope st) .none kV dc pm an cd ct) := ⟨a, fun_mk l c k⟩
theorem DefAt.cal {K : Frag} {x : Str} {st : Stmt} {f : Addr} {fd : FuncData} {h : Heap} {mg : Str → Option Value} {ps : List Str} (D : DefAt K x st f fd) (X : K.In h) (G : h.Ns mainGlobals mg)
    (hb : ∀ (kV doc pm : Value) (an : Option Addr) (cdv ct : Value) (us : List Value), us.length = ps.length → bindArgs (fnOf x x (defArgs st) (defBody st) (defScope st) .none kV doc pm an cdv ct) ⟨us, []⟩ = pure (ps.zip us)) : Cal K mg x f fd ps := ⟨mg_of X G D.ns, D.fn.kp, D.fn.binds hb⟩
/-- an own exception class: what the top has written of it -/
structure ClsAt (P : Program) (K : Frag) (x : Str) (st : Stmt) (fld : Str) (C fI : Addr) : Prop where
  ns : nsIn K mainGlobals x = some (some (.ref C))
  own : OwnTxt P K st fld C fI
  iC : findIn K (.ref C) "__init__" = some (some (.ref fI))
  tC : typeIn K (.ref fI) = some (.type "function")
  kC : keepIn K (.ref C) = true
  exC : subIn K (.ref C) (.type "BaseException") = some true
  tyC : typeIn K (.ref C) = some (.type "type")
theorem al_of {K : Frag} {nm q : Str} {RE N : Addr} {bs : List Value} {sn : List Str} {sub : List Value} {ab : Bool} {col : Option Bool} {dd : Option Addr} {m0 m1 m2 m3 m5 : Option Value} {r : Option (Option Value)} {hdct : Bool}
    (xR : K.lookup RE = some (excClassObj nm q RE N bs [.type "ValueError", .type "Exception", .type "BaseException", .type "object"] hdct sn sub ab col dd m0 m1 m2 m3 m5 "ValueError.__new__")) (fR : findIn K (.ref RE) "__init__" = r) : alongIn K "__init__" [.ref RE, .type "ValueError", .type "Exception", .type "BaseException", .type "object"] = r := by
  unfold findIn at fR
  dsimp only at fR
  rw [xR] at fR
  exact fR
theorem cls_at {P : Program} {K : Frag} {x : Str} {st : Stmt} {fld nm q : Str} {C fI N RE cda cc : Addr} {bs : List Value} {sn : List Str} {sub : List Value} {ab : Bool} {col : Option Bool} {dd od an cdd cld : Option Addr} {m0 m1 m2 m3 m5 : Option Value} {oc doc pm ct ccl cl : Value} {osl ccs csl : Array (Option Value)} {vs : Array Value} {file qual : Str} {tf : Tok}
    (ns : nsIn K mainGlobals x = some (some (.ref C))) (xL : K.lookup C = some (excClassObj nm q C N bs [.ref RE, .type "ValueError", .type "Exception", .type "BaseException", .type "object"] true sn sub ab col dd m0 m1 m2 m3 m5 "ValueError.__new__"))
    (al : alongIn K "__init__" [.ref RE, .type "ValueError", .type "Exception", .type "BaseException", .type "object"] = some (some (.builtin "ValueError.__init__"))) (sa : findIn K (.ref C) "__setattr__" = some (some (.builtin "object.__setattr__"))) (noF : findIn K (.ref C) fld = some none)
    (veB : subIn K (.ref C) (.type "ValueError") = some true) (slf : mroIn K C (.ref C) = some true) (op : nsIn K cStatics "thirdparty.any" = some none) (tp : (P.main.scope.names.lookup ("super" : Str)).isSome = false) (sh : Shape st fld)
    (iC : findIn K (.ref C) "__init__" = some (some (.ref fI))) (l1 : K.lookup fI = some ⟨oc, od, .func (ksFn "__init__" qual (defArgs st) (defBody st) (defScope st) .none .none doc pm an (.ref cda) ct cc), osl⟩) (c1 : codeIn K (.ref cda) qual = true)
    (lc : K.lookup cda = some ⟨ccl, cdd, .fields vs, ccs⟩) (hvs : vs[2]? = some (.str file tf)) (hfile : ((P.main.file : Str) == file) = true) (lcc : K.lookup cc = some ⟨cl, cld, .cell (some (.ref C)), csl⟩)
    (tC : typeIn K (.ref fI) = some (.type "function")) (kC : keepIn K (.ref C) = true) (exC : subIn K (.ref C) (.type "BaseException") = some true) (tyC : typeIn K (.ref C) = some (.type "type")) : ClsAt P K x st fld C fI :=
  ⟨ns, ⟨⟨_, _, _, _, _, _, _, _, _, _, _, _, _, _, _, xL, rfl, by rw [PySem.ESX.drop_own]; exact al⟩, sa, noF, veB, slf, op, tp, sh, ⟨_, _, _, _, _, _, _, _, _, _, _, _, _, _, _, _, _, _, _, l1, c1, lc, hvs, hfile, lcc⟩⟩, iC, tC, kC, exC, tyC⟩
theorem ClsAt.cls {P : Program} {K : Frag} {x : Str} {st : Stmt} {fld : Str} {C fI : Addr} {h : Heap} {mg : Str → Option Value} (D : ClsAt P K x st fld C fI) (X : K.In h) (G : h.Ns mainGlobals mg) : OwnCls K mg x C fI := ⟨mg_of X G D.ns, D.iC, D.tC, D.kC, D.exC, D.tyC⟩
end One
end P_H10

section P_H12
set_option linter.all false
set_option maxRecDepth 100000
set_option maxHeartbeats 8000000
namespace One
open PySem PySem.W PySem.Calls PyProof.Rows PySem.HandSPX L2
def clsL (C0 C1 C2 C3 C4 C5 C6 C7 : Addr) : Nat → Addr := fun i => [C0, C1, C2, C3, C4, C5, C6, C7].getD i C0
theorem err0 {K : Frag} {RE C0 C1 C2 C3 C4 C5 C6 C7 : Addr} (hg : findIn K (.ref C0) "__getattribute__" = some (some (.builtin "BaseException.__getattribute__"))) (hk : findIn K (.ref C0) "__getattr__" = some none) (hs : subIn K (.ref C0) (.type "BaseException") = some true)
    (hd : hasDictIn K C0 = true) (ha : findIn K (.ref C0) "__class__" = some (some (.builtin "object.__class__"))) (hn : specialIn K (.builtin "object.__class__") "__get__" = some (some (.builtin "getset_descriptor.__get__"))) (ht : takesIn K (.builtin "object.__class__") = some true)
    (hm : mroIn K C0 (.type "object") = some true) (no : findIn K (.ref C0) "place" = some none)
    (q0 : kitOne K (.ref C0) (.ref C0) = some true)    (q1 : kitOne K (.ref C0) (.ref C1) = some false)    (q2 : kitOne K (.ref C0) (.ref C2) = some false)    (q3 : kitOne K (.ref C0) (.ref C3) = some false)    (q4 : kitOne K (.ref C0) (.ref C4) = some false)    (q5 : kitOne K (.ref C0) (.ref C5) = some false)    (q6 : kitOne K (.ref C0) (.ref C6) = some false)    (q7 : kitOne K (.ref C0) (.ref C7) = some false)
    (ve : kitOne K (.ref C0) (.type "ValueError") = some true) (u1 : subIn K (.ref RE) (.type "BaseException") = some true) (u2 : hasDictIn K RE = true) (u3 : typeIn K (.ref RE) = some (.type "type")) (u4 : subIn K (.ref C0) (.ref RE) = some true) : ErrC K (clsL C0 C1 C2 C3 C4 C5 C6 C7) RE 0 :=
  ⟨by decide, ⟨hg, hk, hs, hd, ha, hn, ht, hm⟩, ⟨hg, hk, hs, hd⟩, no, fun j hj => match j, hj with
    | 0, _ => q0
    | 1, _ => q1
    | 2, _ => q2
    | 3, _ => q3
    | 4, _ => q4
    | 5, _ => q5
    | 6, _ => q6
    | 7, _ => q7, ve, exm_ref u1 u2 u3 u4⟩
theorem err5 {K : Frag} {RE C0 C1 C2 C3 C4 C5 C6 C7 : Addr} (hg : findIn K (.ref C5) "__getattribute__" = some (some (.builtin "BaseException.__getattribute__"))) (hk : findIn K (.ref C5) "__getattr__" = some none) (hs : subIn K (.ref C5) (.type "BaseException") = some true)
    (hd : hasDictIn K C5 = true) (ha : findIn K (.ref C5) "__class__" = some (some (.builtin "object.__class__"))) (hn : specialIn K (.builtin "object.__class__") "__get__" = some (some (.builtin "getset_descriptor.__get__"))) (ht : takesIn K (.builtin "object.__class__") = some true)
    (hm : mroIn K C5 (.type "object") = some true) (no : findIn K (.ref C5) "place" = some none)
    (q0 : kitOne K (.ref C5) (.ref C0) = some false)    (q1 : kitOne K (.ref C5) (.ref C1) = some false)    (q2 : kitOne K (.ref C5) (.ref C2) = some false)    (q3 : kitOne K (.ref C5) (.ref C3) = some false)    (q4 : kitOne K (.ref C5) (.ref C4) = some false)    (q5 : kitOne K (.ref C5) (.ref C5) = some true)    (q6 : kitOne K (.ref C5) (.ref C6) = some false)    (q7 : kitOne K (.ref C5) (.ref C7) = some false)
    (ve : kitOne K (.ref C5) (.type "ValueError") = some true) (u1 : subIn K (.ref RE) (.type "BaseException") = some true) (u2 : hasDictIn K RE = true) (u3 : typeIn K (.ref RE) = some (.type "type")) (u4 : subIn K (.ref C5) (.ref RE) = some true) : ErrC K (clsL C0 C1 C2 C3 C4 C5 C6 C7) RE 5 :=
  ⟨by decide, ⟨hg, hk, hs, hd, ha, hn, ht, hm⟩, ⟨hg, hk, hs, hd⟩, no, fun j hj => match j, hj with
    | 0, _ => q0
    | 1, _ => q1
    | 2, _ => q2
    | 3, _ => q3
    | 4, _ => q4
    | 5, _ => q5
    | 6, _ => q6
    | 7, _ => q7, ve, exm_ref u1 u2 u3 u4⟩
theorem err6 {K : Frag} {RE C0 C1 C2 C3 C4 C5 C6 C7 : Addr} (hg : findIn K (.ref C6) "__getattribute__" = some (some (.builtin "BaseException.__getattribute__"))) (hk : findIn K (.ref C6) "__getattr__" = some none) (hs : subIn K (.ref C6) (.type "BaseException") = some true)
    (hd : hasDictIn K C6 = true) (ha : findIn K (.ref C6) "__class__" = some (some (.builtin "object.__class__"))) (hn : specialIn K (.builtin "object.__class__") "__get__" = some (some (.builtin "getset_descriptor.__get__"))) (ht : takesIn K (.builtin "object.__class__") = some true)
    (hm : mroIn K C6 (.type "object") = some true) (no : findIn K (.ref C6) "way" = some none)
    (q0 : kitOne K (.ref C6) (.ref C0) = some false)    (q1 : kitOne K (.ref C6) (.ref C1) = some false)    (q2 : kitOne K (.ref C6) (.ref C2) = some false)    (q3 : kitOne K (.ref C6) (.ref C3) = some false)    (q4 : kitOne K (.ref C6) (.ref C4) = some false)    (q5 : kitOne K (.ref C6) (.ref C5) = some false)    (q6 : kitOne K (.ref C6) (.ref C6) = some true)    (q7 : kitOne K (.ref C6) (.ref C7) = some false)
    (ve : kitOne K (.ref C6) (.type "ValueError") = some true) (u1 : subIn K (.ref RE) (.type "BaseException") = some true) (u2 : hasDictIn K RE = true) (u3 : typeIn K (.ref RE) = some (.type "type")) (u4 : subIn K (.ref C6) (.ref RE) = some true) : ErrC K (clsL C0 C1 C2 C3 C4 C5 C6 C7) RE 6 :=
  ⟨by decide, ⟨hg, hk, hs, hd, ha, hn, ht, hm⟩, ⟨hg, hk, hs, hd⟩, no, fun j hj => match j, hj with
    | 0, _ => q0
    | 1, _ => q1
    | 2, _ => q2
    | 3, _ => q3
    | 4, _ => q4
    | 5, _ => q5
    | 6, _ => q6
    | 7, _ => q7, ve, exm_ref u1 u2 u3 u4⟩
theorem err7 {K : Frag} {RE C0 C1 C2 C3 C4 C5 C6 C7 : Addr} (hg : findIn K (.ref C7) "__getattribute__" = some (some (.builtin "BaseException.__getattribute__"))) (hk : findIn K (.ref C7) "__getattr__" = some none) (hs : subIn K (.ref C7) (.type "BaseException") = some true)
    (hd : hasDictIn K C7 = true) (ha : findIn K (.ref C7) "__class__" = some (some (.builtin "object.__class__"))) (hn : specialIn K (.builtin "object.__class__") "__get__" = some (some (.builtin "getset_descriptor.__get__"))) (ht : takesIn K (.builtin "object.__class__") = some true)
    (hm : mroIn K C7 (.type "object") = some true) (no : findIn K (.ref C7) "many" = some none)
    (q0 : kitOne K (.ref C7) (.ref C0) = some false)    (q1 : kitOne K (.ref C7) (.ref C1) = some false)    (q2 : kitOne K (.ref C7) (.ref C2) = some false)    (q3 : kitOne K (.ref C7) (.ref C3) = some false)    (q4 : kitOne K (.ref C7) (.ref C4) = some false)    (q5 : kitOne K (.ref C7) (.ref C5) = some false)    (q6 : kitOne K (.ref C7) (.ref C6) = some false)    (q7 : kitOne K (.ref C7) (.ref C7) = some true)
    (ve : kitOne K (.ref C7) (.type "ValueError") = some true) (u1 : subIn K (.ref RE) (.type "BaseException") = some true) (u2 : hasDictIn K RE = true) (u3 : typeIn K (.ref RE) = some (.type "type")) (u4 : subIn K (.ref C7) (.ref RE) = some true) : ErrC K (clsL C0 C1 C2 C3 C4 C5 C6 C7) RE 7 :=
  ⟨by decide, ⟨hg, hk, hs, hd, ha, hn, ht, hm⟩, ⟨hg, hk, hs, hd⟩, no, fun j hj => match j, hj with
    | 0, _ => q0
    | 1, _ => q1
    | 2, _ => q2
    | 3, _ => q3
    | 4, _ => q4
    | 5, _ => q5
    | 6, _ => q6
    | 7, _ => q7, ve, exm_ref u1 u2 u3 u4⟩
end One
end P_H12

section P_H13
set_option linter.all false
set_option maxRecDepth 100000
set_option maxHeartbeats 8000000
namespace One
open PySem PySem.W PySem.Calls PyProof.Rows PySem.HandSPX L2
theorem tab_mkX {K : Frag} {x : Str} {f c Pt : Addr} {oc oc2 : Value} {od od2 : Option Addr} {fd : FuncData} {sl sl2 : Array (Option Value)} {vs : Array Value} (a : nsIn K mainGlobals x = some (some (.ref f))) (l : K.lookup f = some ⟨oc, od, .func fd, sl⟩) (hc : fd.code = .ref c)
    (lc : K.lookup c = some ⟨oc2, od2, .fields vs, sl2⟩) (hv : (vs[11]? : Option Value) = some (.ref Pt)) : tabIn K x = some (c, Pt) := by
  unfold tabIn
  rw [a]
  simp only [l, hc, lc, hv]
theorem walkGX {l : OpenLaw} {n k : Nat} {q : Program} {loose : List Str} {XP : (Str → Option Value) → Heap → Prop} {YP : World → Heap → Prop} {d : DefRec} {K : Params → Frag} {CX : World → CXT} {x : Str} (hn : l.most = some n) (small : n ≤ sizeLine) (nodef : d.params.defaults = []) (hr : Room k callerA)
    (inY : ∀ (w : World) (h : Heap), YP w h → (K w.params).In h)
    (F : ∀ (w : World) (mg : Str → Option Value) (fa : Addr) (h : Heap), YP w h → (K w.params).In h → h.Ns mainGlobals mg → mg d.name = some (.ref fa) →
      (∀ {x : Str} {dL : DefRec}, (recsOf q).find? (fun e => e.name == x) = some dL → ∀ {c P : Addr}, tabIn (K w.params) x = some (c, P) → CodeHd h c P ∧ h.get? P = some { cls := .none, data := .fields #[] }) → LawG l w (K w.params) (CX w) k n x mg fa h)
    (none_out : ∀ (w : World) (H : Hp) (s : Shared) (e : Value) (s' : Shared), CX w [] H s (fun _ _ _ => False) e s' → False) : WalkO q loose XP YP l.row.toRowW d [] (fun f vs => PySem.call f vs) := by
  refine Att.attach_callB hn nodef fun w s0 s1 mg mb fa o pm cd doc a vs ns G Y ho hd hcd hmg hobj hints hlen hbits hg => ?_
  have X := inY w _ Y
  obtain ⟨fd, cs, sp, hT, nT, C, hb, hsp, hF⟩ := F w mg fa _ Y X G.T.g hmg (@fun _ _ hrec _ _ ht => tab_of G.T X hrec ht)
  exact law_goesT X G.T.g G.T.b G.T.builtins G.T.nolimit hg hT nT C G.T.bmain hobj hints (Nat.le_trans hlen small) hr hF hb (fun H hH hS => hsp H a ns hlen hbits hH hS) fun H e s' => none_out w H s1 e s'
end One
end P_H13

section P_H14
set_option linter.all false
set_option maxRecDepth 100000
set_option maxHeartbeats 8000000
namespace One
open PySem PySem.Spec PyProof.Rows L2
/-- a def whose code object stands at c -/
structure FunC (K : PySem.W.Frag) (x qual : Str) (st : Stmt) (f : Addr) (fd : FuncData) (c : Addr) : Prop where
  ex : ∃ (oc : Value) (od : Option Addr) (kV doc pm : Value) (an : Option Addr) (ct : Value) (osl : Array (Option Value)),
    fd = PySem.W.fnOf x qual (defArgs st) (defBody st) (defScope st) .none kV doc pm an (.ref c) ct ∧ K.lookup f = some ⟨oc, od, .func fd, osl⟩ ∧ PySem.W.codeIn K (.ref c) qual = true
section
variable {P : Program} {w : World} {K : PySem.W.Frag} {mg : Str → Option Value} {base : Heap}
theorem okGC {x qual : Str} {st : Stmt} {f c : Addr} {fd : FuncData} {N ps : List Str} {k : Nat} {sp : Sp} (F : FunC K x qual st f fd c) (S : FnScope N ps (defScope st)) (len : ∀ vs H Q E, sp vs H Q E → vs.length = ps.length)
    (body : ∀ (A : Around) (outer : List Env) (s : Shared) (H : Hp) (vs : List V) (Q : VK) (E : XK), A.guards = some [] → Room k (A.deeper (envOfC qual (defScope st) s.heap.objs.size f (.ref c))) → sp vs H Q E →
      ∃ t, PSs (cxOf CX0 P w K mg base N qual (defScope st) f (.ref c) A outer s H E).nox (defBody st) t ∧ t { nx := fun _ H' => Q .non H', rt := Q } (start N vs) H) : FnG P w K mg base CX0 (k + 1) f fd ps sp := by
  obtain ⟨oc, od, kV, doc, pm, an, ct, osl, rfl, lk, hcd⟩ := F.ex
  exact ⟨len, fun A outer s H args us vs Q E hg hr e0 hb r hs => LamX.run_ofS lk hcd S hr e0 hb r (len _ _ _ _ hs) fun hr1 => let ⟨t, h, q⟩ := body A outer s H vs Q E hg hr1 hs; ⟨t, h.nox, q⟩⟩
end
section
variable {K : PySem.W.Frag} {CL : Nat → Addr} {RE : Addr} {H : Hp} {Q : VK} {y : Addr}
/-- sewn out: what is left, or barred -/
theorem sewn_free {C5 C6 : Addr} {E : XK} {m c w : Nat} {ps : List (Nat × Nat)} (hY : YAt H y m ps) (h2 : 2 ≤ m) (h40 : m ≤ 40) (hc : c < m) (hw : w < 3) (hbar : BarW ps m c w → RWay C6 w E H)
    (hq : ¬ BarW ps m c w → ∀ (H' : Hp) (t' : Addr) (as : List Addr), Same H H' → H' t' = some (.tup (refs as)) → PL H' as (leftOf (behindF (far ps) c w) c (4 * m)) → Q (.ref t') H') : spSewn C5 C6 [.ref y, .int (c : Nat), .int (w : Nat)] H Q E := by
  obtain ⟨Y, _⟩ := id hY
  have I := far_inv Y.lines
  refine ⟨y, _, _, "int", "int", m, ps, rfl, .int _, .int _, hY, h40, fun z => ?_, fun _ c' w' e1 e2 _ _ => ?_⟩
  · exfalso
    rcases z with z | z | z
    · omega
    · rw [below_yes hc] at z
      cases z
    · rw [below_yes hw] at z
      cases z
  · have e1 := V.int.inj e1
    have e2 := V.int.inj e2
    obtain rfl : c = c' := by omega
    obtain rfl : w = w' := by omega
    refine ⟨fun z => hbar (.inl z), fun q => ?_⟩
    have O := open_of q
    have LL := left_lines I hc hw O
    refine ⟨behindF (far ps) c w, fun e he ho => ⟨2, (behind_is I hc hw O he ho).1⟩, ⟨by omega, LL.len, fun p hp => ⟨LL.lt _ (mem_ends.mpr ⟨p, hp, .inl rfl⟩), LL.lt _ (mem_ends.mpr ⟨p, hp, .inr rfl⟩)⟩⟩, fun W => hq fun z => ?_, fun W => hbar (.inr W)⟩
    rcases z with z | z
    · rw [q] at z
      cases z
    · exact z W
theorem told_way {w : Nat} {txt : Str} (R : ErrC K CL RE 6) (hw : w < 1000) (ht : toldOf 6 ((toString ((w : Nat) : Int) : String) : Str) = txt) (hl : (((toString ((w : Nat) : Int) : String) : Str)).length ≤ 1000000) (hQ : ∀ H', Same H H' → Q (.str txt) H') : RWay (CL 6) w (XTold K CL RE Q) H := fun H' d s hd =>
  ⟨6, d, .int (w : Nat), _, R, rfl, rfl, hd, fun _ _ => .int w hw, hl, fun H'' s' => by rw [ht]; exact hQ H'' (s.trans s')⟩
theorem way_text : ∀ w : Nat, w < 3 → (((toString ((w : Nat) : Int) : String) : Str)).length ≤ 10 := by
  have h : ∀ w : Fin 3, (((toString (((w : Nat) : Nat) : Int) : String) : Str)).length ≤ 10 := by decide +kernel
  exact fun w hw => h ⟨w, hw⟩
theorem ways_lam {Q0 : VK} {m c w : Nat} {ps : List (Nat × Nat)} (R : ErrC K CL RE 6) (hY : YAt H y m ps) (h2 : 2 ≤ m) (h40 : m ≤ 40) (hc : c < m) (hw : w < 3) (hQ0 : ∀ v H', Q (.str "") H' → Q0 v H')
    (h : ∀ (H' : Hp) (txt : Str), Same H H' → ((txt = "" ∧ ¬ BarW ps m c w) ∨ (txt = toldOf 6 ((toString ((w : Nat) : Int) : String) : Str) ∧ BarW ps m c w)) → Q (.str txt) H') :
    spSewn (CL 5) (CL 6) [.ref y, .int (c : Nat), .int (w : Nat)] H Q0 (XTold K CL RE Q) := by
  refine sewn_free hY h2 h40 hc hw (fun b => told_way R (by omega) rfl (by have := way_text w hw; omega) fun H' s' => h H' _ s' (.inr ⟨rfl, b⟩)) fun b H' t' as s' _ _ => hQ0 _ _ (h H' _ s' (.inl ⟨rfl, b⟩))
end
open Classical in
/-- the ways that are not barred, of the first i -/
noncomputable def freeW (ps : List (Nat × Nat)) (m c i : Nat) : List Nat := (List.range i).filter fun w => decide (¬ BarW ps m c w)
open Classical in
theorem freeW_snoc (ps : List (Nat × Nat)) (m c i : Nat) : freeW ps m c (i + 1) = freeW ps m c i ++ if BarW ps m c i then [] else [i] := by
  unfold freeW
  rw [List.range_succ, List.filter_append]
  congr 1
  rw [List.filter_cons, List.filter_nil]
  by_cases h : BarW ps m c i
  · rw [if_pos h, decide_eq_false (fun z => z h)]
    rfl
  · rw [if_neg h, decide_eq_true h]
    rfl
open Classical in
theorem freeW_mem {ps : List (Nat × Nat)} {m c i w : Nat} : w ∈ freeW ps m c i ↔ w < i ∧ ¬ BarW ps m c w := by
  unfold freeW
  rw [List.mem_filter, List.mem_range, decide_eq_true_iff]
open Classical in
theorem freeW_len (ps : List (Nat × Nat)) (m c i : Nat) : (freeW ps m c i).length ≤ i := by
  unfold freeW
  have := List.length_filter_le (fun w => decide (¬ BarW ps m c w)) (List.range i)
  rw [List.length_range] at this
  exact this
theorem freeW_two {ps : List (Nat × Nat)} {m c : Nat} (Y : Yard m ps) (h2 : 2 ≤ m) (hc : c < m) : 2 ≤ (freeW ps m c 3).length := by
  have one := fun {w w' : Nat} => bar_one (w := w) (w' := w') Y h2 hc
  rw [freeW_snoc, freeW_snoc, freeW_snoc]
  have e0 : freeW ps m c 0 = [] := rfl
  rw [e0]
  by_cases h0 : BarW ps m c 0
  · have h1 : ¬ BarW ps m c 1 := fun z => absurd (one (by decide) (by decide) h0 z) (by decide)
    have h3 : ¬ BarW ps m c 2 := fun z => absurd (one (by decide) (by decide) h0 z) (by decide)
    rw [if_pos h0, if_neg h1, if_neg h3]
    exact Nat.le_refl _
  · by_cases h1 : BarW ps m c 1
    · have h3 : ¬ BarW ps m c 2 := fun z => absurd (one (by decide) (by decide) h1 z) (by decide)
      rw [if_neg h0, if_pos h1, if_neg h3]
      exact Nat.le_refl _
    · rw [if_neg h0, if_neg h1]
      simp
end One
end P_H14

section P_W8
set_option linter.all false
set_option maxRecDepth 100000
set_option maxHeartbeats 8000000
namespace One
open PySem PySem.Spec PyProof.Rows L2
abbrev sWays : Stmt := top 42
abbrev nWays : List Str := ["yard", "crossing", "found", "told", "way"]
theorem scWays : FnScope nWays ["yard", "crossing"] (defScope sWays) := ⟨rfl, rfl, rfl, by decide +kernel, rfl, by decide +kernel, by decide +kernel⟩
/-- the table of the lambdas made in it -/
def TbW (Pt : Addr) (H : Hp) : Prop := LamX.Tabs [(Pt, (envOfC "_law_ways" (defScope sWays) 0 0 .none).qual ++ "<lambda>")] H
def spWays (Pt : Addr) : Sp := fun vs H Q _ => ∃ (y : Addr) (m c : Nat) (ps : List (Nat × Nat)), vs = [.ref y, .int (c : Nat)] ∧ YAt H y m ps ∧ 2 ≤ m ∧ m ≤ 40 ∧ c < m ∧ TbW Pt H ∧
  ∀ (H' : Hp) (l : Addr), LamX.ExtN H H' → TbW Pt H' → H' l = some (.lst (nats (freeW ps m c 3))) → Q (.ref l) H'
section
variable {P : Program} {w : World} {K : PySem.W.Frag} {mg : Str → Option Value} {base : Heap}
theorem ok_ways {CL : Nat → Addr} {RE f c Pt g fS : Addr} {fd dg dS : FuncData} (F : FunC K "_law_ways" "_law_ways" sWays f fd c) (T : TB mg) (TBl : LamX.TabB base mg c Pt) (Nm : ErrN mg CL RE) (R6 : ErrC K CL RE 6)
    (G : Fun K "_law_refused" "_law_refused" sRef g dg) (cG : Cal K mg "_law_refused" g dg ["deed"]) (cS : Cal K mg "sewn_out" fS dS ["yard", "crossing", "way"]) (gS : FnOk P w K mg base (L2.CX P w) 7 fS dS ["yard", "crossing", "way"] (spSewn (CL 5) (CL 6))) : FnG P w K mg base CX0 10 f fd ["yard", "crossing"] (spWays Pt) := by
  refine okGC F scWays (fun vs H Q E h => ?_) (fun A outer s H vs Q E hgd hr h => ?_)
  · obtain ⟨y, m, cc, ps, rfl, _⟩ := h
    rfl
  · obtain ⟨y, m, cc, ps, rfl, hY, h2, h40, hcc, t0, k⟩ := h
    have nd := scWays.nd
    have hu : (A.deeper (envOfC "_law_ways" (defScope sWays) s.heap.objs.size f (.ref c))).units + 64 < cLine := hr.units
    obtain ⟨oc, od, kV, doc, pm, an, cdg, ctg, osl, rfl, lkg, hcg⟩ := G.ex
    let X : Cx := (cxOf CX0 P w K mg base nWays "_law_ways" (defScope sWays) f (.ref c) A outer s H E).nox
    have lam : ∀ {body : Expr} {scope : Scope} {t : XK → TE} {p lpos pos : Pos} (LS : LamX.LamS (defScope sWays) scope) (hbody : ∀ (A' : Around) (outer : List Env) (s : Shared) (H : Hp) (E : XK) (f' c' : Addr), Room 7 (A'.deeper (LamX.lamEnv X scope s.heap.objs.size f' c')) → PE (LamX.lamCx X A' outer s H E scope f' c') body (t E)),
        PE X (.Call (.Name "_law_refused" p) [.Lambda { posonlyargs := [], args := [], vararg := none, kwonlyargs := [], kw_defaults := [], kwarg := none, defaults := [] } body scope lpos] [] pos) (LamX.tLam [(Pt, X.env.qual ++ "<lambda>")] (TTref K CL RE) t) := fun LS hbody =>
      LamX.pe_lamcall (X := X) (k := 7) rfl cG.g cG.kp lkg hcg cG.b scRef rfl (.inl rfl) (ref_gives (X := X) T Nm hgd hr) TBl rfl (List.mem_cons_self ..) (fun q hq e => by rw [List.mem_singleton.mp hq]) hr LS rfl (fun _ _ _ _ _ => rfl) hbody
    have sewn : ∀ {A' : Around} {outer : List Env} {s : Shared} {H : Hp} {E : XK} {scope : Scope} {f' c' : Addr} {a b d : Expr} {ta : TE} {tr : TA} {p pos : Pos} (hr7 : Room 7 (A'.deeper (LamX.lamEnv X scope s.heap.objs.size f' c'))) (hg : scope.names.lookup ("sewn_out" : Str) = some .globalImplicit)
        (ha : PA (LamX.lamCx X A' outer s H E scope f' c') [a, b, d] (tCons ta tr)) (he : starEach [a, b, d] (LamX.lamEnv X scope s.heap.objs.size f' c') = (false, eval a (LamX.lamEnv X scope s.heap.objs.size f' c')) :: starEach [b, d] (LamX.lamEnv X scope s.heap.objs.size f' c'))
        (hpl : (backTo pos (starEach [b, d] (LamX.lamEnv X scope s.heap.objs.size f' c'))).any (·.1) = false), PE (LamX.lamCx X A' outer s H E scope f' c') (.Call (.Name "sewn_out" p) [a, b, d] [] pos) (tCall (spSewn (CL 5) (CL 6)) [] E (tCons ta tr)) := fun hr7 hg ha he hpl =>
      pe_call gS hr7 hg cS.g cS.kp cS.b .nil (passes_call (takes_of rfl rfl rfl rfl) (fun _ _ _ _ h => h)) ha (by decide) he hpl
    have rpI : ∀ {X' : Cx}, X'.A = A.deeper (envOfC "_law_ways" (defScope sWays) s.heap.objs.size f (.ref c)) → CallR X' (.builtin "repr") (rRepV X'.K) := fun e => cr_repV (by rw [e]; exact hgd) (by rw [e]; exact hu)
    refine ⟨_, pss_cons (ps_set (i := 2) nd rfl (Or.inl rfl) (pe_lst pa_nil))
      (pss_cons (ps_for PassesOwn.never rfl (pi_range1 (by rfl) T.range (pa_cons pe_int pa_nil)) (pg_name (i := 4) nd rfl (Or.inr rfl))
        (pss_cons (ps_set (i := 3) nd rfl (Or.inl rfl) (lam (LamX.lamS_by (by decide +kernel)) fun A' outer s H E f' c' hr7 => sewn hr7 (by decide +kernel) (pa_cons (pv 0) (pa_cons (pv 1) (pa_cons (pv 4) pa_nil))) (by rfl) (by rfl)))
        (pss_cons (ps_if (pt_cmpR op_notIn_seq (pv 3) (pe_tup (pa_cons pe_str (pa_cons (pe_op op_add_str pe_str (pe_callB (rpI rfl) (by rfl) T.repr boot_repr (pa_cons (pv 4) pa_nil))) pa_nil))) (by rfl)) (pss_one (ps_ret (pe_lst pa_nil))) pss_nil)
        (pss_one (ps_set (i := 2) nd rfl (Or.inl rfl) (pe_op op_catS (pv 2) (pe_op op_rep (pe_lst (pa_cons (pv 4) pa_nil)) (pe_callTy call_int1 (by rfl) T.int PyProof.Rows.boot_int (pa_cons (pe_cmpR op_eq (pv 3) pe_str (nomark _)) pa_nil) (by decide)))))))))
      (pss_one (ps_ret (pv 2)))), ?_⟩
    refine ⟨Nat.zero_le _, fun l0 hl0 => ?_⟩
    have s0 := Same.new (o := .lst []) hl0
    refine ⟨3, rfl, by decide, by decide, for_range (n := 3) (fun i σ H7 => ∃ (D : Addr) (v3 v4 : Option V), σ = [some (.ref y), some (.int (cc : Nat)), some (.ref D), v3, v4] ∧ LamX.ExtN H H7 ∧ TbW Pt H7 ∧ H7 D = some (.lst (nats (freeW ps m cc i))))
      ⟨l0, none, none, rfl, LamX.ExtN.of s0, t0.ext s0, upd_same⟩ ?_ ?_⟩
    · rintro i σ H7 hi ⟨D, v3, v4, rfl, e7, t7, hD⟩
      have ei : (0 : Int) + ((i : Nat) : Int) = ((i : Nat) : Int) := Int.zero_add _
      refine ⟨t7, fun Ha ea ta => ?_⟩
      refine ⟨_, rfl, _, rfl, _, rfl, ?_⟩
      rw [ei]
      unfold tNil
      have e7a := e7.trans ea
      refine ways_lam R6 (hY.mono (tupN e7a)) h2 h40 hcc hi (fun v H' q => q) fun Hb txt sb hx => ?_
      have hDb : Hb D = some (.lst (nats (freeW ps m cc i))) := sb _ _ (lstN ea hD)
      have e7b := e7a.trans (LamX.ExtN.of sb)
      have tb := ta.ext sb
      have ht := way_text i hi
      have big : (1000 : Nat) ≤ sizeLine := by decide
      refine ⟨_, rfl, _, rfl, _, _, rfl, .int i (by omega), _, _, rfl, rfl, (by
        have : ("barred " : Str).length = 7 := rfl
        omega), two_le, fun u hu' => ⟨u, _, rfl, .inr (SqT.of upd_same), rfl, rfl, _, rfl, ?_⟩⟩
      have su := Same.new (o := .tup [V.str "", V.str (("barred " : Str) ++ ((toString ((i : Nat) : Int) : String) : Str))]) hu'
      have e7c := e7b.trans (LamX.ExtN.of su)
      have tc := tb.ext su
      have hDc := su _ _ hDb
      have eIn : inV (V.str txt) [V.str "", V.str (("barred " : Str) ++ ((toString ((i : Nat) : Int) : String) : Str))] = true := by
        unfold inV
        rcases hx with ⟨rfl, _⟩ | ⟨rfl, _⟩
        · rfl
        · rw [List.any_cons, List.any_cons, show eqV (V.str (("barred " : Str) ++ ((toString ((i : Nat) : Int) : String) : Str))) (V.str (toldOf 6 ((toString ((i : Nat) : Int) : String) : Str))) = true from beq_self_eq_true _, Bool.true_or, Bool.or_true]
      show if (!inV (V.str txt) [V.str "", V.str (("barred " : Str) ++ ((toString ((i : Nat) : Int) : String) : Str))]) = true then _ else _
      rw [eIn]
      have hlen := freeW_len ps m cc i
      have key : freeW ps m cc (i + 1) = freeW ps m cc i ++ (if decide (V.str txt = V.str "") = true then [i] else []) := by
        rw [freeW_snoc]
        rcases hx with ⟨rfl, hb⟩ | ⟨rfl, hb⟩
        · rw [if_neg hb, decide_eq_true rfl, if_pos rfl]
        · rw [if_pos hb, decide_eq_false (fun z => by
            have z := V.str.inj z
            have : (toldOf 6 ((toString ((i : Nat) : Int) : String) : Str)).length = ("" : Str).length := by rw [z]
            have e : toldOf 6 ((toString ((i : Nat) : Int) : String) : Str) = ("barred " : Str) ++ ((toString ((i : Nat) : Int) : String) : Str) := rfl
            rw [e, strLen_append] at this
            have l7 : ("barred " : Str).length = 7 := rfl
            have l0 : ("" : Str).length = 0 := rfl
            omega), if_neg (by decide)]
      refine iteF ⟨_, rfl, _, rfl, (by show 1 ≤ sizeLine; decide), fun l1 hl1 => ⟨_, rfl, rfl, .inr ⟨_, rfl, l1, _, _, rfl, rfl, upd_same, ?_, ?_, ?_, fun l2 hl2 => ?_⟩⟩⟩
      · split <;> decide
      · split <;> decide
      · show 1 * _ ≤ _
        split <;> decide
      · have s1 := Same.new (o := .lst [V.int (i : Nat)]) hl1
        have s2 := Same.new (o := .lst (List.replicate (if decide (V.str txt = V.str "") = true then (1 : Int) else 0).toNat [V.int (i : Nat)]).flatten) hl2
        refine ⟨D, l2, _, _, rfl, rfl, SqL.of (s2 _ _ (s1 _ _ hDc)), upd_same, Nat.le_of_lt (small1000 ?_), fun l3 hl3 => ?_⟩
        · rw [List.length_map]
          split
          · show _ + 1 ≤ 1000
            omega
          · show _ + 0 ≤ 1000
            omega
        · have s3 := Same.new (o := .lst (nats (freeW ps m cc i) ++ (List.replicate (if decide (V.str txt = V.str "") = true then (1 : Int) else 0).toNat [V.int (i : Nat)]).flatten)) hl3
          have sA := s1.trans (s2.trans s3)
          refine ⟨l3, _, _, rfl, e7c.trans (LamX.ExtN.of sA), tc.ext sA, ?_⟩
          rw [upd_same, key, nats_app]
          cases decide (V.str txt = V.str "") <;> rfl
    · rintro σ H7 ⟨D, v3, v4, rfl, e7, t7, hD⟩
      exact ⟨_, rfl, k _ D e7 t7 hD⟩
end
end One
end P_W8

section P_W9
set_option linter.all false
set_option maxRecDepth 100000
set_option maxHeartbeats 8000000
namespace One
open PySem PySem.Spec PyProof.Rows L2
section
variable {X : Cx}
def rInDT (K : PySem.W.Frag) : R2 := fun x y H Q => ∃ d ds, Dp K H x d ∧ Dp K H y (.tuple ds) ∧ SeqAt.shaped d = true ∧ SeqAt.shaped (.list ds) = true ∧ Q (.bl (ds.any fun z => PyData.eqv z d)) H
theorem op_inDT (hu : X.A.units + 65 < cLine) : OpR X (compareOp .In) (rInDT X.K) := by
  intro pins s σ H x y v u Q I rx ry h
  obtain ⟨d, ds, hd, he, sd, se, q⟩ := h
  obtain ⟨as, r1⟩ := Dp.reads I d x v hd rx
  obtain ⟨bs, r2⟩ := Dp.reads I (.tuple ds) y u he ry
  exact SeqAt.in_tuple_reads r2 r1 (SeqAt.canLay_of_shaped se) (SeqAt.canLay_of_shaped sd) (room_in_shaped sd hu) ⟨.bl _, H, I, rfl, q⟩
end
/-- all but p and the tables stays -/
def XN (p : Addr) (H H' : Hp) : Prop := ∀ b o, b ≠ p → H b = some o → (∀ ps, o ≠ .tbl ps) → H' b = some o
theorem XN.trans {p : Addr} {H H1 H2 : Hp} (a : XN p H H1) (b : XN p H1 H2) : XN p H H2 := fun c o hc h n => b c o hc (a c o hc h n) n
theorem XN.ext {p : Addr} {H H' : Hp} (e : Ext p H H') : XN p H H' := fun b o hb h _ => e b o hb h
theorem XN.same {p : Addr} {H H' : Hp} (e : Same H H') : XN p H H' := fun b o hb h _ => e b o h
theorem XN.extN {p : Addr} {H H' : Hp} (e : LamX.ExtN H H') : XN p H H' := fun b o hb h n => e b o h n
theorem XN.tup {p c : Addr} {H H' : Hp} {n : Nat} (M : MS H p c n) (e : XN p H H') : ∀ b xs, H b = some (.tup xs) → H' b = some (.tup xs) := fun b xs h => by
  obtain ⟨cells, a, l, x, h1, _⟩ := M.ex
  exact e b _ (ne_of h h1 (by intro z; cases z)) h (fun ps z => by cases z)
theorem XN.lst {p c : Addr} {H H' : Hp} {n : Nat} (M : MS H p c n) (e : XN p H H') {b : Addr} {xs : List V} (h : H b = some (.lst xs)) : H' b = some (.lst xs) := e b _ (M.neL h) h (fun ps z => by cases z)
abbrev sDown : Stmt := top 43
abbrev nDown : List Str := ["m", "yard", "many", "kept", "ways", "crossing", "told", "k", "one"]
theorem scDown : FnScope nDown ["m", "yard"] (defScope sDown) := ⟨rfl, rfl, rfl, by decide +kernel, rfl, by decide +kernel, by decide +kernel⟩
def spDown (Pt : Addr) : Sp := fun vs H Q _ => ∃ (p c y : Addr) (n m : Nat) (ps : List (Nat × Nat)), vs = [.ref p, .ref y] ∧ MS H p c n ∧ n ≤ 800000 ∧ YAt H y m ps ∧ m ≤ 40 ∧ TbW Pt H ∧
  ∀ H', MS H' p c (n + 2 * m) → XN p H H' → TbW Pt H' → Q (.bl true) H'
/-- how many lines the yard in slot 1 has -/
def yLen (σ : L2.St) (H : Hp) : Nat := match (σ[1]? : Option (Option V)) with
  | some (some (V.ref a)) => (match H a with
    | some (.tup xs) => xs.length
    | _ => 0)
  | _ => 0
theorem yLen_of {p a : Addr} {r : L2.St} {H : Hp} {xs : List V} (h : H a = some (.tup xs)) : yLen (some (.ref p) :: some (.ref a) :: r) H = xs.length := by
  show (match H a with
    | some (.tup xs) => xs.length
    | _ => 0) = _
  rw [h]
theorem one_data {ps : List (Nat × Nat)} (Y : Yard 1 ps) : ([yd [(0, 1), (2, 3)], yd [(0, 2), (1, 3)], yd [(0, 3), (1, 2)]].any fun z => PyData.eqv z (yd ps)) = true := by
  rcases yard_one Y with rfl | rfl | rfl <;> decide +kernel
section
variable {P : Program} {w : World} {K : PySem.W.Frag} {mg : Str → Option Value} {base : Heap}
theorem ok_down {CL : Nat → Addr} {f Pt fW fD fS fI fC fN : Addr} {fd dW dD dS dI dC dN : FuncData} (F : Fun K "_law_down" "_law_down" sDown f fd) (T : TB mg)
    (cW : Cal K mg "_law_ways" fW dW ["yard", "crossing"]) (gW : FnG P w K mg base CX0 10 fW dW ["yard", "crossing"] (spWays Pt)) (cD : Cal K mg "_law_draw" fD dD ["m", "many"]) (gD : FnOk P w K mg base CX0 1 fD dD ["m", "many"] spDraw)
    (cS : Cal K mg "sewn_out" fS dS ["yard", "crossing", "way"]) (gS : FnOk P w K mg base (L2.CX P w) 7 fS dS ["yard", "crossing", "way"] (spSewn (CL 5) (CL 6))) (cI : Cal K mg "is_yard" fI dI ["thing"]) (gI : FnOk P w K mg base CX0 5 fI dI ["thing"] spIsYard)
    (cC : Cal K mg "crossings" fC dC ["yard"]) (gC : FnOk P w K mg base (L2.CX P w) 6 fC dC ["yard"] (spCross (CL 0))) (cN : Cal K mg "need_yard" fN dN ["thing"]) (gN : FnOk P w K mg base (L2.CX P w) 5 fN dN ["thing"] (spNeed (CL 0))) : FnG P w K mg base CX0 11 f fd ["m", "yard"] (spDown Pt) := by
  refine okG0 F scDown (fun vs H Q E h => ?_) (fun cdv A outer s H vs Q E hgd hr h => ?_)
  · obtain ⟨p, c, y, n, m, ps, rfl, _⟩ := h
    rfl
  · obtain ⟨p, c, y, n, m, ps, rfl, M, hn, hY, h40, t0, k⟩ := h
    have nd := scDown.nd
    have hu : (A.deeper (envOfC "_law_down" (defScope sDown) s.heap.objs.size f cdv)).units + 65 < cLine := by
      have := hr.un
      omega
    have rm : ∀ {j : Nat}, j ≤ 10 → Room j (A.deeper (envOfC "_law_down" (defScope sDown) s.heap.objs.size f cdv)) := fun h => hr.mono h
    have rp : ∀ {X' : Cx}, X'.A = A.deeper (envOfC "_law_down" (defScope sDown) s.heap.objs.size f cdv) → CallR X' (.builtin "repr") (rRepr X'.K) := fun e => cr_repr (by rw [e]; exact hgd) (by rw [e]; exact Nat.lt_of_succ_lt hu)
    refine ⟨_, pss_cons (ps_while PassesOwn.never (pt_cmpR op_gt (pe_callB call_len_seq (by rfl) T.len PySem.boot_len (pa_cons (pv 1) pa_nil)) pe_int (nomark _))
        (pss_cons (ps_par (i := 2) (j := 3) (by rfl) nd rfl rfl (by decide) rfl rfl (pa_cons (pe_op op_fdiv (pe_callB call_len_seq (by rfl) T.len PySem.boot_len (pa_cons (pv 1) pa_nil)) pe_int) (pa_cons (pe_callB (rp rfl) (by rfl) T.repr boot_repr (pa_cons (pv 1) pa_nil)) pa_nil)) (by rfl))
        (pss_cons (ps_setLc (i := 4) (own := [("k", 7)]) (g := gName 7) (tt := tYes) (te := tCall (spWays Pt) [] E0 (tCons (tVar 1) (tCons (tVar 7) tNil))) rfl nd rfl rfl (sw_true rfl rfl rfl (by decide +kernel)) (pi_range1 (by rfl) T.range (pa_cons (pv 2) pa_nil)) (blkOk_by (N := nDown) (sc := defScope sDown) (by decide +kernel))
            (fun _ _ _ _ _ => pg_name (i := 7) nd rfl (Or.inl rfl)) (fun _ _ _ _ _ => pts_nil) (fun _ _ _ _ _ => by exact (pe_callG gW (by exact hgd) (by exact hr) rfl cW.g cW.kp cW.b .nil pass0 (pa_cons (pv 1) (pa_cons (pv 7) pa_nil)))))
        (pss_cons (ps_if (pt_cmpR (op_neD (by exact Nat.lt_of_succ_lt hu)) (pe_lc (own := [("one", 8)]) (g := gName 8) (tt := tTest (tOp (rI0 fun i j => .bl (decide (i < j))) (tCB (rLen K) (tCons (tVar 8) tNil)) (tC (.int 2)))) (te := tVar 8) rfl nd (pi_list (pv 4)) (blkOk_by (N := nDown) (sc := defScope sDown) (by decide +kernel))
            (fun _ _ _ _ _ => pg_name (i := 8) nd rfl (Or.inl rfl)) (fun _ _ _ _ _ => pts_one (pt_cmpR op_lt (pe_callB call_len_seq (by rfl) T.len PySem.boot_len (pa_cons (pv 8) pa_nil)) pe_int (nomark _))) (fun _ _ _ _ _ => pv 8)) (pe_lst pa_nil) (nomark _)) (pss_one (ps_ret pe_bl)) pss_nil)
        (pss_cons (ps_set (i := 5) nd rfl (Or.inl rfl) (pe_call gD (rm (by decide)) rfl cD.g cD.kp cD.b .nil pass0 (pa_cons (pv 0) (pa_cons (pv 2) pa_nil))))
        (pss_cons (ps_set (i := 6) nd rfl (Or.inl rfl) (pe_call gS (rm (by decide)) rfl cS.g cS.kp cS.b .nil passL (pa_cons (pv 1) (pa_cons (pv 5) (pa_cons (pe_ix ix_list (pe_ix ix_list (pv 4) (pv 5) (fun _ _ => rfl))
            (pe_call gD (rm (by decide)) rfl cD.g cD.kp cD.b .nil pass0 (pa_cons (pv 0) (pa_cons (pe_callB call_len_seq (by rfl) T.len PySem.boot_len (pa_cons (pe_ix ix_list (pv 4) (pv 5) (fun _ _ => rfl)) pa_nil)) pa_nil))) (fun _ _ => rfl)) pa_nil)))))
        (pss_cons (ps_if (PW.pt (pw_or (pt_not (pt_val (pe_call gI (rm (by decide)) rfl cI.g cI.kp cI.b .nil pass0 (pa_cons (pv 6) pa_nil)))) (pw_or (pt_cmpR op_ne (pe_call gC (rm (by decide)) rfl cC.g cC.kp cC.b .nil passL (pa_cons (pv 6) pa_nil)) (pe_op op_sub (pv 2) pe_int) (nomark _))
            (pw_or1 (pt_cmpR op_ne (pe_callB (rp rfl) (by rfl) T.repr boot_repr (pa_cons (pv 1) pa_nil)) (pv 3) (nomark _)))))) (pss_one (ps_ret pe_bl)) pss_nil)
        (pss_one (ps_set (i := 1) nd rfl (Or.inr rfl) (pe_call gN (rm (by decide)) rfl cN.g cN.kp cN.b .nil passL (pa_cons (pv 6) pa_nil)))))))))))
      (pss_one (ps_ret (pe_cmpR (op_inDT (by exact hu)) (pv 1) (pe_tup (pa_cons (pe_tup (pa_cons (pe_tup (pa_cons pe_int (pa_cons pe_int pa_nil))) (pa_cons (pe_tup (pa_cons pe_int (pa_cons pe_int pa_nil))) pa_nil)))
        (pa_cons (pe_tup (pa_cons (pe_tup (pa_cons pe_int (pa_cons pe_int pa_nil))) (pa_cons (pe_tup (pa_cons pe_int (pa_cons pe_int pa_nil))) pa_nil)))
        (pa_cons (pe_tup (pa_cons (pe_tup (pa_cons pe_int (pa_cons pe_int pa_nil))) (pa_cons (pe_tup (pa_cons pe_int (pa_cons pe_int pa_nil))) pa_nil))) pa_nil)))) (by rfl)))), ?_⟩
    unfold tSeq
    refine while_by (fun σ H7 => ∃ (y' : Addr) (m' n' : Nat) (qs : List (Nat × Nat)) (v2 v3 v4 v5 v6 : Option V), σ = [some (.ref p), some (.ref y'), v2, v3, v4, v5, v6, none, none] ∧ MS H7 p c n' ∧ n' + 2 * m' ≤ n + 2 * m ∧ YAt H7 y' m' qs ∧ m' ≤ m ∧ TbW Pt H7 ∧ XN p H H7)
      yLen ⟨y, m, n, ps, none, none, none, none, none, rfl, M, Nat.le_refl _, hY, Nat.le_refl _, t0, fun b o _ e _ => e⟩ ?_ ?_
    · rintro σ H1 ⟨y', m', n', qs, v2, v3, v4, v5, v6, rfl, M1, hn1, hY1, hm1, t1, x1⟩
      obtain ⟨Y1, as, ht, hP⟩ := id hY1
      have hpos := Y1.pos
      have hlen : (refs as).length = 2 * m' := by rw [List.length_map, hP.len, Y1.lines.len]
      obtain ⟨sm, sl⟩ := yard_small Y1 (by omega)
      obtain ⟨f1, f2, f3, f4⟩ := yd_fine sm sl
      refine ⟨_, rfl, y', _, rfl, .inr (SqT.of ht), _, _, rfl, rfl, _, rfl, ?_⟩
      refine ite2 (fun hgt => ?_) (fun hle => ?_)
      · have h2 : 2 ≤ m' := by
          have := of_decide_eq_true hgt
          omega
        have e2 : (((refs as).length : Nat) : Int) / 2 = ((m' : Nat) : Int) := by rw [hlen]; omega
        refine ⟨_, rfl, y', _, rfl, .inr (SqT.of ht), _, _, rfl, rfl, ⟨by decide, by decide⟩, _, rfl, y', yd qs, rfl, dp_yd ht hP, f1, f2, f3, f4, _, _, rfl, ?_⟩
        dsimp only
        rw [e2]
        -- the ways at each crossing
        refine ⟨_, rfl, m', rfl, by omega, by omega, fun D hD => ?_⟩
        have sD := Same.new (o := .lst []) hD
        refine lc_it (walk_range (lo := 0) (n := ((m' : Nat) : Int).toNat)) (fun i H6 => ∃ ws : List Addr, H6 D = some (.lst (refs ws)) ∧ ws.length = i ∧ (∀ j l, ws[j]? = some l → H6 l = some (.lst (nats (freeW qs m' j 3)))) ∧ TbW Pt H6 ∧ LamX.ExtN H1 H6) ⟨[], upd_same, rfl, fun j l h => absurd h (by simp), t1.ext sD, LamX.ExtN.of sD⟩ (fun _ _ _ _ => trivial) ?_ ?_
        · rintro i x H6 H7 hi ⟨ws, hD6, hl6, hw6, t6, e6⟩ ⟨rfl, rfl⟩
          have hi : i < m' := by omega
          have ei : (0 : Int) + ((i : Nat) : Int) = ((i : Nat) : Int) := Int.zero_add _
          refine ⟨rfl, yes ⟨_, rfl, _, rfl, y', m', i, qs, (by show [V.ref y', V.int (0 + ((i : Nat) : Int))] = _; rw [ei]), hY1.mono (tupN e6), h2, by omega, hi, t6, fun H8 l e8 t8 hl8 => ?_⟩⟩
          have hD8 := lstN e8 hD6
          have nlD : l ≠ D := fun z => by
            rw [z, hD8] at hl8
            have := congrArg (fun o => match o with | some (HO.lst xs) => xs.head? | _ => none) hl8
            have hf := freeW_two Y1 h2 hi
            match hfw : freeW qs m' i 3, hf with
            | a :: r, _ =>
              rw [hfw] at hl8
              cases ws with
              | nil => cases hl8
              | cons b s => cases hl8
          refine ⟨_, hD8, small1000 (by rw [List.length_map]; omega), ws ++ [l], by rw [upd_same, refs_app]; rfl, by rw [List.length_append, hl6]; rfl, fun j l' hj => ?_, tabs_wr t8 hD8, extN_wr (LamX.ExtN.refl _) hD (e6.trans e8)⟩
          by_cases hjl : j < ws.length
          · rw [List.getElem?_append_left hjl] at hj
            have a := hw6 j l' hj
            have a8 := lstN e8 a
            have ne : l' ≠ D := fun z => by
              rw [z, hD6] at a
              have hf := freeW_two Y1 h2 (c := j) (by omega)
              match hfw : freeW qs m' j 3, hf with
              | b :: r, _ =>
                rw [hfw] at a
                cases ws with
                | nil => cases a
                | cons b s => cases a
            rw [upd_ne ne]
            exact a8
          · rw [List.getElem?_append_right (by omega)] at hj
            have ej : j = i := by
              have := (List.getElem?_eq_some_iff.mp hj).1
              rw [List.length_singleton] at this
              omega
            subst ej
            have : l' = l := List.mem_singleton.mp (List.mem_of_getElem? hj)
            subst this
            rw [upd_ne nlD]
            exact hl8
        · rintro H6 ⟨ws, hD6, hl6, hw6, t6, e6⟩
          have hl6 : ws.length = m' := by omega
          have M6 := M1.keepN e6
          have two : ∀ {j : Nat} {l : Addr}, ws[j]? = some l → 2 ≤ (freeW qs m' j 3).length := fun {j l} h => freeW_two Y1 h2 (by
            have := (List.getElem?_eq_some_iff.mp h).1
            omega)
          have nlw : (refs ws).length = ws.length := List.length_map _
          refine ⟨_, rfl, D, rfl, ⟨_, SqL.of hD6⟩, fun D2 hD2 => ?_⟩
          refine lc_it (walk_list (K := K) (a := D) (xs := refs ws)) (fun i H7 => H7 D2 = some (.lst []) ∧ Same H6 H7) ⟨upd_same, Same.new hD2⟩ (fun i H7 _ h => SqL.of (h.2 _ _ hD6)) ?_ ?_
          · rintro i x H7 H8 hi ⟨hD7, s7⟩ ⟨rfl, hx⟩
            obtain ⟨l, hl⟩ : ∃ l, ws[i]? = some l := by
              rw [List.getElem?_map] at hx
              cases e : ws[i]? with
              | none =>
                rw [e] at hx
                cases hx
              | some l => exact ⟨l, rfl⟩
            rw [List.getElem?_map, hl] at hx
            cases hx
            have := two hl
            have nn : (nats (freeW qs m' i 3)).length = (freeW qs m' i 3).length := List.length_map _
            refine ⟨rfl, _, rfl, l, _, rfl, .inl (SqL.of (s7 _ _ (hw6 i l hl))), _, _, rfl, rfl, _, rfl, ?_⟩
            dsimp only
            rw [decide_eq_false (by rw [nn]; omega)]
            exact iteF ⟨hD7, s7⟩
          rintro H7 ⟨hD7, s7⟩
          refine ⟨Nat.zero_le _, fun l0 hl0 => ?_⟩
          have s8 := Same.new (o := .lst []) hl0
          refine ⟨.list [], .list [], .lst (SqL.of (s8 _ _ hD7)) .nil, .lst (SqL.of upd_same) .nil, rfl, rfl, _, rfl, iteF ?_⟩
          have s68 := s7.trans s8
          have M8 := M6.keep s68
          refine ⟨_, rfl, _, rfl, p, c, n', m', rfl, M8, by omega, by omega, by omega, fun H9 r M9 B9 r0 r1 => ?_⟩
          obtain ⟨cr, rfl⟩ : ∃ j : Nat, r = (j : Nat) := ⟨r.toNat, by omega⟩
          have hcr : cr < m' := by omega
          obtain ⟨l, hl⟩ : ∃ l, ws[cr]? = some l := ⟨_, List.getElem?_eq_getElem (by omega)⟩
          have hD8 := s68 _ _ hD6
          have hl8 := s68 _ _ (hw6 cr l hl)
          have hD9 : H9 D = some (.lst (refs ws)) := (B9 D (M8.neL hD8)).trans hD8
          have hl9 : H9 l = some (.lst (nats (freeW qs m' cr 3))) := (B9 l (M8.neL hl8)).trans hl8
          have h2l := two hl
          have nn : (nats (freeW qs m' cr 3)).length = (freeW qs m' cr 3).length := List.length_map _
          have l3 := freeW_len qs m' cr 3
          refine ⟨_, rfl, _, rfl, _, rfl, _, rfl, D, _, _, .ref l, rfl, rfl, SqL.of hD9, ref_at hl, _, rfl, _, rfl, _, rfl, D, _, _, .ref l, rfl, rfl, SqL.of hD9, ref_at hl, l, _, rfl, .inl (SqL.of hl9), p, c, n' + 1, _, rfl, M9, by omega, by omega, by omega, fun Ha r2 Ma Ba r20 r21 => ?_⟩
          obtain ⟨j2, rfl⟩ : ∃ j : Nat, r2 = (j : Nat) := ⟨r2.toNat, by omega⟩
          obtain ⟨wy, hwy⟩ : ∃ w, (freeW qs m' cr 3)[j2]? = some w := ⟨_, List.getElem?_eq_getElem (by omega)⟩
          have hla : Ha l = some (.lst (nats (freeW qs m' cr 3))) := (Ba l (M9.neL hl9)).trans hl9
          obtain ⟨hw3, hwb⟩ := freeW_mem.mp (List.mem_of_getElem? hwy)
          refine ⟨l, _, _, .int (wy : Nat), rfl, rfl, SqL.of hla, at_of (j := j2) rfl (nats_at hwy), ?_⟩
          have x1a : XN p H1 Ha := (XN.extN e6).trans ((XN.same s68).trans ((XN.ext B9.ext).trans (XN.ext Ba.ext)))
          have hYa := hY1.mono (XN.tup M1 x1a)
          unfold tNil
          refine sewn_free hYa h2 (by omega) hcr hw3 (fun b => absurd b hwb) fun _ Hb t' bs sb ht' hP' => ?_
          have YL := left_yard Y1 h2 hcr hw3 hwb
          refine ⟨_, rfl, _, rfl, ?_⟩
          refine fault_good (n := m' - 1) ⟨YL, bs, ht', hP'⟩ (by omega) fun Hc sc => ⟨_, rfl, ite2 (fun hb => absurd hb (by simp)) (fun _ => ?_)⟩
          have hlen' : (refs bs).length = 2 * (m' - 1) := by rw [List.length_map, hP'.len, YL.lines.len]
          have htc := sc _ _ ht'
          have hPc := hP'.mono (sameT sc)
          refine ⟨_, rfl, _, rfl, ?_⟩
          refine fault_good (n := m' - 1) ⟨YL, bs, htc, hPc⟩ (by omega) fun Hd sd => .inl ⟨rfl, t', refs bs, rfl, sd _ _ htc, ?_⟩
          have e3 : V.int (((refs bs).length / 2 : Nat)) = V.int (((m' : Nat) : Int) - 1) := by
            rw [hlen']
            congr 1
            omega
          refine ⟨_, rfl, _, _, rfl, rfl, rfl, _, rfl, ite2 (fun hb => absurd hb (by rw [decide_eq_true e3]; decide)) (fun _ => ?_)⟩
          have sbd := sb.trans (sc.trans sd)
          have x1d := x1a.trans (XN.same sbd)
          refine ⟨_, rfl, y', yd qs, rfl, dp_yd (XN.tup M1 x1d _ _ ht) (hP.mono (XN.tup M1 x1d)), f1, f2, f3, f4, _, rfl, rfl, _, rfl, ite2 (fun hb => absurd hb (by simp)) (fun _ => ?_)⟩
          have htd := sd _ _ htc
          have hPd := hPc.mono (sameT sd)
          refine ⟨_, rfl, _, rfl, ?_⟩
          refine fault_good (n := m' - 1) ⟨YL, bs, htd, hPd⟩ (by omega) fun He se => .inl ⟨rfl, ?_⟩
          have hte := se _ _ htd
          refine ⟨⟨t', m' - 1, n' + 2, _, _, _, _, _, _, rfl, Ma.keep (sbd.trans se), by omega, ⟨YL, bs, hte, hPd.mono (sameT se)⟩, by omega, ?_, x1.trans (x1d.trans (XN.same se))⟩, ?_⟩
          · have t8 : TbW Pt _ := LamX.Tabs.ext t6 s68
            exact LamX.Tabs.ext (tabs_ext (tabs_ext t8 M8 B9.ext) M9 Ba.ext) (sbd.trans se)
          · show yLen (some (.ref p) :: some (.ref t') :: _) He < yLen (some (.ref p) :: some (.ref y') :: _) H1
            rw [yLen_of hte, yLen_of ht, hlen, hlen']
            omega
      · have hm1' : m' = 1 := by
          have : ¬ (2 : Int) < ((refs as).length : Nat) := fun z => hle (decide_eq_true z)
          omega
        subst hm1'
        refine ⟨_, rfl, two_le, fun q1 g1 => ⟨two_le, fun q2 g2 => ⟨two_le, fun q3 g3 => ⟨two_le, fun q4 g4 => ⟨two_le, fun q5 g5 => ⟨two_le, fun q6 g6 => ⟨two_le, fun q7 g7 => ⟨two_le, fun q8 g8 => ⟨two_le, fun q9 g9 => ⟨(by show 3 ≤ sizeLine; decide), fun q gq => ?_⟩⟩⟩⟩⟩⟩⟩⟩⟩⟩
        have z1 := Same.new (o := .tup [V.int 0, V.int 1]) g1
        have z2 := Same.new (o := .tup [V.int 2, V.int 3]) g2
        have z3 := Same.new (o := .tup [V.ref q1, V.ref q2]) g3
        have z4 := Same.new (o := .tup [V.int 0, V.int 2]) g4
        have z5 := Same.new (o := .tup [V.int 1, V.int 3]) g5
        have z6 := Same.new (o := .tup [V.ref q4, V.ref q5]) g6
        have z7 := Same.new (o := .tup [V.int 0, V.int 3]) g7
        have z8 := Same.new (o := .tup [V.int 1, V.int 2]) g8
        have z9 := Same.new (o := .tup [V.ref q7, V.ref q8]) g9
        have zq := Same.new (o := .tup [V.ref q3, V.ref q6, V.ref q9]) gq
        have w9 := z9.trans zq
        have w8 := z8.trans w9
        have w7 := z7.trans w8
        have w6 := z6.trans w7
        have w5 := z5.trans w6
        have w4 := z4.trans w5
        have w3 := z3.trans w4
        have w2 := z2.trans w3
        have wA := z1.trans w2
        have pr : ∀ {Hx : Hp} {t a b : Addr} {p1 p2 : Nat × Nat}, Hx t = some (.tup [.ref a, .ref b]) → PAt Hx a p1 → PAt Hx b p2 → Dp K Hx (.ref t) (yd [p1, p2]) := fun ht ha hb => dp_yd (as := [_, _]) ht (.cons ha (.cons hb .nil))
        have d1 := pr (w4 _ _ upd_same) (p1 := (0, 1)) (p2 := (2, 3)) (w2 _ _ upd_same) (w3 _ _ upd_same)
        have d2 := pr (w7 _ _ upd_same) (p1 := (0, 2)) (p2 := (1, 3)) (w5 _ _ upd_same) (w6 _ _ upd_same)
        have d3 := pr (zq _ _ upd_same) (p1 := (0, 3)) (p2 := (1, 2)) (w8 _ _ upd_same) (w9 _ _ upd_same)
        have hsh : SeqAt.shaped (yd qs) = true := by rcases yard_one Y1 with rfl | rfl | rfl <;> decide +kernel
        refine ⟨yd qs, [yd [(0, 1), (2, 3)], yd [(0, 2), (1, 3)], yd [(0, 3), (1, 2)]], dp_yd (wA _ _ ht) (hP.mono (sameT wA)), .tup (SqT.of upd_same) (.cons d1 (.cons d2 (.cons d3 .nil))), hsh, by decide +kernel, ?_⟩
        rw [one_data Y1]
        exact k _ ((M1.keep wA).lt (by omega) (by omega)) (x1.trans (XN.same wA)) (LamX.Tabs.ext t1 wA)
    · intro σ H1 Q1 Q2 hq h
      obtain ⟨v, e, p1, xs, e1, e2, i1, i2, e3, e4, kk, e5, q⟩ := h
      exact ⟨v, e, p1, xs, e1, e2, i1, i2, e3, e4, kk, e5, hq _ _ q⟩
end
end One
end P_W9

section P_WA
set_option linter.all false
set_option maxRecDepth 100000
set_option maxHeartbeats 8000000
namespace One
open PySem PySem.Spec PyProof.Rows L2
abbrev sLUp : Stmt := top 44
abbrev nLUp : List Str := ["m", "yard", "steps", "turn", "wide", "back", "due"]
theorem scLUp : FnScope nLUp ["m", "yard"] (defScope sLUp) := ⟨rfl, rfl, rfl, by decide +kernel, rfl, by decide +kernel, by decide +kernel⟩
/-- yards, each made of the one ahead by a crossing put across -/
structure Stp (H : Hp) (m : Nat) (ts : List Addr) (ys : List (List (Nat × Nat))) : Prop where
  len : ys.length = ts.length
  at_ : ∀ (i : Nat) (t : Addr), ts[i]? = some t → ∃ qs, ys[i]? = some qs ∧ YAt H t (m + i) qs
  put : ∀ (i : Nat) (qs rs : List (Nat × Nat)), ys[i]? = some qs → ys[i + 1]? = some rs → ∃ (j k : Nat) (a b : Nat × Nat), qs[j]? = some a ∧ qs[k]? = some b ∧ rs.Perm (putOn (m + i) qs j k a b)
theorem Stp.mono {H H' : Hp} {m : Nat} {ts : List Addr} {ys : List (List (Nat × Nat))} (s : Stp H m ts ys) (k : ∀ b xs, H b = some (.tup xs) → H' b = some (.tup xs)) : Stp H' m ts ys :=
  ⟨s.len, fun i t h => let ⟨qs, a, b⟩ := s.at_ i t h; ⟨qs, a, b.mono k⟩, s.put⟩
theorem Stp.snoc {H : Hp} {m : Nat} {us : List Addr} {t t' : Addr} {ys : List (List (Nat × Nat))} {qs rs : List (Nat × Nat)} {j k : Nat} {a b : Nat × Nat} (s : Stp H m (us ++ [t]) ys) (hq : ys[us.length]? = some qs) (hy : YAt H t' (m + us.length + 1) rs)
    (ha : qs[j]? = some a) (hb : qs[k]? = some b) (hp : rs.Perm (putOn (m + us.length) qs j k a b)) : Stp H m (us ++ [t] ++ [t']) (ys ++ [rs]) := by
  have l := s.len
  rw [List.length_append, List.length_singleton] at l
  have ltt : (us ++ [t]).length = us.length + 1 := by rw [List.length_append, List.length_singleton]
  refine ⟨by rw [List.length_append, List.length_append, s.len, List.length_singleton, List.length_singleton], fun i x h => ?_, fun i q r h1 h2 => ?_⟩
  · by_cases hi : i < (us ++ [t]).length
    · rw [List.getElem?_append_left hi] at h
      obtain ⟨q, e1, e2⟩ := s.at_ i x h
      exact ⟨q, by rw [List.getElem?_append_left (by omega)]; exact e1, e2⟩
    · rw [List.getElem?_append_right (by omega)] at h
      have e0 : i = us.length + 1 := by
        have := (List.getElem?_eq_some_iff.mp h).1
        rw [List.length_singleton] at this
        omega
      have ex : x = t' := List.mem_singleton.mp (List.mem_of_getElem? h)
      subst ex
      refine ⟨rs, ?_, by rw [e0]; exact hy⟩
      rw [List.getElem?_append_right (by omega), show i - ys.length = 0 by omega]
      rfl
  · by_cases hi : i + 1 < ys.length
    · rw [List.getElem?_append_left (by omega)] at h1
      rw [List.getElem?_append_left hi] at h2
      exact s.put i q r h1 h2
    · have hi2 := (List.getElem?_eq_some_iff.mp h2).1
      rw [List.length_append, List.length_singleton] at hi2
      have e0 : i = us.length := by omega
      subst e0
      rw [List.getElem?_append_left (by omega), hq] at h1
      rw [List.getElem?_append_right (by omega), show us.length + 1 - ys.length = 0 by omega] at h2
      cases h1
      cases (Option.some.inj h2 : rs = r)
      exact ⟨j, k, a, b, ha, hb, hp⟩
theorem cut_last {α : Type} (xs : List V) (v : V) : cutV (xs ++ [v]) none (some (-1)) = xs := by
  have hl : (xs ++ [v]).length = xs.length + 1 := by simp
  have e : HT.sIx (xs ++ [v]).length (xs ++ [v]).length (some (-1)) = xs.length := by
    rw [hl]
    unfold HT.sIx
    simp
    omega
  unfold cutV
  rw [e, HT.sIx_none]
  simp
def spLUp : Sp := fun vs H Q _ => ∃ (p c y : Addr) (n m : Nat) (ps : List (Nat × Nat)), vs = [.ref p, .ref y] ∧ MS H p c n ∧ n ≤ 800000 ∧ YAt H y m ps ∧ m ≤ 20 ∧
  ∀ H', MS H' p c (n + 27) → Ext p H H' → Q (.bl true) H'
section
variable {P : Program} {w : World} {K : PySem.W.Frag} {mg : Str → Option Value} {base : Heap}
theorem ok_upw {CL : Nat → Addr} {f fP fD fS fI : Addr} {fd dP dD dS dI : FuncData} (F : Fun K "_law_up" "_law_up" sLUp f fd) (T : TB mg)
    (cP : Cal K mg "put_across" fP dP ["yard", "line", "other"]) (gP : FnOk P w K mg base (L2.CX P w) 7 fP dP ["yard", "line", "other"] (spPut (CL 0) (CL 5) (CL 7))) (cD : Cal K mg "_law_draw" fD dD ["m", "many"]) (gD : FnOk P w K mg base CX0 1 fD dD ["m", "many"] spDraw)
    (cS : Cal K mg "sewn_out" fS dS ["yard", "crossing", "way"]) (gS : FnOk P w K mg base (L2.CX P w) 7 fS dS ["yard", "crossing", "way"] (spSewn (CL 5) (CL 6))) (cI : Cal K mg "is_yard" fI dI ["thing"]) (gI : FnOk P w K mg base CX0 5 fI dI ["thing"] spIsYard) : FnG P w K mg base CX0 8 f fd ["m", "yard"] spLUp := by
  refine okG0 F scLUp (fun vs H Q E h => ?_) (fun cdv A outer s H vs Q E hgd hr h => ?_)
  · obtain ⟨p, c, y, n, m, ps, rfl, _⟩ := h
    rfl
  · obtain ⟨p, c, y, n, m, ps, rfl, M, hn, hY, h20, k⟩ := h
    have nd := scLUp.nd
    have hu : (A.deeper (envOfC "_law_up" (defScope sLUp) s.heap.objs.size f cdv)).units + 64 < cLine := hr.units
    have rm : ∀ {j : Nat}, j ≤ 7 → Room j (A.deeper (envOfC "_law_up" (defScope sLUp) s.heap.objs.size f cdv)) := fun h => hr.mono h
    have rp : ∀ {X' : Cx}, X'.A = A.deeper (envOfC "_law_up" (defScope sLUp) s.heap.objs.size f cdv) → CallR X' (.builtin "repr") (rRepr X'.K) := fun e => cr_repr (by rw [e]; exact hgd) (by rw [e]; exact hu)
    refine ⟨_, pss_cons (ps_set (i := 2) nd rfl (Or.inl rfl) (pe_lst (pa_cons (pv 1) pa_nil)))
      (pss_cons (ps_for PassesOwn.never rfl (pi_range1 (by rfl) T.range (pa_cons (pe_op op_add pe_int (pe_call gD (rm (by decide)) rfl cD.g cD.kp cD.b .nil pass0 (pa_cons (pv 0) (pa_cons pe_int pa_nil)))) pa_nil)) (pg_name (i := 3) nd rfl (Or.inl rfl))
        (pss_cons (ps_set (i := 4) nd rfl (Or.inl rfl) (pe_callB call_len_seq (by rfl) T.len PySem.boot_len (pa_cons (pe_ix ix_list (pv 2) (pe_un un_neg pe_int) (fun _ _ => rfl)) pa_nil)))
        (pss_cons (ps_expr (pe_bm PySem.F.plainAttrs_list PySem.F.slot_list_append PySem.F.type_list_append mt_append (pv 2) (pa_cons (pe_call gP (rm (by decide)) rfl cP.g cP.kp cP.b .nil passL (pa_cons (pe_ix ix_list (pv 2) (pe_un un_neg pe_int) (fun _ _ => rfl))
            (pa_cons (pe_call gD (rm (by decide)) rfl cD.g cD.kp cD.b .nil pass0 (pa_cons (pv 0) (pa_cons (pv 4) pa_nil))) (pa_cons (pe_call gD (rm (by decide)) rfl cD.g cD.kp cD.b .nil pass0 (pa_cons (pv 0) (pa_cons (pv 4) pa_nil))) pa_nil)))) pa_nil)))
        (pss_one (ps_if (PW.pt (pw_or (pt_not (pt_val (pe_call gI (rm (by decide)) rfl cI.g cI.kp cI.b .nil pass0 (pa_cons (pe_ix ix_list (pv 2) (pe_un un_neg pe_int) (fun _ _ => rfl)) pa_nil))))
            (pw_or1 (pt_cmpR op_ne (pe_callB call_len_seq (by rfl) T.len PySem.boot_len (pa_cons (pe_ix ix_list (pv 2) (pe_un un_neg pe_int) (fun _ _ => rfl)) pa_nil)) (pe_op op_add (pv 4) pe_int) (nomark _))))) (pss_one (ps_ret pe_bl)) pss_nil)))))
      (pss_cons (ps_set (i := 5) nd rfl (Or.inl rfl) (pe_ix ix_list (pv 2) (pe_un un_neg pe_int) (fun _ _ => rfl)))
      (pss_cons (ps_for PassesOwn.never rfl (pi_list (pe_revL (pe_slice sl_list (pv 2) po_none (po_some (pe_un un_neg pe_int))))) (pg_name (i := 6) nd rfl (Or.inl rfl))
        (pss_cons (ps_set (i := 5) nd rfl (Or.inl rfl) (pe_call gS (rm (by decide)) rfl cS.g cS.kp cS.b .nil passL (pa_cons (pv 5) (pa_cons (pe_op op_fdiv (pe_callB call_len_seq (by rfl) T.len PySem.boot_len (pa_cons (pv 6) pa_nil)) pe_int) (pa_cons pe_int pa_nil)))))
        (pss_one (ps_if (pt_cmpR op_ne (pe_callB (rp rfl) (by rfl) T.repr boot_repr (pa_cons (pv 5) pa_nil)) (pe_callB (rp rfl) (by rfl) T.repr boot_repr (pa_cons (pv 6) pa_nil)) (nomark _)) (pss_one (ps_ret pe_bl)) pss_nil))))
      (pss_one (ps_ret pe_bl))))), ?_⟩
    obtain ⟨Y0, _⟩ := id hY
    have hpos := Y0.pos
    refine ⟨_, rfl, (by show 1 ≤ sizeLine; decide), fun S0 hS0 => ?_⟩
    have s0 := Same.new (o := .lst [V.ref y]) hS0
    have M0 := M.keep s0
    have hSc : S0 ≠ c := fun z => by
      obtain ⟨oc, hoc⟩ := M.cAt
      rw [z, hoc] at hS0
      cases hS0
    refine ⟨_, rfl, p, c, n, 13, rfl, M0, by omega, by decide, by decide, fun H1 r M1 B1 r0 r1 => ⟨_, _, rfl, rfl, ?_⟩⟩
    have e01 : Ext p H H1 := (Ext.same s0).trans B1.ext
    have hS1 : H1 S0 = some (.lst [V.ref y]) := (B1 S0 (M0.neL upd_same)).trans upd_same
    refine ⟨_, rfl, by omega, by omega, for_range (fun i σ H7 => ∃ (us : List Addr) (t : Addr) (ys : List (List (Nat × Nat))) (v3 v4 : Option V), σ = [some (.ref p), some (.ref y), some (.ref S0), v3, v4, none, none] ∧ us.length = i ∧ MS H7 p c (n + 1 + 2 * i) ∧ Ext p H H7 ∧ H7 S0 = some (.lst (refs (us ++ [t]))) ∧ Stp H7 m (us ++ [t]) ys)
      ⟨[], y, [ps], none, none, rfl, rfl, M1, e01, hS1, ⟨rfl, fun i t h => ?_, fun i qs rs h1 h2 => ?_⟩⟩ ?_ ?_⟩
    · cases i with
      | zero =>
        cases (Option.some.inj h : y = t)
        exact ⟨ps, rfl, hY.mono (tupK M e01)⟩
      | succ i => simp at h
    · simp at h2
    · rintro i σ H2 hi ⟨us, t, ys, v3, v4, rfl, hlu, M2, e2, hS, st⟩
      have hi13 : i < 14 := by omega
      have last : (us ++ [t])[us.length]? = some t := by
        rw [List.getElem?_append_right (Nat.le_refl _), Nat.sub_self]
        rfl
      obtain ⟨qs, hq, hYt⟩ := st.at_ _ _ last
      obtain ⟨Yq, as, ht, hP⟩ := id hYt
      have hlen : (refs as).length = 2 * (m + us.length) := by rw [List.length_map, hP.len, Yq.lines.len]
      have at1 : ∀ {vs : List Addr} {z : Addr}, atI (refs (vs ++ [z])) (-1) = some (V.ref z) := fun {vs z} => by
        rw [refs_app]
        exact atI_last _ _
      refine ⟨_, rfl, _, rfl, S0, _, _, .ref t, rfl, rfl, SqL.of hS, at1, t, _, rfl, .inr (SqT.of ht), ?_⟩
      refine ⟨_, rfl, .inl ⟨rfl, _, SqL.of hS⟩, _, rfl, _, rfl, S0, _, _, .ref t, rfl, rfl, SqL.of hS, at1, _, rfl, _, rfl, p, c, _, _, rfl, M2, by omega, by omega, by omega, fun H3 q1 M3 B3 q10 q11 => ?_⟩
      refine ⟨_, rfl, _, rfl, p, c, _, _, rfl, M3, by omega, by omega, by omega, fun H4 q2 M4 B4 q20 q21 => ?_⟩
      obtain ⟨j1, rfl⟩ : ∃ j : Nat, q1 = (j : Nat) := ⟨q1.toNat, by omega⟩
      obtain ⟨j2, rfl⟩ : ∃ j : Nat, q2 = (j : Nat) := ⟨q2.toNat, by omega⟩
      have e24 : Ext p H2 H4 := B3.ext.trans B4.ext
      obtain ⟨A1, hA⟩ : ∃ A1, qs[j1]? = some A1 := ⟨_, List.getElem?_eq_getElem (by rw [Yq.lines.len]; omega)⟩
      obtain ⟨A2, hB⟩ : ∃ A2, qs[j2]? = some A2 := ⟨_, List.getElem?_eq_getElem (by rw [Yq.lines.len]; omega)⟩
      unfold tNil
      refine put_ok (hYt.mono (tupK M2 e24)) (by omega) hA hB fun H5 t' bs T' s5 ht' hP' hp' hs' => ?_
      have YT := put_yard Yq hA hB hp' hs'
      have nS2 := M2.neL hS
      have hS4 : H4 S0 = some (.lst (refs (us ++ [t]))) := e24 _ _ nS2 hS
      have hS5 := s5 _ _ hS4
      have lus : (us ++ [t]).length = us.length + 1 := by rw [List.length_append, List.length_singleton]
      refine ⟨S0, _, _, rfl, rfl, hS5, small1000 (by rw [List.length_map, lus]; omega), ?_⟩
      have ntS : ∀ {b : Addr} {xs : List V}, H5 b = some (.tup xs) → (upd H5 S0 (.lst (refs (us ++ [t]) ++ [V.ref t']))) b = some (.tup xs) := fun h => (upd_ne (ne_of h hS5 (by intro z; cases z))).trans h
      have M6 : MS (upd H5 S0 (.lst (refs (us ++ [t]) ++ [V.ref t']))) p c (n + 1 + 2 * i + 1 + 1) := by
        have M5 := M4.keep s5
        exact M5.wr (M5.neL hS5) hSc
      have e26 : Ext p H (upd H5 S0 (.lst (refs (us ++ [t]) ++ [V.ref t']))) := (e2.trans (e24.trans (Ext.same s5))).wr hS0
      have k26 : ∀ b xs, H2 b = some (.tup xs) → (upd H5 S0 (.lst (refs (us ++ [t]) ++ [V.ref t']))) b = some (.tup xs) := fun b xs h => ntS (s5 _ _ (tupK M2 e24 _ _ h))
      have ht6 := ntS ht'
      have hP6 := hP'.mono fun b xs h => ntS h
      have hS6 : (upd H5 S0 (.lst (refs (us ++ [t]) ++ [V.ref t']))) S0 = some (.lst (refs (us ++ [t]) ++ [V.ref t'])) := upd_same
      generalize upd H5 S0 (.lst (refs (us ++ [t]) ++ [V.ref t'])) = H6 at M6 e26 k26 ht6 hP6 hS6
      have hlenT : (refs bs).length = 2 * (m + us.length + 1) := by rw [List.length_map, hP'.len, YT.lines.len]
      refine ⟨_, rfl, _, rfl, S0, _, _, .ref t', rfl, rfl, SqL.of hS6, atI_last _ _, _, rfl, ?_⟩
      refine fault_good (n := m + us.length + 1) ⟨YT, bs, ht6, hP6⟩ (by omega) fun Ha sa => ⟨_, rfl, ite2 (fun hb => absurd hb (by simp)) (fun _ => ?_)⟩
      have e3 : V.int ((refs bs).length : Nat) = V.int (((refs as).length : Nat) + 2) := by
        rw [hlenT, hlen]
        congr 1
      refine ⟨_, rfl, _, rfl, S0, _, _, .ref t', rfl, rfl, SqL.of (sa _ _ hS6), atI_last _ _, t', _, rfl, .inr (SqT.of (sa _ _ ht6)), _, rfl, _, _, rfl, rfl, rfl, _, rfl, ite2 (fun hb => absurd hb (by rw [decide_eq_true e3]; decide)) (fun _ => ?_)⟩
      refine ⟨us ++ [t], t', ys ++ [T'], _, _, rfl, by rw [lus, hlu], (M6.keep sa).lt (by omega) (by omega), e26.trans (Ext.same sa), ?_, ?_⟩
      · rw [refs_app (us ++ [t])]
        exact sa _ _ hS6
      · exact (st.mono fun b xs h => sa _ _ (k26 b xs h)).snoc hq ⟨YT, bs, sa _ _ ht6, hP6.mono (sameT sa)⟩ hA hB hp'
    · rintro σ H2 ⟨us, t, ys, v3, v4, rfl, hlu, M2, e2, hS, st⟩
      have hN : us.length ≤ 13 := by omega
      have at1 : atI (refs (us ++ [t])) (-1) = some (V.ref t) := by
        rw [refs_app]
        exact atI_last _ _
      have lus : (us ++ [t]).length = us.length + 1 := by rw [List.length_append, List.length_singleton]
      refine ⟨_, rfl, _, rfl, S0, _, _, .ref t, rfl, rfl, SqL.of hS, at1, ?_⟩
      refine ⟨_, rfl, _, rfl, _, rfl, S0, _, rfl, SqL.of hS, fun L1 hL1 => ?_⟩
      have z1 := Same.new (o := .lst (cutV (refs (us ++ [t])) none (some (-1)))) hL1
      refine ⟨L1, _, rfl, SqL.of upd_same, fun R hR => ?_⟩
      have ecut : cutV (refs (us ++ [t])) none (some (-1)) = refs us := by
        rw [refs_app]
        exact cut_last (α := V) _ _
      have z2 := Same.new (o := .lst (cutV (refs (us ++ [t])) none (some (-1))).reverse) hR
      have zA := z1.trans z2
      have hR2 : (upd (upd H2 L1 (.lst (cutV (refs (us ++ [t])) none (some (-1))))) R (.lst (cutV (refs (us ++ [t])) none (some (-1))).reverse)) R = some (.lst (refs us).reverse) := by
        rw [upd_same, ecut]
      have st2 := st.mono (sameT zA)
      have M3 := M2.keep zA
      have e3 := e2.trans (Ext.same zA)
      generalize upd (upd H2 L1 (.lst (cutV (refs (us ++ [t])) none (some (-1))))) R (.lst (cutV (refs (us ++ [t])) none (some (-1))).reverse) = H3 at hR2 st2 M3 e3
      have nlr : (refs us).reverse.length = us.length := by rw [List.length_reverse, List.length_map]
      have last : (us ++ [t])[us.length]? = some t := by
        rw [List.getElem?_append_right (Nat.le_refl _), Nat.sub_self]
        rfl
      refine ⟨R, rfl, ⟨_, SqL.of hR2⟩, for_list (K := K) (a := R) (xs := (refs us).reverse) (fun i σ H7 => ∃ (bk : Addr) (qs : List (Nat × Nat)) (v6 : Option V), σ = [some (.ref p), some (.ref y), some (.ref S0), v3, v4, some (.ref bk), v6] ∧ Same H3 H7 ∧ i ≤ us.length ∧ ys[us.length - i]? = some qs ∧ YAt H7 bk (m + (us.length - i)) qs)
        ?_ (fun i σ H7 _ ⟨_, _, _, _, h, _⟩ => SqL.of (h _ _ hR2)) ?_ ?_⟩
      · obtain ⟨qs, hq, hYt⟩ := st2.at_ _ _ last
        exact ⟨t, qs, none, rfl, fun b o e => e, Nat.zero_le _, hq, hYt⟩
      · rintro i x σ H7 hx ⟨bk, qs, v6, rfl, s7, hi, hq, hYb⟩
        have hil : i < us.length := by
          have := (List.getElem?_eq_some_iff.mp hx).1
          omega
        obtain ⟨t2, ht2⟩ : ∃ t2, us[us.length - 1 - i]? = some t2 := ⟨_, List.getElem?_eq_getElem (by omega)⟩
        have hx2 : x = .ref t2 := by
          rw [List.getElem?_reverse (by rw [List.length_map]; exact hil), List.length_map, List.getElem?_map, ht2] at hx
          exact (Option.some.inj hx).symm
        subst hx2
        have hi2 : us.length - i = us.length - 1 - i + 1 := by omega
        have ht3 : (us ++ [t])[us.length - 1 - i]? = some t2 := by
          rw [List.getElem?_append_left (by omega)]
          exact ht2
        obtain ⟨rs, hr, hYr⟩ := st2.at_ _ _ ht3
        rw [hi2] at hq
        obtain ⟨j, l, a, b, ha, hb, hp⟩ := st2.put _ _ _ hr hq
        obtain ⟨Yr, ar, htr, hPr⟩ := id hYr
        have hYr7 := hYr.mono (sameT s7)
        have htr7 := s7 _ _ htr
        have hlr : (refs ar).length = 2 * (m + (us.length - 1 - i)) := by rw [List.length_map, hPr.len, Yr.lines.len]
        have e2' : (((refs ar).length : Nat) : Int) / 2 = ((m + (us.length - 1 - i) : Nat) : Int) := by rw [hlr]; omega
        refine ⟨_, rfl, _, rfl, t2, _, rfl, .inr (SqT.of htr7), _, _, rfl, rfl, ⟨by decide, by decide⟩, ?_⟩
        dsimp only
        rw [e2']
        unfold tCons tC tNil
        dsimp only
        refine sewn_ok (n := m + (us.length - 1 - i)) (T := qs) (by rw [show m + (us.length - 1 - i) + 1 = m + (us.length - i) by omega]; exact hYb) Yr (by omega) ha hb hp fun H8 t8 as8 s8 ht8 hP8 => ?_
        obtain ⟨sm, sl⟩ := yard_small Yr (by omega)
        obtain ⟨f1, f2, f3, f4⟩ := yd_fine sm sl
        refine ⟨_, rfl, t8, yd rs, rfl, dp_yd ht8 hP8, f1, f2, f3, f4, _, rfl, t2, yd rs, rfl, dp_yd (s8 _ _ htr7) ((hPr.mono (sameT s7)).mono (sameT s8)), f1, f2, f3, f4, rfl, _, rfl, ite2 (fun hb => absurd hb (by simp)) (fun _ => ?_)⟩
        refine ⟨t8, rs, _, rfl, s7.trans s8, by omega, ?_, ?_⟩
        · rw [show us.length - (i + 1) = us.length - 1 - i by omega]
          exact hr
        · rw [show us.length - (i + 1) = us.length - 1 - i by omega]
          exact ⟨Yr, as8, ht8, hP8⟩
      · rintro σ H7 ⟨bk, qs, v6, rfl, s7, hi, hq, hYb⟩
        exact k _ ((M3.keep s7).lt (by omega) (by omega)) (e3.trans (Ext.same s7))
end
end One
end P_WA

section P_WB
set_option linter.all false
set_option maxRecDepth 100000
set_option maxHeartbeats 8000000
namespace One
open PySem PySem.Spec PyProof.Rows L2
abbrev sOne : Stmt := top 45
abbrev nOne : List Str := ["m", "yard", "many", "grown", "more"]
theorem scOne : FnScope nOne ["m", "yard"] (defScope sOne) := ⟨rfl, rfl, rfl, by decide +kernel, rfl, by decide +kernel, by decide +kernel⟩
def spOne : Sp := fun vs H Q _ => ∃ (p c y : Addr) (n m : Nat) (ps : List (Nat × Nat)), vs = [.ref p, .ref y] ∧ MS H p c n ∧ n ≤ 800000 ∧ YAt H y m ps ∧ m ≤ 20 ∧
  ∀ H', MS H' p c (n + 4) → Ext p H H' → Q (.bl true) H'
section
variable {P : Program} {w : World} {K : PySem.W.Frag} {mg : Str → Option Value} {base : Heap}
theorem ok_one {CL : Nat → Addr} {f fP fD fS : Addr} {fd dP dD dS : FuncData} (F : Fun K "_law_one_by_one" "_law_one_by_one" sOne f fd) (T : TB mg)
    (cP : Cal K mg "put_across" fP dP ["yard", "line", "other"]) (gP : FnOk P w K mg base (L2.CX P w) 7 fP dP ["yard", "line", "other"] (spPut (CL 0) (CL 5) (CL 7))) (cD : Cal K mg "_law_draw" fD dD ["m", "many"]) (gD : FnOk P w K mg base CX0 1 fD dD ["m", "many"] spDraw)
    (cS : Cal K mg "sewn_out" fS dS ["yard", "crossing", "way"]) (gS : FnOk P w K mg base (L2.CX P w) 7 fS dS ["yard", "crossing", "way"] (spSewn (CL 5) (CL 6))) : FnG P w K mg base CX0 8 f fd ["m", "yard"] spOne := by
  refine okG0 F scOne (fun vs H Q E h => ?_) (fun cdv A outer s H vs Q E hgd hr h => ?_)
  · obtain ⟨p, c, y, n, m, ps, rfl, _⟩ := h
    rfl
  · obtain ⟨p, c, y, n, m, ps, rfl, M, hn, hY, h20, k⟩ := h
    have nd := scOne.nd
    have hu : (A.deeper (envOfC "_law_one_by_one" (defScope sOne) s.heap.objs.size f cdv)).units + 64 < cLine := hr.units
    have rm : ∀ {j : Nat}, j ≤ 7 → Room j (A.deeper (envOfC "_law_one_by_one" (defScope sOne) s.heap.objs.size f cdv)) := fun h => hr.mono h
    have rp : ∀ {X' : Cx}, X'.A = A.deeper (envOfC "_law_one_by_one" (defScope sOne) s.heap.objs.size f cdv) → CallR X' (.builtin "repr") (rRepr X'.K) := fun e => cr_repr (by rw [e]; exact hgd) (by rw [e]; exact hu)
    refine ⟨_, pss_cons (ps_set (i := 2) nd rfl (Or.inl rfl) (pe_op op_fdiv (pe_callB call_len_seq (by rfl) T.len PySem.boot_len (pa_cons (pv 1) pa_nil)) pe_int))
      (pss_cons (ps_set (i := 3) nd rfl (Or.inl rfl) (pe_call gP (rm (by decide)) rfl cP.g cP.kp cP.b .nil passL (pa_cons (pv 1) (pa_cons (pe_call gD (rm (by decide)) rfl cD.g cD.kp cD.b .nil pass0 (pa_cons (pv 0) (pa_cons (pe_op op_mul pe_int (pv 2)) pa_nil)))
          (pa_cons (pe_call gD (rm (by decide)) rfl cD.g cD.kp cD.b .nil pass0 (pa_cons (pv 0) (pa_cons (pe_op op_mul pe_int (pv 2)) pa_nil))) pa_nil)))))
      (pss_cons (ps_set (i := 4) nd rfl (Or.inl rfl) (pe_call gP (rm (by decide)) rfl cP.g cP.kp cP.b .nil passL (pa_cons (pv 3) (pa_cons (pe_call gD (rm (by decide)) rfl cD.g cD.kp cD.b .nil pass0 (pa_cons (pv 0) (pa_cons (pe_op op_add (pe_op op_mul pe_int (pv 2)) pe_int) pa_nil)))
          (pa_cons (pe_call gD (rm (by decide)) rfl cD.g cD.kp cD.b .nil pass0 (pa_cons (pv 0) (pa_cons (pe_op op_add (pe_op op_mul pe_int (pv 2)) pe_int) pa_nil))) pa_nil)))))
      (pss_one (ps_ret (pe_cmpR op_eq (pe_callB (rp rfl) (by rfl) T.repr boot_repr (pa_cons (pe_call gS (rm (by decide)) rfl cS.g cS.kp cS.b .nil passL (pa_cons (pe_call gS (rm (by decide)) rfl cS.g cS.kp cS.b .nil passL (pa_cons (pv 4) (pa_cons (pv 2) (pa_cons pe_int pa_nil)))) (pa_cons (pv 2) (pa_cons pe_int pa_nil)))) pa_nil))
        (pe_callB (rp rfl) (by rfl) T.repr boot_repr (pa_cons (pv 1) pa_nil)) (nomark _)))))), ?_⟩
    obtain ⟨Y, as, ht, hP⟩ := id hY
    have hpos := Y.pos
    have hlen : (refs as).length = 2 * m := by rw [List.length_map, hP.len, Y.lines.len]
    have e2 : (((refs as).length : Nat) : Int) / 2 = ((m : Nat) : Int) := by rw [hlen]; omega
    refine ⟨_, rfl, y, _, rfl, .inr (SqT.of ht), _, _, rfl, rfl, ⟨by decide, by decide⟩, ?_⟩
    dsimp only
    rw [e2]
    refine ⟨_, rfl, _, rfl, _, rfl, _, _, rfl, rfl, .inl ⟨by decide, by decide⟩, p, c, n, _, rfl, M, by omega, by omega, by omega, fun H1 q1 M1 B1 q10 q11 => ?_⟩
    refine ⟨_, rfl, _, rfl, _, _, rfl, rfl, .inl ⟨by decide, by decide⟩, p, c, _, _, rfl, M1, by omega, by omega, by omega, fun H2 q2 M2 B2 q20 q21 => ?_⟩
    obtain ⟨j1, rfl⟩ : ∃ j : Nat, q1 = (j : Nat) := ⟨q1.toNat, by omega⟩
    obtain ⟨j2, rfl⟩ : ∃ j : Nat, q2 = (j : Nat) := ⟨q2.toNat, by omega⟩
    have e02 : Ext p H H2 := B1.ext.trans B2.ext
    obtain ⟨A1, hA⟩ : ∃ A1, ps[j1]? = some A1 := ⟨_, List.getElem?_eq_getElem (by rw [Y.lines.len]; omega)⟩
    obtain ⟨A2, hB⟩ : ∃ A2, ps[j2]? = some A2 := ⟨_, List.getElem?_eq_getElem (by rw [Y.lines.len]; omega)⟩
    unfold tNil
    refine put_ok (hY.mono (tupK M e02)) (by omega) hA hB fun H3 t1 bs T1 s3 ht1 hP1 hp1 hs1 => ?_
    have Y1 := put_yard Y hA hB hp1 hs1
    have M3 := M2.keep s3
    refine ⟨_, rfl, _, rfl, _, rfl, _, _, rfl, rfl, .inl ⟨by decide, by decide⟩, _, _, rfl, rfl, p, c, _, _, rfl, M3, by omega, by omega, by omega, fun H4 q3 M4 B4 q30 q31 => ?_⟩
    refine ⟨_, rfl, _, rfl, _, _, rfl, rfl, .inl ⟨by decide, by decide⟩, _, _, rfl, rfl, p, c, _, _, rfl, M4, by omega, by omega, by omega, fun H5 q4 M5 B5 q40 q41 => ?_⟩
    obtain ⟨j3, rfl⟩ : ∃ j : Nat, q3 = (j : Nat) := ⟨q3.toNat, by omega⟩
    obtain ⟨j4, rfl⟩ : ∃ j : Nat, q4 = (j : Nat) := ⟨q4.toNat, by omega⟩
    have e35 : Ext p H3 H5 := B4.ext.trans B5.ext
    obtain ⟨A3, hC⟩ : ∃ A3, T1[j3]? = some A3 := ⟨_, List.getElem?_eq_getElem (by rw [Y1.lines.len]; omega)⟩
    obtain ⟨A4, hD⟩ : ∃ A4, T1[j4]? = some A4 := ⟨_, List.getElem?_eq_getElem (by rw [Y1.lines.len]; omega)⟩
    have hY1 : YAt H3 t1 (m + 1) T1 := ⟨Y1, bs, ht1, hP1⟩
    refine put_ok (hY1.mono (tupK M3 e35)) (by omega) hC hD fun H6 t2 cs T2 s6 ht2 hP2 hp2 hs2 => ?_
    have Y2 : Yard (m + 2) T2 := put_yard Y1 hC hD hp2 hs2
    have hY2 : YAt H6 t2 (m + 2) T2 := ⟨Y2, cs, ht2, hP2⟩
    have f1 := free_first Y hA hB hp1 Y1 hC hD hp2 Y2
    have f2 := free_second Y hA hB hp1 Y1 hC hD hp2 Y2
    have f3 := both_out Y (by omega) hA hB hp1 Y1 hC hD hp2 Y2
    have YL : Yard (m + 1) (leftOf (behindF (far T2) m 1) m (4 * (m + 2))) := left_yard Y2 (by omega) (by omega) (by decide) f1
    refine ⟨_, rfl, _, rfl, ?_⟩
    unfold tCons tC
    dsimp only
    refine sewn_free (w := 1) hY2 (by omega) (by omega) (by omega) (by decide) (fun b => absurd b f1) fun _ H7 t7 as7 s7 ht7 hP7 => ?_
    refine ⟨_, rfl, ?_⟩
    refine sewn_free (w := 1) (m := m + 1) ⟨YL, as7, ht7, hP7⟩ (by omega) (by omega) (by omega) (by decide) (fun b => absurd b f2) fun _ H8 t8 as8 s8 ht8 hP8 => ?_
    rw [f3] at hP8
    obtain ⟨sm, sl⟩ := yard_small Y (by omega)
    obtain ⟨g1, g2, g3, g4⟩ := yd_fine sm sl
    have e08 : Ext p H H8 := e02.trans ((Ext.same s3).trans (e35.trans (Ext.same (s6.trans (s7.trans s8)))))
    have M8 := M5.keep (s6.trans (s7.trans s8))
    have k08 := tupK M e08
    refine ⟨t8, yd ps, rfl, dp_yd ht8 hP8, g1, g2, g3, g4, _, rfl, y, yd ps, rfl, dp_yd (k08 _ _ ht) (hP.mono k08), g1, g2, g3, g4, rfl, ?_⟩
    have e : decide (V.str (yd ps).shown = V.str (yd ps).shown) = true := decide_eq_true rfl
    show Q (V.bl (decide (V.str (yd ps).shown = V.str (yd ps).shown))) _
    rw [e]
    exact k _ (M8.lt (by omega) (by omega)) e08
end
end One
end P_WB

section P_WC
set_option linter.all false
set_option maxRecDepth 100000
set_option maxHeartbeats 8000000
namespace One
open PySem PySem.Spec PyProof.Rows L2
abbrev sLaw : Stmt := top 46
abbrev nLaw : List Str := ["script", "m", "turn", "yard"]
theorem scLaw : FnScope nLaw ["script"] (defScope sLaw) := ⟨rfl, rfl, rfl, by decide +kernel, rfl, by decide +kernel, by decide +kernel⟩
def spLaw (K : PySem.W.Frag) (Pt : Addr) : Sp := fun vs H Q _ => ∃ (a : Addr) (ns : List Int), vs = [.ref a] ∧ SqL K H a (ns.map V.int) ∧ ns.length ≤ 63 ∧ H Pt = some (.tbl #[]) ∧ ∀ H', Q (.bl true) H'
section
variable {P : Program} {w : World} {K : PySem.W.Frag} {mg : Str → Option Value} {base : Heap}
theorem ok_law {f c Pt fB fY fD fU fO : Addr} {fd dB dY dD dU dO : FuncData} (F : FunC K "law" "law" sLaw f fd c) (T : TB mg) (cB : Cal K mg "_law_begun" fB dB ["script"]) (gB : FnOk P w K mg base CX0 1 fB dB ["script"] (spBegun K))
    (cY : Cal K mg "_law_yard" fY dY ["m", "most"]) (gY : FnOk P w K mg base CX0 3 fY dY ["m", "most"] spYard) (cD : Cal K mg "_law_down" fD dD ["m", "yard"]) (gD : FnG P w K mg base CX0 11 fD dD ["m", "yard"] (spDown Pt))
    (cU : Cal K mg "_law_up" fU dU ["m", "yard"]) (gU : FnG P w K mg base CX0 8 fU dU ["m", "yard"] spLUp) (cO : Cal K mg "_law_one_by_one" fO dO ["m", "yard"]) (gO : FnG P w K mg base CX0 8 fO dO ["m", "yard"] spOne) : FnG P w K mg base CX0 12 f fd ["script"] (spLaw K Pt) := by
  refine okGC F scLaw (fun vs H Q E h => ?_) (fun A outer s H vs Q E hgd hr h => ?_)
  · obtain ⟨a, ns, rfl, _⟩ := h
    rfl
  · obtain ⟨a, ns, rfl, hS, hl, hPt, k⟩ := h
    have nd := scLaw.nd
    have rm : ∀ {j : Nat}, j ≤ 11 → Room j (A.deeper (envOfC "law" (defScope sLaw) s.heap.objs.size f (.ref c))) := fun h => hr.mono h
    refine ⟨_, pss_cons (ps_set (i := 1) nd rfl (Or.inl rfl) (pe_call gB (rm (by decide)) rfl cB.g cB.kp cB.b .nil pass0 (pa_cons (pv 0) pa_nil)))
      (pss_cons (ps_for PassesOwn.never rfl (pi_range1 (by rfl) T.range (pa_cons pe_int pa_nil)) (pg_name (i := 2) nd rfl (Or.inl rfl))
        (pss_cons (ps_set (i := 3) nd rfl (Or.inl rfl) (pe_call gY (rm (by decide)) rfl cY.g cY.kp cY.b .nil pass0 (pa_cons (pv 1) (pa_cons pe_int pa_nil))))
        (pss_one (ps_if (PW.pt (pw_or (pt_not (pt_val (pe_callG gD (by exact hgd) (rm (by decide)) rfl cD.g cD.kp cD.b .nil pass0 (pa_cons (pv 1) (pa_cons (pv 3) pa_nil))))) (pw_or (pt_not (pt_val (pe_callG gU (by exact hgd) (rm (by decide)) rfl cU.g cU.kp cU.b .nil pass0 (pa_cons (pv 1) (pa_cons (pv 3) pa_nil)))))
            (pw_or1 (pt_not (pt_val (pe_callG gO (by exact hgd) (rm (by decide)) rfl cO.g cO.kp cO.b .nil pass0 (pa_cons (pv 1) (pa_cons (pv 3) pa_nil))))))))) (pss_one (ps_ret pe_bl)) pss_nil))))
      (pss_one (ps_ret pe_bl))), ?_⟩
    refine ⟨_, rfl, a, ns, rfl, hS, hl, fun H0 p cc s0 hp M0 => ?_⟩
    have tabs0 : TbW Pt H0 := fun q hq => by
      rw [List.mem_singleton.mp hq]
      exact LamX.TabS.nil (s0 _ _ hPt)
    refine ⟨6, rfl, by decide, by decide, ?_⟩
    refine for_range (lo := 0) (n := (6 : Int).toNat) (fun i σ H' => ∃ v2 v3 : Option V, σ = [some (.ref a), some (.ref p), v2, v3] ∧ MS H' p cc (95 * i) ∧ TbW Pt H') ⟨none, none, rfl, M0, tabs0⟩ ?_ ?_
    · rintro i σ H1 hi ⟨v2, v3, rfl, M1, t1⟩
      have hi : i < 6 := hi
      refine ⟨_, rfl, p, cc, 95 * i, 7, rfl, M1, by omega, by decide, by decide, fun H2 y n ps M2 e2 hY hn7 => ?_⟩
      have t2 : TbW Pt H2 := tabs_ext t1 M1 e2
      refine ⟨_, rfl, _, rfl, p, cc, y, _, n, ps, rfl, M2, by omega, hY, by omega, t2, fun H3 M3 x3 t3 => ⟨_, rfl, iteF ?_⟩⟩
      have hY3 := hY.mono (XN.tup M2 x3)
      refine ⟨_, rfl, _, rfl, p, cc, y, _, n, ps, rfl, M3, by omega, hY3, by omega, fun H4 M4 e4 => ⟨_, rfl, iteF ?_⟩⟩
      have t4 : TbW Pt H4 := tabs_ext t3 M3 e4
      have hY4 := hY3.mono (tupK M3 e4)
      refine ⟨_, rfl, _, rfl, p, cc, y, _, n, ps, rfl, M4, by omega, hY4, by omega, fun H5 M5 e5 => ⟨_, rfl, iteF ?_⟩⟩
      exact ⟨_, _, rfl, M5.lt (by omega) (by omega), tabs_ext t4 M4 e5⟩
    · rintro σ H1 ⟨v2, v3, rfl, M1, t1⟩
      exact k _
end
end One
end P_WC

section P_H11
set_option linter.all false
set_option maxRecDepth 100000
set_option maxHeartbeats 16000000
namespace One
open PySem PySem.W PySem.Calls PyProof.Rows PySem.HandSPX L2
theorem all_mk {l : OpenLaw} {w : World} {K : Frag} {h : Heap} {mg : Str → Option Value} {fa RE C0 C1 C2 C3 C4 C5 C6 C7 i0 i5 i6 i7 : Addr} {f_law c_law : Addr} {t0 t1 t2 : Tok} {f_is_number f_is_below f_reached f_need_yard f_is_yard f_yard_fault f_can_be_many_lines f_is_line f_is_whole f_crossings_beside f_crossings f_fars_of_lines f_mate f_put_across f_sewn_out f_closes f_lines_left f_end_behind f_closed_up f_law_begun f_law_draw f_law_grown f_law_called f_law_yard f_law_refused f_law_ways f_law_down f_law_up f_law_one_by_one : Addr} {e_is_number e_is_below e_reached e_need_yard e_is_yard e_yard_fault e_can_be_many_lines e_is_line e_is_whole e_crossings_beside e_crossings e_fars_of_lines e_mate e_put_across e_sewn_out e_closes e_lines_left e_end_behind e_closed_up e_law_begun e_law_draw e_law_grown e_law_called e_law_yard e_law_refused e_law_down e_law_up e_law_one_by_one : FuncData} {oc kV doc pm ct : Value} {od an : Option Addr} {sl : Array (Option Value)}
    {co_law_ways P_law_ways : Addr} {oc_law_ways kV_law_ways doc_law_ways pm_law_ways ct_law_ways : Value} {od_law_ways an_law_ways : Option Addr} {sl_law_ways : Array (Option Value)}
    (X : K.In h) (G : h.Ns mainGlobals mg) (hfa : mg "law" = some (.ref fa))
    (tabs_law_ways : ∀ {c P : Addr}, tabIn K "_law_ways" = some (c, P) → CodeHd h c P ∧ h.get? P = some { cls := .none, data := .fields #[] })
    (z_len : nsIn K mainGlobals "len" = some none)
    (z_range : nsIn K mainGlobals "range" = some none)
    (z_tuple : nsIn K mainGlobals "tuple" = some none)
    (z_list : nsIn K mainGlobals "list" = some none)
    (z_sorted : nsIn K mainGlobals "sorted" = some none)
    (z_enumerate : nsIn K mainGlobals "enumerate" = some none)
    (z_isinstance : nsIn K mainGlobals "isinstance" = some none)
    (z_int : nsIn K mainGlobals "int" = some none)
    (z_bool : nsIn K mainGlobals "bool" = some none)
    (z_repr : nsIn K mainGlobals "repr" = some none)
    (z_all : nsIn K mainGlobals "all" = some none)
    (z_super : nsIn K mainGlobals "super" = some none)
    (z_ValueError : nsIn K mainGlobals "ValueError" = some none)
    (k_MOST_CROSSINGS : nsIn K mainGlobals "MOST_CROSSINGS" = some (some (.int 40 t0)))
    (k_PLACES : nsIn K mainGlobals "PLACES" = some (some (.int 4 t1)))
    (k_MANY_WAYS : nsIn K mainGlobals "MANY_WAYS" = some (some (.int 3 t2)))
    (d_is_number : DefAt K "is_number" (top 11) f_is_number e_is_number)
    (d_is_below : DefAt K "is_below" (top 12) f_is_below e_is_below)
    (d_reached : DefAt K "reached" (top 14) f_reached e_reached)
    (d_need_yard : DefAt K "need_yard" (top 19) f_need_yard e_need_yard)
    (d_is_yard : DefAt K "is_yard" (top 20) f_is_yard e_is_yard)
    (d_yard_fault : DefAt K "yard_fault" (top 21) f_yard_fault e_yard_fault)
    (d_can_be_many_lines : DefAt K "can_be_many_lines" (top 22) f_can_be_many_lines e_can_be_many_lines)
    (d_is_line : DefAt K "is_line" (top 23) f_is_line e_is_line)
    (d_is_whole : DefAt K "is_whole" (top 24) f_is_whole e_is_whole)
    (d_crossings_beside : DefAt K "crossings_beside" (top 25) f_crossings_beside e_crossings_beside)
    (d_crossings : DefAt K "crossings" (top 26) f_crossings e_crossings)
    (d_fars_of_lines : DefAt K "fars_of_lines" (top 27) f_fars_of_lines e_fars_of_lines)
    (d_mate : DefAt K "mate" (top 28) f_mate e_mate)
    (d_put_across : DefAt K "put_across" (top 29) f_put_across e_put_across)
    (d_sewn_out : DefAt K "sewn_out" (top 30) f_sewn_out e_sewn_out)
    (d_closes : DefAt K "closes" (top 31) f_closes e_closes)
    (d_lines_left : DefAt K "lines_left" (top 32) f_lines_left e_lines_left)
    (d_end_behind : DefAt K "end_behind" (top 33) f_end_behind e_end_behind)
    (d_closed_up : DefAt K "closed_up" (top 34) f_closed_up e_closed_up)
    (d_law_begun : DefAt K "_law_begun" (top 36) f_law_begun e_law_begun)
    (d_law_draw : DefAt K "_law_draw" (top 37) f_law_draw e_law_draw)
    (d_law_grown : DefAt K "_law_grown" (top 38) f_law_grown e_law_grown)
    (d_law_called : DefAt K "_law_called" (top 39) f_law_called e_law_called)
    (d_law_yard : DefAt K "_law_yard" (top 40) f_law_yard e_law_yard)
    (d_law_refused : DefAt K "_law_refused" (top 41) f_law_refused e_law_refused)
    (ns_law_ways : nsIn K mainGlobals "_law_ways" = some (some (.ref f_law_ways))) (lk_law_ways : K.lookup f_law_ways = some ⟨oc_law_ways, od_law_ways, .func (fnOf "_law_ways" "_law_ways" (defArgs (top 42)) (defBody (top 42)) (defScope (top 42)) .none kV_law_ways doc_law_ways pm_law_ways an_law_ways (.ref co_law_ways) ct_law_ways), sl_law_ways⟩) (cd_law_ways : codeIn K (.ref co_law_ways) "_law_ways" = true) (kp_law_ways : keepIn K (.ref f_law_ways) = true)
    (d_law_down : DefAt K "_law_down" (top 43) f_law_down e_law_down)
    (d_law_up : DefAt K "_law_up" (top 44) f_law_up e_law_up)
    (d_law_one_by_one : DefAt K "_law_one_by_one" (top 45) f_law_one_by_one e_law_one_by_one)
    (nRE : nsIn K mainGlobals "RoundError" = some (some (.ref RE))) (k0 : ClsAt l.prog K "BadYard" (initOf (top 2)) "place" C0 i0) (n1 : nsIn K mainGlobals "BadText" = some (some (.ref C1))) (n2 : nsIn K mainGlobals "BadEnd" = some (some (.ref C2))) (n3 : nsIn K mainGlobals "BadSetting" = some (some (.ref C3))) (n4 : nsIn K mainGlobals "BadDraft" = some (some (.ref C4))) (k5 : ClsAt l.prog K "OutOfPlace" (initOf (top 7)) "place" C5 i5) (k6 : ClsAt l.prog K "Barred" (initOf (top 8)) "way" C6 i6) (k7 : ClsAt l.prog K "TooMany" (initOf (top 9)) "many" C7 i7)
    (r6 : ErrC K (clsL C0 C1 C2 C3 C4 C5 C6 C7) RE 6)
    (lawNs : nsIn K mainGlobals "law" = some (some (.ref f_law))) (lawLk : K.lookup f_law = some ⟨oc, od, .func (fnOf "law" "law" (defArgs sLaw) (defBody sLaw) (defScope sLaw) .none kV doc pm an (.ref c_law) ct), sl⟩) (lawCd : codeIn K (.ref c_law) "law" = true)
    (tab_law_ways : tabIn K "_law_ways" = some (co_law_ways, P_law_ways)) (ntab_law_ways : K.lookup P_law_ways = none) : LawG l w K CX0 12 63 "script" mg fa h := by
  have e := hfa.symm.trans (mg_of X G lawNs)
  cases e
  obtain ⟨hd_law_ways, ht_law_ways⟩ := tabs_law_ways tab_law_ways
  have memC : ∀ p ∈ [(co_law_ways, P_law_ways)], p ∈ [(co_law_ways, P_law_ways)] := fun p hp => hp
  refine ⟨fnOf "law" "law" (defArgs sLaw) (defBody sLaw) (defScope sLaw) .none kV doc pm an (.ref c_law) ct, [(co_law_ways, P_law_ways)], spLaw K P_law_ways, (List.forall_mem_cons.mpr ⟨ht_law_ways, (fun p hp => absurd hp List.not_mem_nil)⟩), (List.forall_mem_cons.mpr ⟨ntab_law_ways, (fun p hp => absurd hp List.not_mem_nil)⟩), (List.forall_mem_cons.mpr ⟨hd_law_ways, (fun p hp => absurd hp List.not_mem_nil)⟩), fun s u => .of_eq rfl, fun H a ns hl _ hT hS => ⟨a, ns, rfl, hS, hl, hT _ (memC (co_law_ways, P_law_ways) (by simp)), fun _ => rfl⟩, fun base inB nsB tB => ?_⟩
  have no : ∀ {x : Str}, nsIn K mainGlobals x = some none → mg x = none := fun z => mg_none_of X G z
  have T : TB mg := ⟨no z_len, no z_range, no z_tuple, no z_list, no z_sorted, no z_enumerate, no z_isinstance, no z_int, no z_bool, no z_repr, no z_all⟩
  have TCo : TC mg := ⟨⟨_, mg_of X G k_MOST_CROSSINGS⟩, ⟨_, mg_of X G k_PLACES⟩⟩
  have noS : mg "super" = none := no z_super
  have tB_law_ways := tB _ (memC (co_law_ways, P_law_ways) (by simp))
  have c_is_number := d_is_number.cal (ps := ["thing"]) X G fun _ _ _ _ _ _ us hl => match us, hl with | [_], _ => rfl
  have c_is_below := d_is_below.cal (ps := ["thing", "many"]) X G fun _ _ _ _ _ _ us hl => match us, hl with | [_, _], _ => rfl
  have c_reached := d_reached.cal (ps := ["beside", "start"]) X G fun _ _ _ _ _ _ us hl => match us, hl with | [_, _], _ => rfl
  have c_need_yard := d_need_yard.cal (ps := ["thing"]) X G fun _ _ _ _ _ _ us hl => match us, hl with | [_], _ => rfl
  have c_is_yard := d_is_yard.cal (ps := ["thing"]) X G fun _ _ _ _ _ _ us hl => match us, hl with | [_], _ => rfl
  have c_yard_fault := d_yard_fault.cal (ps := ["thing"]) X G fun _ _ _ _ _ _ us hl => match us, hl with | [_], _ => rfl
  have c_can_be_many_lines := d_can_be_many_lines.cal (ps := ["many"]) X G fun _ _ _ _ _ _ us hl => match us, hl with | [_], _ => rfl
  have c_is_line := d_is_line.cal (ps := ["thing", "many_ends"]) X G fun _ _ _ _ _ _ us hl => match us, hl with | [_, _], _ => rfl
  have c_is_whole := d_is_whole.cal (ps := ["lines"]) X G fun _ _ _ _ _ _ us hl => match us, hl with | [_], _ => rfl
  have c_crossings_beside := d_crossings_beside.cal (ps := ["lines", "many"]) X G fun _ _ _ _ _ _ us hl => match us, hl with | [_, _], _ => rfl
  have c_crossings := d_crossings.cal (ps := ["yard"]) X G fun _ _ _ _ _ _ us hl => match us, hl with | [_], _ => rfl
  have c_fars_of_lines := d_fars_of_lines.cal (ps := ["lines"]) X G fun _ _ _ _ _ _ us hl => match us, hl with | [_], _ => rfl
  have c_mate := d_mate.cal (ps := ["end", "way"]) X G fun _ _ _ _ _ _ us hl => match us, hl with | [_, _], _ => rfl
  have c_put_across := d_put_across.cal (ps := ["yard", "line", "other"]) X G fun _ _ _ _ _ _ us hl => match us, hl with | [_, _, _], _ => rfl
  have c_sewn_out := d_sewn_out.cal (ps := ["yard", "crossing", "way"]) X G fun _ _ _ _ _ _ us hl => match us, hl with | [_, _, _], _ => rfl
  have c_closes := d_closes.cal (ps := ["fars", "crossing", "way"]) X G fun _ _ _ _ _ _ us hl => match us, hl with | [_, _, _], _ => rfl
  have c_lines_left := d_lines_left.cal (ps := ["fars", "crossing", "way"]) X G fun _ _ _ _ _ _ us hl => match us, hl with | [_, _, _], _ => rfl
  have c_end_behind := d_end_behind.cal (ps := ["fars", "end", "crossing", "way"]) X G fun _ _ _ _ _ _ us hl => match us, hl with | [_, _, _, _], _ => rfl
  have c_closed_up := d_closed_up.cal (ps := ["end", "crossing"]) X G fun _ _ _ _ _ _ us hl => match us, hl with | [_, _], _ => rfl
  have c_law_begun := d_law_begun.cal (ps := ["script"]) X G fun _ _ _ _ _ _ us hl => match us, hl with | [_], _ => rfl
  have c_law_draw := d_law_draw.cal (ps := ["m", "many"]) X G fun _ _ _ _ _ _ us hl => match us, hl with | [_, _], _ => rfl
  have c_law_grown := d_law_grown.cal (ps := ["m", "many"]) X G fun _ _ _ _ _ _ us hl => match us, hl with | [_, _], _ => rfl
  have c_law_called := d_law_called.cal (ps := ["m", "many"]) X G fun _ _ _ _ _ _ us hl => match us, hl with | [_, _], _ => rfl
  have c_law_yard := d_law_yard.cal (ps := ["m", "most"]) X G fun _ _ _ _ _ _ us hl => match us, hl with | [_, _], _ => rfl
  have c_law_refused := d_law_refused.cal (ps := ["deed"]) X G fun _ _ _ _ _ _ us hl => match us, hl with | [_], _ => rfl
  have fn_law_ways : FunC K "_law_ways" "_law_ways" (top 42) f_law_ways _ co_law_ways := ⟨_, _, _, _, _, _, _, _, rfl, lk_law_ways, cd_law_ways⟩
  have d_law_ways := def_at (st := top 42) ns_law_ways lk_law_ways cd_law_ways kp_law_ways
  have c_law_ways := d_law_ways.cal (ps := ["yard", "crossing"]) X G fun _ _ _ _ _ _ us hl => match us, hl with | [_, _], _ => rfl
  have c_law_down := d_law_down.cal (ps := ["m", "yard"]) X G fun _ _ _ _ _ _ us hl => match us, hl with | [_, _], _ => rfl
  have c_law_up := d_law_up.cal (ps := ["m", "yard"]) X G fun _ _ _ _ _ _ us hl => match us, hl with | [_, _], _ => rfl
  have c_law_one_by_one := d_law_one_by_one.cal (ps := ["m", "yard"]) X G fun _ _ _ _ _ _ us hl => match us, hl with | [_, _], _ => rfl
  have Nm : ErrN mg (clsL C0 C1 C2 C3 C4 C5 C6 C7) RE := ⟨mg_of X G nRE, mg_of X G k0.ns, mg_of X G n1, mg_of X G n2, mg_of X G n3, mg_of X G n4, mg_of X G k5.ns, mg_of X G k6.ns, mg_of X G k7.ns, no z_ValueError⟩
  have G_is_number := ok_isnum (P := l.prog) (w := w) (base := base) d_is_number.fn T
  have G_is_below := ok_isbelow d_is_below.fn c_is_number G_is_number
  have G_can := ok_canbe (P := l.prog) (w := w) (base := base) d_can_be_many_lines.fn T TCo
  have G_is_line := ok_isline d_is_line.fn T c_is_below G_is_below
  have G_reached := ok_reached (P := l.prog) (w := w) (base := base) d_reached.fn T
  have G_beside := ok_besideX (P := l.prog) (w := w) (base := base) d_crossings_beside.fn T TCo
  have G_whole := ok_iswhole d_is_whole.fn T c_reached G_reached c_crossings_beside G_beside
  have G_fault := ok_fault d_yard_fault.fn T c_can_be_many_lines G_can c_is_line G_is_line c_is_whole G_whole
  have G_isyard := ok_isyard d_is_yard.fn c_yard_fault G_fault
  have G_need := ok_need d_need_yard.fn k0.own (k0.cls X G) noS c_yard_fault G_fault
  have G_cross := ok_cross d_crossings.fn T c_need_yard G_need
  have G_fars := ok_fars (P := l.prog) (w := w) (base := base) d_fars_of_lines.fn T
  have G_mate := ok_mate (P := l.prog) (w := w) (mg := mg) (base := base) d_mate.fn
  have G_up := ok_up (P := l.prog) (w := w) (base := base) d_closed_up.fn TCo
  have G_behind := ok_behind d_end_behind.fn TCo c_mate G_mate
  have G_closes := ok_closes d_closes.fn T TCo c_mate G_mate
  have G_left := ok_left d_lines_left.fn T TCo c_end_behind G_behind c_closed_up G_up
  have G_put := ok_put d_put_across.fn T TCo k5.own (k5.cls X G) k7.own (k7.cls X G) noS c_crossings G_cross c_is_below G_is_below
  have G_sewn := ok_sewn d_sewn_out.fn ⟨_, mg_of X G k_MANY_WAYS⟩ k5.own (k5.cls X G) k6.own (k6.cls X G) noS c_crossings G_cross c_is_below G_is_below c_fars_of_lines G_fars c_closes G_closes c_lines_left G_left c_is_whole G_whole
  have G_begun := ok_begun (P := l.prog) (w := w) (base := base) d_law_begun.fn T
  have G_draw := ok_draw (P := l.prog) (w := w) (base := base) d_law_draw.fn T
  have G_grown := ok_grown d_law_grown.fn T c_law_draw G_draw
  have G_called := ok_called d_law_called.fn T c_law_draw G_draw
  have G_yard := ok_yard d_law_yard.fn T c_law_draw G_draw c_law_grown G_grown c_law_called G_called
  have G_ways := ok_ways (CL := clsL C0 C1 C2 C3 C4 C5 C6 C7) fn_law_ways T tB_law_ways Nm r6 d_law_refused.fn c_law_refused c_sewn_out G_sewn
  have G_down := ok_down (CL := clsL C0 C1 C2 C3 C4 C5 C6 C7) d_law_down.fn T c_law_ways G_ways c_law_draw G_draw c_sewn_out G_sewn c_is_yard G_isyard c_crossings G_cross c_need_yard G_need
  have G_lup := ok_upw (CL := clsL C0 C1 C2 C3 C4 C5 C6 C7) d_law_up.fn T c_put_across G_put c_law_draw G_draw c_sewn_out G_sewn c_is_yard G_isyard
  have G_one := ok_one (CL := clsL C0 C1 C2 C3 C4 C5 C6 C7) d_law_one_by_one.fn T c_put_across G_put c_law_draw G_draw c_sewn_out G_sewn
  exact ok_law ⟨_, _, _, _, _, _, _, _, rfl, lawLk, lawCd⟩ T c_law_begun G_begun c_law_yard G_yard c_law_down G_down c_law_up G_lup c_law_one_by_one G_one
end One
end P_H11

open PySem PySem.W PyProof.Rows in
set_option maxRecDepth 100000 in
set_option maxHeartbeats 0 in
theorem PySem.Challenge.cw_oneround_k08_whole_sewn_down_and_grown_holds : PySem.Challenge.rw_oneround_k08_whole_sewn_down_and_grown.Holds := by
  w_on; o_law; k_head; (case hw => w_witness2)
  k_fill
  refine One.walkGX (l := PySem.Challenge.rw_oneround_k08_whole_sewn_down_and_grown) (n := 63) (k := 12) (CX := fun _ => L2.CX0) (x := "script") rfl (by decide) rfl ⟨rfl, by decide, by decide⟩ (fun w h Y => PySem.W.km_in_of Y) ?F (fun _ _ _ _ _ z => z)
  case F =>
    intro w mg fa h Y KX G hmg tabs
    refine' One.all_mk KX G hmg (tabs (x := "_law_ways") (by rfl)) ?z_len ?z_range ?z_tuple ?z_list ?z_sorted ?z_enumerate ?z_isinstance ?z_int ?z_bool ?z_repr ?z_all ?z_super ?z_ValueError ?k_MOST_CROSSINGS ?k_PLACES ?k_MANY_WAYS ?d_is_number ?d_is_below ?d_reached ?d_need_yard ?d_is_yard ?d_yard_fault ?d_can_be_many_lines ?d_is_line ?d_is_whole ?d_crossings_beside ?d_crossings ?d_fars_of_lines ?d_mate ?d_put_across ?d_sewn_out ?d_closes ?d_lines_left ?d_end_behind ?d_closed_up ?d_law_begun ?d_law_draw ?d_law_grown ?d_law_called ?d_law_yard ?d_law_refused ?ns_law_ways ?lk_law_ways ?cd_law_ways ?kp_law_ways ?d_law_down ?d_law_up ?d_law_one_by_one ?nRE ?k0 ?n1 ?n2 ?n3 ?n4 ?k5 ?k6 ?k7 ?r6 ?lawNs ?lawLk ?lawCd ?tab_law_ways ?ntab_law_ways
    (case z_len => k_is)
    (case z_range => k_is)
    (case z_tuple => k_is)
    (case z_list => k_is)
    (case z_sorted => k_is)
    (case z_enumerate => k_is)
    (case z_isinstance => k_is)
    (case z_int => k_is)
    (case z_bool => k_is)
    (case z_repr => k_is)
    (case z_all => k_is)
    (case z_super => k_is)
    (case z_ValueError => k_is)
    (case k_MOST_CROSSINGS => k_is)
    (case k_PLACES => k_is)
    (case k_MANY_WAYS => k_is)
    (case d_is_number => refine' One.def_at ?a ?l ?c ?k; (case a => k_is); (case l => k_is); (case c => k_is); (case k => k_is))
    (case d_is_below => refine' One.def_at ?a ?l ?c ?k; (case a => k_is); (case l => k_is); (case c => k_is); (case k => k_is))
    (case d_reached => refine' One.def_at ?a ?l ?c ?k; (case a => k_is); (case l => k_is); (case c => k_is); (case k => k_is))
    (case d_need_yard => refine' One.def_at ?a ?l ?c ?k; (case a => k_is); (case l => k_is); (case c => k_is); (case k => k_is))
    (case d_is_yard => refine' One.def_at ?a ?l ?c ?k; (case a => k_is); (case l => k_is); (case c => k_is); (case k => k_is))
    (case d_yard_fault => refine' One.def_at ?a ?l ?c ?k; (case a => k_is); (case l => k_is); (case c => k_is); (case k => k_is))
    (case d_can_be_many_lines => refine' One.def_at ?a ?l ?c ?k; (case a => k_is); (case l => k_is); (case c => k_is); (case k => k_is))
    (case d_is_line => refine' One.def_at ?a ?l ?c ?k; (case a => k_is); (case l => k_is); (case c => k_is); (case k => k_is))
    (case d_is_whole => refine' One.def_at ?a ?l ?c ?k; (case a => k_is); (case l => k_is); (case c => k_is); (case k => k_is))
    (case d_crossings_beside => refine' One.def_at ?a ?l ?c ?k; (case a => k_is); (case l => k_is); (case c => k_is); (case k => k_is))
    (case d_crossings => refine' One.def_at ?a ?l ?c ?k; (case a => k_is); (case l => k_is); (case c => k_is); (case k => k_is))
    (case d_fars_of_lines => refine' One.def_at ?a ?l ?c ?k; (case a => k_is); (case l => k_is); (case c => k_is); (case k => k_is))
    (case d_mate => refine' One.def_at ?a ?l ?c ?k; (case a => k_is); (case l => k_is); (case c => k_is); (case k => k_is))
    (case d_put_across => refine' One.def_at ?a ?l ?c ?k; (case a => k_is); (case l => k_is); (case c => k_is); (case k => k_is))
    (case d_sewn_out => refine' One.def_at ?a ?l ?c ?k; (case a => k_is); (case l => k_is); (case c => k_is); (case k => k_is))
    (case d_closes => refine' One.def_at ?a ?l ?c ?k; (case a => k_is); (case l => k_is); (case c => k_is); (case k => k_is))
    (case d_lines_left => refine' One.def_at ?a ?l ?c ?k; (case a => k_is); (case l => k_is); (case c => k_is); (case k => k_is))
    (case d_end_behind => refine' One.def_at ?a ?l ?c ?k; (case a => k_is); (case l => k_is); (case c => k_is); (case k => k_is))
    (case d_closed_up => refine' One.def_at ?a ?l ?c ?k; (case a => k_is); (case l => k_is); (case c => k_is); (case k => k_is))
    (case d_law_begun => refine' One.def_at ?a ?l ?c ?k; (case a => k_is); (case l => k_is); (case c => k_is); (case k => k_is))
    (case d_law_draw => refine' One.def_at ?a ?l ?c ?k; (case a => k_is); (case l => k_is); (case c => k_is); (case k => k_is))
    (case d_law_grown => refine' One.def_at ?a ?l ?c ?k; (case a => k_is); (case l => k_is); (case c => k_is); (case k => k_is))
    (case d_law_called => refine' One.def_at ?a ?l ?c ?k; (case a => k_is); (case l => k_is); (case c => k_is); (case k => k_is))
    (case d_law_yard => refine' One.def_at ?a ?l ?c ?k; (case a => k_is); (case l => k_is); (case c => k_is); (case k => k_is))
    (case d_law_refused => refine' One.def_at ?a ?l ?c ?k; (case a => k_is); (case l => k_is); (case c => k_is); (case k => k_is))
    (case ns_law_ways => k_is)
    (case lk_law_ways => k_is)
    (case cd_law_ways => k_is)
    (case kp_law_ways => k_is)
    (case d_law_down => refine' One.def_at ?a ?l ?c ?k; (case a => k_is); (case l => k_is); (case c => k_is); (case k => k_is))
    (case d_law_up => refine' One.def_at ?a ?l ?c ?k; (case a => k_is); (case l => k_is); (case c => k_is); (case k => k_is))
    (case d_law_one_by_one => refine' One.def_at ?a ?l ?c ?k; (case a => k_is); (case l => k_is); (case c => k_is); (case k => k_is))
    (case nRE => k_is)
    (case k0 => refine' One.cls_at ?ns ?xL ?al ?sa ?noF ?veB ?slf ?op ?tp ?sh ?iC ?l1 ?c1 ?lc ?hvs ?hfile ?lcc ?tC ?kC ?exC ?tyC; (case ns => k_is); (case xL => k_is); (case al => refine' One.al_of ?xR ?fR; (case xR => k_is); (case fR => k_is)); (case sa => k_is); (case noF => k_is); (case veB => k_is); (case slf => k_is); (case op => k_is); (case tp => rfl); (case sh => exact One.shape0); (case iC => k_is); (case l1 => k_is); (case c1 => k_is); (case lc => k_is); (case hvs => first | rfl | k_is); (case hfile => first | rfl | decide +kernel | k_is); (case lcc => k_is); (case tC => k_is); (case kC => k_is); (case exC => k_is); (case tyC => k_is))
    (case n1 => k_is)
    (case n2 => k_is)
    (case n3 => k_is)
    (case n4 => k_is)
    (case k5 => refine' One.cls_at ?ns ?xL ?al ?sa ?noF ?veB ?slf ?op ?tp ?sh ?iC ?l1 ?c1 ?lc ?hvs ?hfile ?lcc ?tC ?kC ?exC ?tyC; (case ns => k_is); (case xL => k_is); (case al => refine' One.al_of ?xR ?fR; (case xR => k_is); (case fR => k_is)); (case sa => k_is); (case noF => k_is); (case veB => k_is); (case slf => k_is); (case op => k_is); (case tp => rfl); (case sh => exact One.shape5); (case iC => k_is); (case l1 => k_is); (case c1 => k_is); (case lc => k_is); (case hvs => first | rfl | k_is); (case hfile => first | rfl | decide +kernel | k_is); (case lcc => k_is); (case tC => k_is); (case kC => k_is); (case exC => k_is); (case tyC => k_is))
    (case k6 => refine' One.cls_at ?ns ?xL ?al ?sa ?noF ?veB ?slf ?op ?tp ?sh ?iC ?l1 ?c1 ?lc ?hvs ?hfile ?lcc ?tC ?kC ?exC ?tyC; (case ns => k_is); (case xL => k_is); (case al => refine' One.al_of ?xR ?fR; (case xR => k_is); (case fR => k_is)); (case sa => k_is); (case noF => k_is); (case veB => k_is); (case slf => k_is); (case op => k_is); (case tp => rfl); (case sh => exact One.shape6); (case iC => k_is); (case l1 => k_is); (case c1 => k_is); (case lc => k_is); (case hvs => first | rfl | k_is); (case hfile => first | rfl | decide +kernel | k_is); (case lcc => k_is); (case tC => k_is); (case kC => k_is); (case exC => k_is); (case tyC => k_is))
    (case k7 => refine' One.cls_at ?ns ?xL ?al ?sa ?noF ?veB ?slf ?op ?tp ?sh ?iC ?l1 ?c1 ?lc ?hvs ?hfile ?lcc ?tC ?kC ?exC ?tyC; (case ns => k_is); (case xL => k_is); (case al => refine' One.al_of ?xR ?fR; (case xR => k_is); (case fR => k_is)); (case sa => k_is); (case noF => k_is); (case veB => k_is); (case slf => k_is); (case op => k_is); (case tp => rfl); (case sh => exact One.shape7); (case iC => k_is); (case l1 => k_is); (case c1 => k_is); (case lc => k_is); (case hvs => first | rfl | k_is); (case hfile => first | rfl | decide +kernel | k_is); (case lcc => k_is); (case tC => k_is); (case kC => k_is); (case exC => k_is); (case tyC => k_is))
    (case r6 => refine' One.err6 ?hg ?hk ?hs ?hd ?ha ?hn ?ht ?hm ?no ?q0 ?q1 ?q2 ?q3 ?q4 ?q5 ?q6 ?q7 ?ve ?u1 ?u2 ?u3 ?u4; (case hg => k_is); (case hk => k_is); (case hs => k_is); (case hd => k_is); (case ha => k_is); (case hn => k_is); (case ht => k_is); (case hm => k_is); (case no => k_is); (case q0 => first | k_is | kit_is); (case q1 => first | k_is | kit_is); (case q2 => first | k_is | kit_is); (case q3 => first | k_is | kit_is); (case q4 => first | k_is | kit_is); (case q5 => first | k_is | kit_is); (case q6 => first | k_is | kit_is); (case q7 => first | k_is | kit_is); (case ve => first | k_is | kit_is); (case u1 => k_is); (case u2 => k_is); (case u3 => k_is); (case u4 => k_is))
    (case lawNs => k_is)
    (case lawLk => k_is)
    (case lawCd => k_is)
    (case tab_law_ways => refine' One.tab_mkX ?ta ?tl ?tc ?tf ?tv; (case ta => k_is); (case tl => k_is); (case tc => rfl); (case tf => k_is); (case tv => rfl))
    (case ntab_law_ways => first | rfl | kernel_rfl | decide +kernel)
