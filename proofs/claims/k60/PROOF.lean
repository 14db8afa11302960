import PyProof.Rows.All
import Wide.All
import OpenK.AllK
import Wide.FinOn
import HandS.ForMost
import HandS.Wide
import HandS.Codes
import HandS.Flow
import HandS.SortRule
import HandS.IsInst
import HandS.Conv
import HandS.TupLe
import KE.GoesMore
import HandS.Lambda
import HandS.ExcInit
import HandS.ExcIs
import HandS.ExcField
import HandS.ExcValue
import HandS.RaiseMore
import KE.KExcSuper
import HandS.WordsExc
import PyProof.ReprRoads
import PySem.Challenge.RW_oneround_k60_first_noughts
import HandS.Walk
import HandS.Zip
import HandS.WideBits
import HandS.Iter
import HandS.Style
import HandS.Ends
import HandS.TupAny
import HandS.Deep
import HandS.ExcSuper
import HandS.EndTab
set_option Elab.async false

section P_M1
set_option linter.all false
/-! Lines, yards: the mathematics of what a law's own growing and calling makes. -/
namespace One
/-- the ends of lines -/
def ends : List (Nat × Nat) → List Nat
  | [] => []
  | p :: r => p.1 :: p.2 :: ends r
/-- the items whose place, counted from k, is let by p -/
def keepIx {α : Type} (p : Nat → Bool) : Nat → List α → List α
  | _, [] => []
  | k, x :: r => if p k then x :: keepIx p (k + 1) r else keepIx p (k + 1) r
theorem ends_append : ∀ (a b : List (Nat × Nat)), ends (a ++ b) = ends a ++ ends b
  | [], _ => rfl
  | p :: r, b => by simp [ends, ends_append r b]
theorem ends_perm {a b : List (Nat × Nat)} (h : a.Perm b) : (ends a).Perm (ends b) := by
  induction h with
  | nil => exact .refl _
  | cons x _ ih => exact .cons _ (.cons _ ih)
  | swap x y l => 
    show (y.1 :: y.2 :: x.1 :: x.2 :: ends l).Perm (x.1 :: x.2 :: y.1 :: y.2 :: ends l)
    have : ([y.1, y.2] ++ ([x.1, x.2] ++ ends l)).Perm ([x.1, x.2] ++ ([y.1, y.2] ++ ends l)) := by
      rw [← List.append_assoc, ← List.append_assoc]
      exact List.Perm.append_right _ List.perm_append_comm
    exact this
  | trans _ _ i j => exact i.trans j
theorem ends_length : ∀ a : List (Nat × Nat), (ends a).length = 2 * a.length
  | [] => rfl
  | p :: r => by simp [ends, ends_length r]; omega
theorem mem_ends : ∀ {a : List (Nat × Nat)} {e : Nat}, e ∈ ends a ↔ ∃ p ∈ a, e = p.1 ∨ e = p.2
  | [], e => by simp [ends]
  | p :: r, e => by
    simp only [ends, List.mem_cons, mem_ends (a := r)]
    constructor
    · rintro (h | h | ⟨q, hq, h⟩)
      · exact ⟨p, .inl rfl, .inl h⟩
      · exact ⟨p, .inl rfl, .inr h⟩
      · exact ⟨q, .inr hq, h⟩
    · rintro ⟨q, rfl | hq, h⟩
      · rcases h with h | h
        · exact .inl h
        · exact .inr (.inl h)
      · exact .inr (.inr ⟨q, hq, h⟩)
theorem keepIx_length_le {α : Type} (p : Nat → Bool) : ∀ (k : Nat) (l : List α), (keepIx p k l).length ≤ l.length
  | _, [] => Nat.le_refl _
  | k, x :: r => by
    unfold keepIx
    have := keepIx_length_le p (k + 1) r
    split <;> simp <;> omega
theorem keepIx_snoc {α : Type} (p : Nat → Bool) : ∀ (k : Nat) (l : List α) (x : α), keepIx p k (l ++ [x]) = keepIx p k l ++ (if p (k + l.length) then [x] else [])
  | k, [], x => by simp [keepIx]
  | k, y :: r, x => by
    simp only [List.cons_append, keepIx, keepIx_snoc p (k + 1) r x, List.length_cons]
    have : k + 1 + r.length = k + (r.length + 1) := by omega
    rw [this]
    split <;> simp
theorem keepIx_congr {α : Type} {p q : Nat → Bool} : ∀ (k : Nat) (l : List α), (∀ m, k ≤ m → p m = q m) → keepIx p k l = keepIx q k l
  | _, [], _ => rfl
  | k, x :: r, h => by
    unfold keepIx
    rw [h k (Nat.le_refl _), keepIx_congr (k + 1) r (fun m hm => h m (by omega))]
theorem keepIx_out {α : Type} (p : Nat → Bool) : ∀ (k i : Nat) (l : List α) (x : α), l[i]? = some x → p (k + i) = true → (keepIx p k l).Perm (x :: keepIx (fun m => p m && !decide (m = k + i)) k l)
  | k, _, [], x, h, _ => by simp at h
  | k, 0, y :: r, x, h, hp => by
    have e : y = x := Option.some.inj h
    subst e
    have hp' : p k = true := hp
    simp only [keepIx, hp', Nat.add_zero, decide_true, Bool.not_true, Bool.and_false, if_true]
    refine .cons _ ?_
    have e : keepIx (fun m => p m && !decide (m = k)) (k + 1) r = keepIx p (k + 1) r := keepIx_congr (k + 1) r fun m hm => by
      have : ¬ m = k := by omega
      simp [this]
    simp [e]
  | k, i + 1, y :: r, x, h, hp => by
    have ih := keepIx_out p (k + 1) i r x (by simpa using h) (by rw [show k + 1 + i = k + (i + 1) by omega]; exact hp)
    have hk : ¬ k = k + (i + 1) := by omega
    simp only [keepIx, hk, decide_false, Bool.not_false, Bool.and_true]
    rw [show (fun m => p m && !decide (m = k + (i + 1))) = (fun m => p m && !decide (m = k + 1 + i)) by funext m; rw [show k + (i + 1) = k + 1 + i by omega]]
    split
    · exact (List.Perm.cons _ ih).trans (.swap _ _ _)
    · exact ih
theorem keepIx_all {α : Type} : ∀ (k : Nat) (l : List α), keepIx (fun _ => true) k l = l
  | _, [] => rfl
  | k, x :: r => by simp [keepIx, keepIx_all (k + 1) r]
/-- lines of n crossings: each end in just one of them -/
structure Lines (n : Nat) (ps : List (Nat × Nat)) : Prop where
  len : ps.length = 2 * n
  nd : (ends ps).Nodup
  lt : ∀ e ∈ ends ps, e < 4 * n
/-- all hangs together: what is closed under lines and has crossing 0 has all -/
def Whole (n : Nat) (ps : List (Nat × Nat)) : Prop := ∀ P : Nat → Prop, (∀ p ∈ ps, P (p.1 / 4) ↔ P (p.2 / 4)) → P 0 → ∀ c, c < n → P c
theorem Whole.from {n : Nat} {ps : List (Nat × Nat)} (w : Whole n ps) {P : Nat → Prop} (h : ∀ p ∈ ps, P (p.1 / 4) ↔ P (p.2 / 4)) {a : Nat} (ha : a < n) (hp : P a) {c : Nat} (hc : c < n) : P c := by
  by_cases h0 : P 0
  · exact w P h h0 c hc
  · exact absurd hp (w (fun x => ¬ P x) (fun p m => not_congr (h p m)) h0 a ha)
theorem Whole.perm {n : Nat} {ps qs : List (Nat × Nat)} (w : Whole n ps) (h : ps.Perm qs) : Whole n qs := fun P hP h0 c hc => w P (fun p m => hP p (h.mem_iff.mp m)) h0 c hc
theorem Lines.perm {n : Nat} {ps qs : List (Nat × Nat)} (w : Lines n ps) (h : ps.Perm qs) : Lines n qs :=
  ⟨h.length_eq ▸ w.len, (ends_perm h).nodup_iff.mp w.nd, fun e m => w.lt e ((ends_perm h).mem_iff.mpr m)⟩
/-- the fresh lines of crossing n put across two lines, or twice across one -/
def fresh (n : Nat) (i j : Nat) (a b : Nat × Nat) : List (Nat × Nat) :=
  if i = j then [(a.1, 4 * n), (4 * n + 1, 4 * n + 2), (a.2, 4 * n + 3)] else [(a.1, 4 * n), (a.2, 4 * n + 2), (b.1, 4 * n + 1), (b.2, 4 * n + 3)]
/-- the places but two -/
def notIJ (i j : Nat) : Nat → Bool := fun m => !decide (m = i) && !decide (m = j)
def putOn (n : Nat) (ps : List (Nat × Nat)) (i j : Nat) (a b : Nat × Nat) : List (Nat × Nat) := keepIx (notIJ i j) 0 ps ++ fresh n i j a b
theorem keep_one {α : Type} {ps : List α} {i : Nat} {a : α} (ha : ps[i]? = some a) : ps.Perm (a :: keepIx (notIJ i i) 0 ps) := by
  have h := keepIx_out (fun _ => true) 0 i ps a ha rfl
  rw [keepIx_all] at h
  refine h.trans ?_
  rw [keepIx_congr (q := notIJ i i) 0 ps fun m _ => by simp [notIJ]]
theorem keep_two {α : Type} {ps : List α} {i j : Nat} {a b : α} (hij : i ≠ j) (ha : ps[i]? = some a) (hb : ps[j]? = some b) : ps.Perm (a :: b :: keepIx (notIJ i j) 0 ps) := by
  have h := keepIx_out (fun _ => true) 0 i ps a ha rfl
  rw [keepIx_all] at h
  refine h.trans (.cons _ ?_)
  have h2 := keepIx_out (fun m => true && !decide (m = 0 + i)) 0 j ps b hb (by simp; omega)
  refine h2.trans ?_
  rw [keepIx_congr (q := notIJ i j) 0 ps fun m _ => by simp [notIJ]]
theorem mem_keep {α : Type} (p : Nat → Bool) : ∀ (k : Nat) (l : List α) (x : α), x ∈ keepIx p k l → x ∈ l
  | _, [], _, h => h
  | k, y :: r, x, h => by
    unfold keepIx at h
    split at h
    · rcases List.mem_cons.mp h with e | h
      · exact List.mem_cons.mpr (.inl e)
      · exact List.mem_cons.mpr (.inr (mem_keep p (k + 1) r x h))
    · exact List.mem_cons.mpr (.inr (mem_keep p (k + 1) r x h))
theorem put_ends {n : Nat} {ps : List (Nat × Nat)} {i j : Nat} {a b : Nat × Nat} (ha : ps[i]? = some a) (hb : ps[j]? = some b) :
    (ends (putOn n ps i j a b)).Perm (ends ps ++ [4 * n, 4 * n + 1, 4 * n + 2, 4 * n + 3]) := by
  unfold putOn
  rw [ends_append]
  unfold fresh
  by_cases hij : i = j
  · subst hij
    rw [if_pos rfl]
    have h := ends_perm (keep_one ha)
    refine List.Perm.trans ?_ (List.Perm.append_right _ h.symm)
    show (ends (keepIx (notIJ i i) 0 ps) ++ [a.1, 4 * n, 4 * n + 1, 4 * n + 2, a.2, 4 * n + 3]).Perm ((a.1 :: a.2 :: ends (keepIx (notIJ i i) 0 ps)) ++ [4 * n, 4 * n + 1, 4 * n + 2, 4 * n + 3])
    refine List.perm_iff_count.mpr fun x => ?_
    simp only [List.count_append, List.count_cons, List.count_nil]
    omega
  · rw [if_neg hij]
    have h := ends_perm (keep_two hij ha hb)
    refine List.Perm.trans ?_ (List.Perm.append_right _ h.symm)
    show (ends (keepIx (notIJ i j) 0 ps) ++ [a.1, 4 * n, a.2, 4 * n + 2, b.1, 4 * n + 1, b.2, 4 * n + 3]).Perm ((a.1 :: a.2 :: b.1 :: b.2 :: ends (keepIx (notIJ i j) 0 ps)) ++ [4 * n, 4 * n + 1, 4 * n + 2, 4 * n + 3])
    refine List.perm_iff_count.mpr fun x => ?_
    simp only [List.count_append, List.count_cons, List.count_nil]
    omega
theorem put_len {n : Nat} {ps : List (Nat × Nat)} {i j : Nat} {a b : Nat × Nat} (ha : ps[i]? = some a) (hb : ps[j]? = some b) : (putOn n ps i j a b).length = ps.length + 2 := by
  have h := (put_ends (n := n) ha hb).length_eq
  rw [List.length_append, ends_length, ends_length] at h
  simp at h
  omega
theorem put_lines {n : Nat} {ps : List (Nat × Nat)} {i j : Nat} {a b : Nat × Nat} (L : Lines n ps) (ha : ps[i]? = some a) (hb : ps[j]? = some b) : Lines (n + 1) (putOn n ps i j a b) := by
  have hp := put_ends (n := n) ha hb
  refine ⟨by rw [put_len ha hb, L.len]; omega, hp.nodup_iff.mpr (List.nodup_append.mpr ⟨L.nd, ?_, fun x hx y hy => ?_⟩), fun e he => ?_⟩
  · simp
  · have := L.lt x hx
    simp at hy
    omega
  · rcases List.mem_append.mp (hp.mem_iff.mp he) with h | h
    · have := L.lt e h
      omega
    · simp at h
      omega
theorem put_whole {n : Nat} {ps : List (Nat × Nat)} {i j : Nat} {a b : Nat × Nat} (hn : 0 < n) (L : Lines n ps) (w : Whole n ps) (ha : ps[i]? = some a) (hb : ps[j]? = some b) : Whole (n + 1) (putOn n ps i j a b) := by
  intro P hP h0
  have old : ∀ p ∈ keepIx (notIJ i j) 0 ps, P (p.1 / 4) ↔ P (p.2 / 4) := fun p m => hP p (List.mem_append.mpr (.inl m))
  have d0 : 4 * n / 4 = n := by omega
  have d1 : (4 * n + 1) / 4 = n := by omega
  have d2 : (4 * n + 2) / 4 = n := by omega
  have d3 : (4 * n + 3) / 4 = n := by omega
  have new : ∀ p ∈ fresh n i j a b, P (p.1 / 4) ↔ P (p.2 / 4) := fun p m => hP p (List.mem_append.mpr (.inr m))
  have hA : (P (a.1 / 4) ↔ P n) ∧ (P (a.2 / 4) ↔ P n) ∧ (i ≠ j → (P (b.1 / 4) ↔ P n) ∧ (P (b.2 / 4) ↔ P n)) := by
    unfold fresh at new
    by_cases hij : i = j
    · rw [if_pos hij] at new
      have q1 := new (a.1, 4 * n) (by simp)
      have q2 := new (a.2, 4 * n + 3) (by simp)
      simp only [d0, d3] at q1 q2
      exact ⟨q1, q2, fun z => absurd hij z⟩
    · rw [if_neg hij] at new
      have q1 := new (a.1, 4 * n) (by simp)
      have q2 := new (a.2, 4 * n + 2) (by simp)
      have q3 := new (b.1, 4 * n + 1) (by simp)
      have q4 := new (b.2, 4 * n + 3) (by simp)
      simp only [d0, d1, d2, d3] at q1 q2 q3 q4
      exact ⟨q1, q2, fun _ => ⟨q3, q4⟩⟩
  have clo : ∀ p ∈ ps, P (p.1 / 4) ↔ P (p.2 / 4) := by
    intro p m
    by_cases hij : i = j
    · subst hij
      rcases List.mem_cons.mp ((keep_one ha).mem_iff.mp m) with e | m
      · subst e
        exact hA.1.trans hA.2.1.symm
      · exact old p m
    · rcases List.mem_cons.mp ((keep_two hij ha hb).mem_iff.mp m) with e | m
      · subst e
        exact hA.1.trans hA.2.1.symm
      · rcases List.mem_cons.mp m with e | m
        · subst e
          exact (hA.2.2 hij).1.trans (hA.2.2 hij).2.symm
        · exact old p m
  have all := w P clo h0
  intro c hc
  by_cases h : c < n
  · exact all c h
  · have e : c = n := by omega
    subst e
    have am : a.1 ∈ ends ps := mem_ends.mpr ⟨a, List.mem_of_getElem? ha, .inl rfl⟩
    have := L.lt _ am
    exact hA.1.mp (all _ (by omega))
end One
end P_M1

section P_M2
set_option linter.all false
namespace One
/-- what a law's own growing makes -/
structure Grown (n : Nat) (ps : List (Nat × Nat)) : Prop where
  pos : 0 < n
  lines : Lines n ps
  whole : Whole n ps
theorem grown_one {a b c d : Nat} (h : [a, b, c, d].Perm [0, 1, 2, 3]) : Grown 1 [(a, b), (c, d)] := by
  refine ⟨by decide, ⟨rfl, h.nodup_iff.mpr (by decide), fun e he => ?_⟩, fun P _ h0 x hx => ?_⟩
  · have := h.mem_iff.mp he
    simp at this
    omega
  · have e : x = 0 := by omega
    subst e
    exact h0
theorem Grown.put {n : Nat} {ps : List (Nat × Nat)} {i j : Nat} {a b : Nat × Nat} (g : Grown n ps) (ha : ps[i]? = some a) (hb : ps[j]? = some b) : Grown (n + 1) (putOn n ps i j a b) :=
  ⟨by omega, put_lines g.lines ha hb, put_whole g.pos g.lines g.whole ha hb⟩
/-- how ends are called otherwise, crossing by crossing -/
structure Called (n : Nat) (ns : List Nat) : Prop where
  perm : ns.Perm (List.range (4 * n))
  blk : ∀ i j, i < 4 * n → j < 4 * n → i / 4 = j / 4 → ns.getD i 0 / 4 = ns.getD j 0 / 4
theorem Called.len {n : Nat} {ns : List Nat} (c : Called n ns) : ns.length = 4 * n := by rw [c.perm.length_eq, List.length_range]
theorem Called.lt {n : Nat} {ns : List Nat} (c : Called n ns) {i : Nat} (hi : i < 4 * n) : ns.getD i 0 < 4 * n := by
  have h : i < ns.length := by rw [c.len]; exact hi
  rw [List.getD_eq_getElem?_getD, List.getElem?_eq_getElem h, Option.getD_some]
  exact List.mem_range.mp (c.perm.mem_iff.mp (List.getElem_mem h))
theorem Called.inj {n : Nat} {ns : List Nat} (c : Called n ns) {i j : Nat} (hi : i < 4 * n) (hj : j < 4 * n) (e : ns.getD i 0 = ns.getD j 0) : i = j := by
  have h1 : i < ns.length := by rw [c.len]; exact hi
  have h2 : j < ns.length := by rw [c.len]; exact hj
  rw [List.getD_eq_getElem?_getD, List.getElem?_eq_getElem h1, Option.getD_some, List.getD_eq_getElem?_getD, List.getElem?_eq_getElem h2, Option.getD_some] at e
  exact (List.getElem_inj (c.perm.nodup_iff.mpr List.nodup_range)).mp e
theorem Called.onto {n : Nat} {ns : List Nat} (c : Called n ns) {x : Nat} (hx : x < 4 * n) : ∃ i, i < 4 * n ∧ ns.getD i 0 = x := by
  have h := c.perm.mem_iff.mpr (List.mem_range.mpr hx)
  obtain ⟨i, hi, e⟩ := List.mem_iff_getElem.mp h
  refine ⟨i, by rw [← c.len]; exact hi, ?_⟩
  rw [List.getD_eq_getElem?_getD, List.getElem?_eq_getElem hi, Option.getD_some, e]
/-- a line, the lesser end ahead -/
def low (x y : Nat) : Nat × Nat := if y < x then (y, x) else (x, y)
def callL (ns : List Nat) (p : Nat × Nat) : Nat × Nat := low (ns.getD p.1 0) (ns.getD p.2 0)
theorem low_mem (x y : Nat) : ∀ e, (e = (low x y).1 ∨ e = (low x y).2) ↔ (e = x ∨ e = y) := by
  intro e
  unfold low
  split
  · exact Or.comm
  · exact Iff.rfl
theorem ends_map (ns : List Nat) : ∀ ps : List (Nat × Nat), (ends (ps.map (callL ns))).Perm ((ends ps).map fun e => ns.getD e 0)
  | [] => .refl _
  | p :: r => by
    have ih := ends_map ns r
    show ((callL ns p).1 :: (callL ns p).2 :: ends (r.map (callL ns))).Perm (ns.getD p.1 0 :: ns.getD p.2 0 :: (ends r).map fun e => ns.getD e 0)
    unfold callL low
    split
    · exact (List.Perm.swap _ _ _).trans (.cons _ (.cons _ ih))
    · exact .cons _ (.cons _ ih)
theorem nodup_map_on {α β : Type} {f : α → β} : ∀ {l : List α}, (∀ x ∈ l, ∀ y ∈ l, f x = f y → x = y) → l.Nodup → (l.map f).Nodup
  | [], _, _ => List.nodup_nil
  | a :: r, h, hn => by
    obtain ⟨h1, h2⟩ := List.nodup_cons.mp hn
    refine List.nodup_cons.mpr ⟨fun m => ?_, nodup_map_on (fun x hx y hy => h x (List.mem_cons.mpr (.inr hx)) y (List.mem_cons.mpr (.inr hy))) h2⟩
    obtain ⟨y, hy, e⟩ := List.mem_map.mp m
    have := h y (List.mem_cons.mpr (.inr hy)) a (List.mem_cons.mpr (.inl rfl)) e
    exact h1 (this ▸ hy)
theorem called_lines {n : Nat} {ps : List (Nat × Nat)} {ns : List Nat} (L : Lines n ps) (c : Called n ns) : Lines n (ps.map (callL ns)) := by
  have hp := ends_map ns ps
  refine ⟨by rw [List.length_map]; exact L.len, hp.nodup_iff.mpr (nodup_map_on (fun x hx y hy e => c.inj (L.lt x hx) (L.lt y hy) e) L.nd), fun e he => ?_⟩
  obtain ⟨x, hx, rfl⟩ := List.mem_map.mp (hp.mem_iff.mp he)
  exact c.lt (L.lt x hx)
theorem called_whole {n : Nat} {ps : List (Nat × Nat)} {ns : List Nat} (hn : 0 < n) (L : Lines n ps) (w : Whole n ps) (c : Called n ns) : Whole n (ps.map (callL ns)) := by
  intro P hP h0 x hx
  have clo : ∀ p ∈ ps, P (ns.getD (4 * (p.1 / 4)) 0 / 4) ↔ P (ns.getD (4 * (p.2 / 4)) 0 / 4) := by
    intro p m
    have l1 := L.lt p.1 (mem_ends.mpr ⟨p, m, .inl rfl⟩)
    have l2 := L.lt p.2 (mem_ends.mpr ⟨p, m, .inr rfl⟩)
    rw [c.blk (4 * (p.1 / 4)) p.1 (by omega) l1 (by omega), c.blk (4 * (p.2 / 4)) p.2 (by omega) l2 (by omega)]
    have q := hP (callL ns p) (List.mem_map.mpr ⟨p, m, rfl⟩)
    unfold callL low at q
    split at q
    · exact q.symm
    · exact q
  obtain ⟨i, hi, ei⟩ := c.onto (x := 0) (by omega)
  obtain ⟨j, hj, ej⟩ := c.onto (x := 4 * x) (by omega)
  have start : P (ns.getD (4 * (i / 4)) 0 / 4) := by
    rw [c.blk (4 * (i / 4)) i (by omega) hi (by omega), ei]
    exact h0
  have all := w.from (P := fun k => P (ns.getD (4 * k) 0 / 4)) clo (a := i / 4) (by omega) start (c := j / 4) (by omega)
  have all : P (ns.getD (4 * (j / 4)) 0 / 4) := all
  rw [c.blk (4 * (j / 4)) j (by omega) hj (by omega), ej] at all
  rw [show 4 * x / 4 = x by omega] at all
  exact all
/-- pairs in order -/
def ltP (p q : Nat × Nat) : Prop := p.1 < q.1 ∨ (p.1 = q.1 ∧ p.2 < q.2)
def leP (p q : Nat × Nat) : Prop := p.1 < q.1 ∨ (p.1 = q.1 ∧ p.2 ≤ q.2)
/-- a yard of n crossings -/
structure Yard (n : Nat) (L : List (Nat × Nat)) : Prop where
  pos : 0 < n
  lines : Lines n L
  whole : Whole n L
  up : L.Pairwise ltP
  low : ∀ p ∈ L, p.1 < p.2
theorem nodup_firsts : ∀ {L : List (Nat × Nat)}, (ends L).Nodup → L.Pairwise fun p q => p.1 ≠ q.1 ∧ p.1 ≠ q.2 ∧ p.2 ≠ q.1 ∧ p.2 ≠ q.2
  | [], _ => .nil
  | p :: r, h => by
    have h : (p.1 :: p.2 :: ends r).Nodup := h
    obtain ⟨h1, h2⟩ := List.nodup_cons.mp h
    obtain ⟨h3, h4⟩ := List.nodup_cons.mp h2
    refine List.pairwise_cons.mpr ⟨fun q hq => ?_, nodup_firsts h4⟩
    have m1 : q.1 ∈ ends r := mem_ends.mpr ⟨q, hq, .inl rfl⟩
    have m2 : q.2 ∈ ends r := mem_ends.mpr ⟨q, hq, .inr rfl⟩
    exact ⟨fun e => h1 (List.mem_cons.mpr (.inr (e ▸ m1))), fun e => h1 (List.mem_cons.mpr (.inr (e ▸ m2))), fun e => h3 (e ▸ m1), fun e => h3 (e ▸ m2)⟩
theorem nodup_pair : ∀ {L : List (Nat × Nat)}, (ends L).Nodup → ∀ p ∈ L, p.1 ≠ p.2
  | p :: r, h, q, m => by
    have h : (p.1 :: p.2 :: ends r).Nodup := h
    obtain ⟨h1, h2⟩ := List.nodup_cons.mp h
    rcases List.mem_cons.mp m with e | m
    · subst e
      exact fun e => h1 (List.mem_cons.mpr (.inl e))
    · exact nodup_pair (List.nodup_cons.mp h2).2 q m
/-- lines with the lesser ends ahead, sorted, are a yard -/
theorem yard_of_sorted {n : Nat} {L M : List (Nat × Nat)} (hn : 0 < n) (hL : Lines n L) (w : Whole n L) (hl : ∀ p ∈ L, p.1 ≤ p.2) (hp : M.Perm L) (hs : M.Pairwise leP) : Yard n M := by
  have hM := hL.perm hp.symm
  refine ⟨hn, hM, w.perm hp.symm, ?_, fun p m => ?_⟩
  · refine (hs.and (nodup_firsts hM.nd)).imp ?_
    rintro p q ⟨h1, h2, _⟩
    rcases h1 with h1 | ⟨h1, _⟩
    · exact .inl h1
    · exact absurd h1 h2
  · have h1 := hl p (hp.mem_iff.mp m)
    have h2 := nodup_pair hM.nd p m
    omega
theorem low_le (x y : Nat) : (low x y).1 ≤ (low x y).2 := by
  unfold low
  split <;> simp <;> omega
theorem called_yard {n : Nat} {ps M : List (Nat × Nat)} {ns : List Nat} (g : Grown n ps) (c : Called n ns) (hp : M.Perm (ps.map (callL ns))) (hs : M.Pairwise leP) : Yard n M :=
  yard_of_sorted g.pos (called_lines g.lines c) (called_whole g.pos g.lines g.whole c) (fun p m => by
    obtain ⟨q, _, rfl⟩ := List.mem_map.mp m
    exact low_le _ _) hp hs
/-! ### the calling, block by block -/
def blocks : List (Nat × List Nat) → List Nat
  | [] => []
  | b :: r => b.2.map (fun p => 4 * b.1 + p) ++ blocks r
theorem blocks_snoc : ∀ (l : List (Nat × List Nat)) (b : Nat × List Nat), blocks (l ++ [b]) = blocks l ++ b.2.map (fun p => 4 * b.1 + p)
  | [], b => by simp [blocks]
  | a :: r, b => by simp [blocks, blocks_snoc r b]
theorem blocks_len : ∀ {l : List (Nat × List Nat)}, (∀ b ∈ l, b.2.length = 4) → (blocks l).length = 4 * l.length
  | [], _ => rfl
  | a :: r, h => by
    have h1 := h a (List.mem_cons.mpr (.inl rfl))
    have h2 := blocks_len (l := r) fun b hb => h b (List.mem_cons.mpr (.inr hb))
    simp [blocks, h1, h2]
    omega
theorem blocks_get : ∀ {l : List (Nat × List Nat)}, (∀ b ∈ l, b.2.Perm [0, 1, 2, 3]) → ∀ i, i < 4 * l.length → ∃ b ∈ l, l[i / 4]? = some b ∧ (blocks l).getD i 0 / 4 = b.1
  | [], _, i, hi => by simp at hi
  | a :: r, h, i, hi => by
    have ha := h a (List.mem_cons.mpr (.inl rfl))
    have hlen : (a.2.map (fun p => 4 * a.1 + p)).length = 4 := by rw [List.length_map, ha.length_eq]; rfl
    by_cases hi4 : i < 4
    · refine ⟨a, List.mem_cons.mpr (.inl rfl), by rw [show i / 4 = 0 by omega]; rfl, ?_⟩
      have hx : i < a.2.length := by rw [ha.length_eq]; exact hi4
      have hm := ha.mem_iff.mp (List.getElem_mem hx)
      have e : (blocks (a :: r)).getD i 0 = 4 * a.1 + a.2[i] := by
        show (a.2.map (fun p => 4 * a.1 + p) ++ blocks r).getD i 0 = _
        rw [List.getD_eq_getElem?_getD, List.getElem?_append_left (by rw [hlen]; exact hi4), List.getElem?_map, List.getElem?_eq_getElem hx]
        rfl
      rw [e]
      simp at hm
      omega
    · have hi' : i - 4 < 4 * r.length := by simp at hi; omega
      obtain ⟨b, hb, h1, h2⟩ := blocks_get (l := r) (fun b hb => h b (List.mem_cons.mpr (.inr hb))) (i - 4) hi'
      refine ⟨b, List.mem_cons.mpr (.inr hb), ?_, ?_⟩
      · rw [show i / 4 = (i - 4) / 4 + 1 by omega]
        exact h1
      · have e : (blocks (a :: r)).getD i 0 = (blocks r).getD (i - 4) 0 := by
          show (a.2.map (fun p => 4 * a.1 + p) ++ blocks r).getD i 0 = _
          rw [List.getD_eq_getElem?_getD, List.getElem?_append_right (by rw [hlen]; omega), hlen, List.getD_eq_getElem?_getD]
        rw [e]
        exact h2
theorem blocks_perm : ∀ {l m : List (Nat × List Nat)}, l.Perm m → (blocks l).Perm (blocks m) := fun h => by
  induction h with
  | nil => exact .refl _
  | cons x _ ih => exact List.Perm.append_left _ ih
  | swap x y l =>
    show (y.2.map (fun p => 4 * y.1 + p) ++ (x.2.map (fun p => 4 * x.1 + p) ++ blocks l)).Perm (x.2.map (fun p => 4 * x.1 + p) ++ (y.2.map (fun p => 4 * y.1 + p) ++ blocks l))
    rw [← List.append_assoc, ← List.append_assoc]
    exact List.Perm.append_right _ List.perm_append_comm
  | trans _ _ i j => exact i.trans j
theorem blocks_std : ∀ (l : List (Nat × List Nat)), (∀ b ∈ l, b.2.Perm [0, 1, 2, 3]) → (blocks l).Perm (blocks (l.map fun b => (b.1, [0, 1, 2, 3])))
  | [], _ => .refl _
  | a :: r, h => List.Perm.append (List.Perm.map _ (h a (List.mem_cons.mpr (.inl rfl)))) (blocks_std r fun b hb => h b (List.mem_cons.mpr (.inr hb)))
theorem blocks_range : ∀ n : Nat, blocks ((List.range n).map fun c => (c, [0, 1, 2, 3])) = List.range (4 * n)
  | 0 => rfl
  | n + 1 => by
    rw [List.range_succ, List.map_append, List.map_cons, List.map_nil, blocks_snoc, blocks_range n, show 4 * (n + 1) = 4 * n + 4 by omega]
    rw [show 4 * n + 4 = (4 * n + 3) + 1 by omega, List.range_succ, show 4 * n + 3 = (4 * n + 2) + 1 by omega, List.range_succ, show 4 * n + 2 = (4 * n + 1) + 1 by omega, List.range_succ, List.range_succ]
    simp
theorem called_of_blocks {n : Nat} {l : List (Nat × List Nat)} (hp : (l.map Prod.fst).Perm (List.range n)) (hb : ∀ b ∈ l, b.2.Perm [0, 1, 2, 3]) : Called n (blocks l) := by
  have hlen : l.length = n := by rw [← List.length_map (f := Prod.fst) (as := l), hp.length_eq, List.length_range]
  refine ⟨?_, fun i j hi hj e => ?_⟩
  · refine (blocks_std l hb).trans ?_
    rw [← blocks_range n]
    refine blocks_perm ?_
    rw [show (fun b : Nat × List Nat => (b.1, [0, 1, 2, 3])) = (fun c => (c, [0, 1, 2, 3])) ∘ Prod.fst from rfl, ← List.map_map]
    exact List.Perm.map _ hp
  · obtain ⟨b, _, h1, h2⟩ := blocks_get hb i (by rw [hlen]; exact hi)
    obtain ⟨d, _, h3, h4⟩ := blocks_get hb j (by rw [hlen]; exact hj)
    rw [e, h3] at h1
    cases h1
    rw [h2, h4]
end One
end P_M2

section P_N0
set_option linter.all false
set_option maxRecDepth 100000
set_option maxHeartbeats 4000000
namespace One
open PySem PySem.Spec PyProof.Rows L2
def top (i : Nat) : Stmt := PySem.Challenge.pw_oneround_k60_first_noughts.main.body.getD i (.Pass ⟨0, 0, 0, 0⟩)

/-! ### a list that is only read, with a list behind it -/
theorem add_read (l : Addr) (items : Array Value) (n : Nat) (sl : Array (Option Value)) (b : Addr) (items2 : Array Value) (n2 : Nat) (hc0 : items.size + items2.size ≤ sizeLine) :
    Meets (Builtin.«list.__add__» ⟨[.ref l, .ref b], []⟩) (fun _ R s => s.heap.get? l = some ⟨.type "list", none, .seq items n, sl⟩ ∧ s.heap.get? b = some ⟨.type "list", none, .seq items2 n2, #[]⟩ ∧
      R (.ok (.ret (Value.ref s.heap.objs.size))) { s with heap := s.heap.push { cls := Value.type "list", data := Data.seq (items ++ items2) }, toks := s.toks }) :=
  .of_wp fun prog w A R s h => by
    obtain ⟨hp, g, d, tk, os⟩ := s
    obtain ⟨hl, hb, h⟩ := h
    have f1 := PySem.AutoSeq1.idx_int
    have f3 := PySem.AutoSeq1.sub_list_list
    wp_walk using PySem.AutoSeq1.wpAny_loadPart' hl, PySem.AutoSeq1.wpAny_loadPart' hb
    exact ⟨_, rfl, h⟩
section
variable {X : Cx}
def rCatS (K : PySem.W.Frag) : R2 := fun x y H Q => ∃ l b xs zs, x = .ref l ∧ y = .ref b ∧ SqL K H l xs ∧ H b = some (.lst zs) ∧ xs.length + zs.length ≤ sizeLine ∧ ∀ p, H p = none → Q (.ref p) (upd H p (.lst (xs ++ zs)))
theorem op_catS : OpR X (binaryOp .Add) (rCatS X.K) := by
  intro pins s σ H x y v u Q I rx ry h
  obtain ⟨l, b, xs, zs, rfl, rfl, hS, hB, hz, q⟩ := h
  cases rx
  cases ry
  obtain ⟨its, r, ⟨⟨oc, od, oda, osl⟩, n, e, ec, ed, edd⟩, hl⟩ := I.list hS
  dsimp only at ec ed edd
  subst ec ed edd
  obtain ⟨z2, its2, n2, r2, hl2, e2⟩ := I.lstM hB
  have ha : s.TypeIs (.ref l) "list" := ⟨_, e, rfl⟩
  have hb : s.TypeIs (.ref b) "list" := ⟨_, e2, rfl⟩
  have hsz : its.toArray.size + its2.toArray.size ≤ sizeLine := by
    rw [List.size_toArray, List.size_toArray, ← r.length, ← r2.length]
    exact hz
  refine PySem.concat_meets ha hb PySem.noFill_list_add PySem.seq_list_add F.slot_list_add F.entry_list_add (F.args_list_add_2 _ _) (add_read l its.toArray n osl b its2.toArray n2 hsz) ⟨e, e2, ?_⟩
  have ea : its.toArray ++ its2.toArray = (its ++ its2).toArray := by simp
  rw [ea]
  exact ⟨.ref _, _, I.lnew (t' := s.toks) (r.append r2) (by rw [List.length_append]; exact hz), rfl, q _ I.fresh⟩
end
/-- all but p stands as it stood -/
def But (p : Addr) (H H' : Hp) : Prop := ∀ b, b ≠ p → H' b = H b
/-- all that stood but p stands as it stood -/
def Ext (p : Addr) (H H' : Hp) : Prop := ∀ b o, b ≠ p → H b = some o → H' b = some o
theorem But.ext {p : Addr} {H H' : Hp} (h : But p H H') : Ext p H H' := fun b o hb e => (h b hb).trans e
theorem But.trans {p : Addr} {H H1 H2 : Hp} (h : But p H H1) (k : But p H1 H2) : But p H H2 := fun b hb => (k b hb).trans (h b hb)
theorem Ext.refl (p : Addr) (H : Hp) : Ext p H H := fun _ _ _ e => e
theorem Ext.trans {p : Addr} {H H1 H2 : Hp} (h : Ext p H H1) (k : Ext p H1 H2) : Ext p H H2 := fun b o hb e => k b o hb (h b o hb e)
theorem Ext.same {p : Addr} {H H1 : Hp} (h : Same H H1) : Ext p H H1 := fun b o _ e => h b o e
theorem Ext.new {p q : Addr} {H : Hp} {o : HO} (h : H q = none) : Ext p H (upd H q o) := fun b u _ e => by
  rw [upd_ne (ne_of_none e h)]
  exact e
/-- the names that the program's top leaves to the built-ins -/
structure TB (mg : Str → Option Value) : Prop where
  len : mg "len" = none
  range : mg "range" = none
  tuple : mg "tuple" = none
  list : mg "list" = none
  sorted : mg "sorted" = none
  enumerate : mg "enumerate" = none
  isinstance : mg "isinstance" = none
  int : mg "int" = none
  bool : mg "bool" = none
  repr : mg "repr" = none
  all : mg "all" = none
theorem get_cell {cells : List Int} {i : Int} (h0 : 0 ≤ i) (h1 : i < (cells.length : Int)) : ∃ z, atI (cells.map V.int) i = some (V.int z) := by
  have hlt : i.toNat < cells.length := by omega
  refine ⟨cells[i.toNat], at_of (j := i.toNat) (by omega) ?_⟩
  rw [List.getElem?_map, List.getElem?_eq_getElem hlt]
  rfl
theorem But.upd {p : Addr} {H H' : Hp} {o : HO} (h : But p H H') : But p H (upd H' p o) := fun b hb => (upd_ne hb).trans (h b hb)
/-- a test, then what comes of it, with a word between them -/
def tMid (t : TT) : TT := fun σ H Q => ∃ M : Bool → Hp → Prop, t σ H M ∧ ∀ b H', M b H' → Q b H'
theorem pt_mid {X : Cx} {e : Expr} {t : TT} (h : PT X e t) : PT X e (tMid t) := ⟨fun pins s σ H Q I ⟨M, h1, h2⟩ =>
  thn (h.run pins s σ H M I h1) fun b s' ⟨H', I', q⟩ => ⟨H', I', h2 b H' q⟩⟩
/-- an expression, then what comes of it, with a word between them -/
def tMidE (t : TE) : TE := fun σ H Q => ∃ M : V → Hp → Prop, t σ H M ∧ ∀ v H', M v H' → Q v H'
theorem pe_mid {X : Cx} {e : Expr} {t : TE} (h : PE X e t) : PE X e (tMidE t) := ⟨fun pins s σ H Q I ⟨M, h1, h2⟩ =>
  thn (h.run pins s σ H M I h1) fun u s' ⟨v, H', I', r, q⟩ => ⟨v, H', I', r, h2 v H' q⟩⟩

/-- a def that is called by its name -/
structure Cal (K : PySem.W.Frag) (mg : Str → Option Value) (x : Str) (f : Addr) (fd : FuncData) (ps : List Str) : Prop where
  g : mg x = some (.ref f)
  kp : PySem.W.keepIn K (.ref f) = true
  b : Binds K fd ps []
/-- at a stands the pair p -/
def PAt (H : Hp) (a : Addr) (p : Nat × Nat) : Prop := H a = some (.tup [.int (p.1 : Nat), .int (p.2 : Nat)])
/-- at these addresses stand these pairs -/
inductive PL (H : Hp) : List Addr → List (Nat × Nat) → Prop
  | nil : PL H [] []
  | cons {a p as ps} : PAt H a p → PL H as ps → PL H (a :: as) (p :: ps)
theorem PL.len {H : Hp} {as : List Addr} {ps : List (Nat × Nat)} (h : PL H as ps) : as.length = ps.length := by
  induction h with
  | nil => rfl
  | cons _ _ ih => simp [ih]
theorem PL.get {H : Hp} {as : List Addr} {ps : List (Nat × Nat)} (h : PL H as ps) : ∀ {i : Nat} {p : Nat × Nat}, ps[i]? = some p → ∃ a, as[i]? = some a ∧ PAt H a p := by
  induction h with
  | nil => intro i p e; simp at e
  | cons h1 _ ih =>
    intro i p e
    cases i with
    | zero =>
      have e := Option.some.inj e
      subst e
      exact ⟨_, rfl, h1⟩
    | succ i => exact ih (i := i) (by simpa using e)
theorem PL.got {H : Hp} {as : List Addr} {ps : List (Nat × Nat)} (h : PL H as ps) : ∀ {i : Nat} {a : Addr}, as[i]? = some a → ∃ p, ps[i]? = some p ∧ PAt H a p := by
  induction h with
  | nil => intro i p e; simp at e
  | cons h1 _ ih =>
    intro i p e
    cases i with
    | zero =>
      have e := Option.some.inj e
      subst e
      exact ⟨_, rfl, h1⟩
    | succ i => exact ih (i := i) (by simpa using e)
theorem PL.app {H : Hp} {as bs : List Addr} {ps qs : List (Nat × Nat)} (h : PL H as ps) (k : PL H bs qs) : PL H (as ++ bs) (ps ++ qs) := by
  induction h with
  | nil => exact k
  | cons h1 _ ih => exact .cons h1 ih
theorem PL.mono {H H' : Hp} {as : List Addr} {ps : List (Nat × Nat)} (h : PL H as ps) (k : ∀ b xs, H b = some (.tup xs) → H' b = some (.tup xs)) : PL H' as ps := by
  induction h with
  | nil => exact .nil
  | cons h1 _ ih => exact .cons (k _ _ h1) ih
theorem PL.keep {H : Hp} {as : List Addr} {ps : List (Nat × Nat)} (h : PL H as ps) (f : Nat → Bool) : ∀ k, PL H (keepIx f k as) (keepIx f k ps) := by
  induction h with
  | nil => intro k; exact .nil
  | cons h1 _ ih =>
    intro k
    unfold keepIx
    split
    · exact .cons h1 (ih _)
    · exact ih _
theorem sameT {H H' : Hp} (e : Same H H') : ∀ b xs, H b = some (.tup xs) → H' b = some (.tup xs) := fun b xs h => e b _ h
theorem Same.new {H : Hp} {q : Addr} {o : HO} (h : H q = none) : Same H (upd H q o) := fun b u e => by
  rw [upd_ne (ne_of_none e h)]
  exact e
abbrev refs (as : List Addr) : List V := as.map V.ref
/-- a display of two pairs of written numbers -/
theorem rd_two {a b c d : Int} {σ : L2.St} {H : Hp} {Q : VK} (h : ∀ (H' : Hp) (l t1 t2 : Addr), Same H H' → H' l = some (.lst [.ref t1, .ref t2]) → H' t1 = some (.tup [.int a, .int b]) → H' t2 = some (.tup [.int c, .int d]) → Q (.ref l) H') :
    tLst (tCons (tTup (tCons (tC (.int a)) (tCons (tC (.int b)) tNil))) (tCons (tTup (tCons (tC (.int c)) (tCons (tC (.int d)) tNil))) tNil)) σ H Q := by
  refine ⟨by show 2 ≤ sizeLine; decide, fun t1 h1 => ⟨by show 2 ≤ sizeLine; decide, fun t2 h2 => ⟨by show 2 ≤ sizeLine; decide, fun l hl => ?_⟩⟩⟩
  have s1 := Same.new (o := .tup [.int a, .int b]) h1
  have s2 := Same.new (o := .tup [.int c, .int d]) h2
  have s3 := Same.new (o := .lst [.ref t1, .ref t2]) hl
  exact h _ l t1 t2 (s1.trans (s2.trans s3)) upd_same (s3 _ _ (s2 _ _ upd_same)) (s3 _ _ upd_same)
/-- where the dict of the draws stands -/
def DictAt (H : Hp) (p : Addr) : Prop := ∃ kvs, H p = some (.dK kvs)
theorem tupD {p : Addr} {H H' : Hp} (hd : DictAt H p) (e : Ext p H H') : ∀ b xs, H b = some (.tup xs) → H' b = some (.tup xs) := fun b xs h => by
  obtain ⟨kvs, h1⟩ := hd
  exact e b _ (ne_of h h1 (by intro z; cases z)) h
theorem DictAt.neL {p L : Addr} {H : Hp} {xs : List V} (hd : DictAt H p) (h : H L = some (.lst xs)) : L ≠ p := fun z => by
  obtain ⟨kvs, h1⟩ := hd
  rw [z, h1] at h
  cases h
theorem two_le : 2 ≤ sizeLine := by decide
/-- two tuples and a list of both, made one behind another -/
theorem made_two {H : Hp} {t1 t2 l : Addr} {x y : List V} {zs : List V} (h1 : H t1 = none) (h2 : upd H t1 (.tup x) t2 = none) (h3 : upd (upd H t1 (.tup x)) t2 (.tup y) l = none) :
    ∃ H', H' = upd (upd (upd H t1 (.tup x)) t2 (.tup y)) l (.lst zs) ∧ Same H H' ∧ H' l = some (.lst zs) ∧ H' t1 = some (.tup x) ∧ H' t2 = some (.tup y) := by
  have s1 := Same.new (o := .tup x) h1
  have s2 := Same.new (o := .tup y) h2
  have s3 := Same.new (o := .lst zs) h3
  exact ⟨_, rfl, s1.trans (s2.trans s3), upd_same, s3 _ _ (s2 _ _ upd_same), s3 _ _ upd_same⟩
theorem PAt.of {H : Hp} {t : Addr} {x y : Int} {a b : Nat} (h : H t = some (.tup [.int x, .int y])) (hx : x = (a : Nat)) (hy : y = (b : Nat)) : PAt H t (a, b) := by
  subst hx hy
  exact h
theorem refs_app (a b : List Addr) : refs (a ++ b) = refs a ++ refs b := List.map_append
theorem in_two (j j1 j2 : Nat) : (!inV (V.int (j : Nat)) [V.int (j1 : Nat), V.int (j2 : Nat)]) = notIJ j1 j2 j := by
  unfold inV notIJ
  simp only [List.any_cons, List.any_nil, Bool.or_false]
  have e : ∀ k : Nat, eqV (V.int (k : Nat)) (V.int (j : Nat)) = decide (j = k) := by
    intro k
    show ((k : Int) == (j : Int)) = decide (j = k)
    by_cases q : j = k
    · subst q
      simp
    · have q' : ¬ (k : Int) = (j : Int) := by omega
      simp [q, q']
  rw [e, e, Bool.not_or]
theorem ref_at {as : List Addr} {i : Nat} {a : Addr} (h : as[i]? = some a) : atI (refs as) (i : Nat) = some (.ref a) := at_of (j := i) rfl (by rw [List.getElem?_map, h]; rfl)
abbrev nats (ns : List Nat) : List V := ns.map fun x => V.int (x : Nat)
theorem nats_app (a b : List Nat) : nats (a ++ b) = nats a ++ nats b := List.map_append
theorem nats_at {ns : List Nat} {i x : Nat} (h : ns[i]? = some x) : (nats ns)[i]? = some (V.int (x : Nat)) := by rw [List.getElem?_map, h]; rfl
theorem nats_erase : ∀ (ns : List Nat) (k : Nat), (nats ns).eraseIdx k = nats (ns.eraseIdx k)
  | [], _ => rfl
  | x :: r, 0 => rfl
  | x :: r, k + 1 => by
    show V.int (x : Nat) :: (nats r).eraseIdx k = V.int (x : Nat) :: nats (r.eraseIdx k)
    rw [nats_erase r k]
theorem nats_range (n : Nat) : rgV 0 (n : Nat) = nats (List.range n) := by
  unfold rgV
  have e : (((n : Nat) : Int) - 0).toNat = n := by omega
  rw [e]
  refine List.map_congr_left fun x _ => ?_
  rw [Int.zero_add]
theorem seq_ix {j n : Nat} (h : j < n) : seqIndex? ((j : Nat) : Int) n = some j := by
  unfold seqIndex?
  simp
  omega
theorem erase_perm : ∀ {l : List Nat} {k x : Nat}, l[k]? = some x → l.Perm (x :: l.eraseIdx k)
  | [], k, x, h => by simp at h
  | y :: r, 0, x, h => by
    have e : y = x := Option.some.inj h
    subst e
    exact .refl _
  | y :: r, k + 1, x, h => (List.Perm.cons y (erase_perm (l := r) (k := k) (by simpa using h))).trans (.swap _ _ _)
theorem Ext.wr {p q : Addr} {H H' : Hp} {o : HO} (e : Ext p H H') (h : H q = none) : Ext p H (upd H' q o) := fun b u hb hu => by
  rw [upd_ne (ne_of_none hu h)]
  exact e b u hb hu
theorem Ext.free {p q : Addr} {H H' : Hp} (e : Ext p H H') (hq : q ≠ p) (h : H' q = none) : H q = none := by
  cases z : H q with
  | none => rfl
  | some o =>
    rw [e q o hq z] at h
    cases h
theorem yes {σ : L2.St} {H : Hp} {A B : Hp → Prop} (h : A H) : tYes σ H (fun b H3 => if b = true then A H3 else B H3) := by
  show if true = true then A H else B H
  rw [if_pos rfl]
  exact h
def rLen (K : PySem.W.Frag) : List V → Hp → VK → Prop := fun xs H Q => ∃ p ys, xs = [.ref p] ∧ (SqL K H p ys ∨ SqT K H p ys) ∧ Q (.int ys.length) H

/-! ### sorting pairs -/
/-- the pair that stands at an address -/
def keyN (H : Hp) (a : Addr) : Nat × Nat := match H a with
  | some (.tup [.int i, .int j]) => (i.toNat, j.toNat)
  | _ => (0, 0)
theorem keyN_of {H : Hp} {a : Addr} {p : Nat × Nat} (h : PAt H a p) : keyN H a = p := by
  unfold keyN
  rw [show H a = some (.tup [.int (p.1 : Nat), .int (p.2 : Nat)]) from h]
  rfl
theorem PL.keys {H : Hp} {as : List Addr} {ps : List (Nat × Nat)} (h : PL H as ps) : ps = as.map (keyN H) ∧ ∀ a ∈ as, PAt H a (keyN H a) := by
  induction h with
  | nil => exact ⟨rfl, fun a m => absurd m (by simp)⟩
  | cons h1 _ ih =>
    rw [List.map_cons, keyN_of h1]
    refine ⟨by rw [← ih.1], fun a m => ?_⟩
    rcases List.mem_cons.mp m with e | m
    · subst e
      rw [keyN_of h1]
      exact h1
    · exact ih.2 a m
theorem PL.of_keys {H : Hp} : ∀ {as : List Addr}, (∀ a ∈ as, PAt H a (keyN H a)) → PL H as (as.map (keyN H))
  | [], _ => .nil
  | a :: r, h => .cons (h a (List.mem_cons.mpr (.inl rfl))) (PL.of_keys fun b hb => h b (List.mem_cons.mpr (.inr hb)))
def backA : V → Addr
  | .ref a => a
  | _ => 0
theorem refs_of : ∀ {ys : List V}, (∀ y ∈ ys, ∃ a, y = V.ref a) → ys = refs (ys.map backA)
  | [], _ => rfl
  | y :: r, h => by
    obtain ⟨a, rfl⟩ := h y (List.mem_cons.mpr (.inl rfl))
    show V.ref a :: r = V.ref a :: refs (r.map backA)
    rw [← refs_of fun z hz => h z (List.mem_cons.mpr (.inr hz))]
theorem back_refs (as : List Addr) : (refs as).map backA = as := by
  rw [refs, List.map_map]
  exact List.map_id' as
/-- sorted(xs), xs a list of pairs -/
theorem rd_sorted {K : PySem.W.Frag} {H : Hp} {Q : VK} {a : Addr} {as : List Addr} {ps : List (Nat × Nat)} (hs : SqL K H a (refs as)) (hP : PL H as ps)
    (h : ∀ (bs : List Addr) (qs : List (Nat × Nat)) (p : Addr), PL H bs qs → qs.Perm ps → qs.Pairwise leP → H p = none → Q (.ref p) (upd H p (.lst (refs bs)))) : rSortedPO K [.ref a] H Q := by
  obtain ⟨e1, e2⟩ := hP.keys
  refine ⟨a, refs as, fun v => (((keyN H (backA v)).1 : Nat), ((keyN H (backA v)).2 : Nat)), rfl, hs, fun x hx => ?_, fun ys p h1 h2 hp => ?_⟩
  · obtain ⟨b, hb, rfl⟩ := List.mem_map.mp hx
    exact ⟨b, rfl, e2 b hb⟩
  · have hy : ys = refs (ys.map backA) := refs_of fun y m => by
      obtain ⟨b, _, e⟩ := List.mem_map.mp (h2.perm.mem_iff.mp m)
      exact ⟨b, e.symm⟩
    have hb : (ys.map backA).Perm as := by
      have := h2.perm.map backA
      rwa [back_refs] at this
    rw [hy]
    refine h (ys.map backA) ((ys.map backA).map (keyN H)) p (PL.of_keys fun b m => e2 b (hb.mem_iff.mp m)) (by rw [e1]; exact hb.map _) ?_ hp
    rw [List.map_map, List.pairwise_map]
    refine List.Pairwise.imp ?_ h1
    intro x y hxy
    have q := SrtO.lexB_no.mp hxy
    show leP (keyN H (backA x)) (keyN H (backA y))
    unfold leP
    simp only at q
    omega
/-- sorted([x, y]) -/
theorem low_of {x y : Nat} {ns : List Int} (hp : ns.Perm [((x : Nat) : Int), ((y : Nat) : Int)]) (hs : ns.Pairwise (· ≤ ·)) : ns = [(((low x y).1 : Nat) : Int), (((low x y).2 : Nat) : Int)] := by
  have hl := hp.length_eq
  match ns, hl with
  | [a, b], _ =>
    have hab : a ≤ b := by
      have := (List.pairwise_cons.mp hs).1 b (by simp)
      exact this
    have ha := hp.mem_iff (a := a)
    have hb := hp.mem_iff (a := b)
    have c1 := hp.count_eq a
    have c2 := hp.count_eq b
    simp only [List.mem_cons, List.not_mem_nil, or_false, true_or, or_true, true_iff] at ha hb
    unfold low
    rcases ha with rfl | rfl <;> rcases hb with rfl | rfl
    · simp only [List.count_cons, List.count_nil, beq_self_eq_true, if_true] at c1
      by_cases q : ((y : Int) == (x : Int)) = true
      · have : y = x := by
          have z : (y : Int) = (x : Int) := by simpa using q
          omega
        subst this
        split <;> rfl
      · rw [if_neg q] at c1
        omega
    · rw [if_neg (by omega)]
    · by_cases q : y < x
      · rw [if_pos q]
      · have : x = y := by omega
        subst this
        rw [if_neg q]
    · simp only [List.count_cons, List.count_nil, beq_self_eq_true, if_true] at c1
      by_cases q : ((x : Int) == (y : Int)) = true
      · have : x = y := by
          have z : (x : Int) = (y : Int) := by simpa using q
          omega
        subst this
        split <;> rfl
      · rw [if_neg q] at c1
        omega
/-- at t stands a yard of n crossings, a tuple of these pairs -/
def YAt (H : Hp) (t : Addr) (n : Nat) (ps : List (Nat × Nat)) : Prop := Yard n ps ∧ ∃ as : List Addr, H t = some (.tup (refs as)) ∧ PL H as ps
theorem YAt.mono {H H' : Hp} {t : Addr} {n : Nat} {ps : List (Nat × Nat)} (h : YAt H t n ps) (k : ∀ b xs, H b = some (.tup xs) → H' b = some (.tup xs)) : YAt H' t n ps := by
  obtain ⟨y, as, h1, h2⟩ := h
  exact ⟨y, as, k _ _ h1, h2.mono k⟩

end One
end P_N0

section P_E1
set_option linter.all false
set_option maxRecDepth 100000
set_option maxHeartbeats 4000000
/-! Ranges with a step as values; what kind a value is. -/
namespace One
open PySem PySem.Spec PyProof.Rows L2
def RngO (a : Addr) (lo hi c : Int) : HO := .ext fun h => ∃ t u v, h.get? a = some { cls := .type "range", data := .fields #[.int lo t, .int hi u, .int c v] }
theorem rng_has (r : Addr) (a b c i : Int) (t u v k : Tok) :
    Meets (Builtin.«range.__contains__» ⟨[.ref r, .int i k], []⟩) (fun _ R s => s.heap.get? r = some ⟨.type "range", none, .fields #[.int a t, .int b u, .int c v], #[]⟩ ∧ R (.ok (.ret (.bool (Builtin.Range.rangePlace? a b c i).isSome))) s) :=
  .of_wp fun prog w A R s h => by
    obtain ⟨hp, g, d, tk, os⟩ := s
    obtain ⟨hl, h⟩ := h
    wp_walk
    exact ⟨_, rfl, h⟩
section
variable {X : Cx}
theorem op_in_rngC : OpR X (compareOp .In) (fun x y H Q => ∃ i a lo hi c, x = V.int i ∧ y = V.ref a ∧ H a = some (RngO a lo hi c) ∧ Q (.bl (Builtin.Range.rangePlace? lo hi c i).isSome) H) := by
  intro pins s σ H x y v u Q I rx ry h
  obtain ⟨i, a, lo, hi, c, rfl, rfl, ha, q⟩ := h
  obtain ⟨k, rfl⟩ := rx
  obtain rfl : u = Value.ref a := ry
  obtain ⟨⟨t1, t2, t3, ho⟩, _, _⟩ := I.hok a _ ha
  refine (show wpAny _ _ (do return Value.bool (← contains (Value.ref a) (Value.int i k))) _ _ s from ?_)
  exact wpAny_bind (wpAny_contains_slot (T := "range") ⟨_, ho, rfl⟩ F.slot_range_contains (call_meets F.slot_range_contains ⟨_, ho, rfl⟩ F.entry_range_contains (F.args_range_contains_2 _ _) (rng_has a lo hi c i t1 t2 t3 k)
    ⟨ho, wpAny_truthy_bool (wpAny_pure ⟨.bl _, H, I, rfl, q⟩)⟩))
theorem cr_range3 : CallR X (.type "range") (fun vs H Q => ∃ i j c, vs = [V.int i, V.int j, V.int c] ∧ (c ≠ 0 ∧ c.natAbs < 1073741824) ∧ ∀ p, H p = none → Q (.ref p) (upd H p (RngO p i j c))) := by
  intro pins s σ H vs us Q I r h
  obtain ⟨i, j, c, rfl, hc, q⟩ := h
  obtain ⟨u1, u2, u3, rfl, ri, rj, rc⟩ : ∃ u1 u2 u3, us = [u1, u2, u3] ∧ RelV (V.int i) u1 ∧ RelV (V.int j) u2 ∧ RelV (V.int c) u3 := by
    cases r with
    | cons p q =>
      cases q with
      | cons p' q' =>
        cases q' with
        | cons p'' q'' =>
          cases q''
          exact ⟨_, _, _, rfl, p, p', p''⟩
  obtain ⟨t, rfl⟩ := ri
  obtain ⟨t2, rfl⟩ := rj
  obtain ⟨t3, rfl⟩ := rc
  have hget : (s.heap.push { cls := .type "range", data := .fields #[.int i t, .int j t2, .int c t3] }).get? s.heap.objs.size = some { cls := .type "range", data := .fields #[.int i t, .int j t2, .int c t3] } := Heap.get?_push_size _ rfl
  refine call_range_3 hc.1 ?_ (.inl (PyProof.noPylong_small hc.2))
  exact ⟨.ref s.heap.objs.size, upd H s.heap.objs.size (RngO s.heap.objs.size i j c), I.laid (t' := s.toks) (fun b o e => Heap.get?_push_of_some _ e) (Nat.le_refl _) ⟨⟨t, t2, t3, hget⟩, ⟨_, hget⟩, fun h1 h2 ⟨a, b, d, e⟩ st => ⟨a, b, d, st _ e⟩⟩, rfl, q _ (I.hok.fresh (Nat.le_refl _))⟩
end
end One
end P_E1

section P_E2
set_option linter.all false
set_option maxRecDepth 100000
set_option maxHeartbeats 4000000
namespace One
open PySem PySem.Spec PyProof.Rows L2
/-! ### what kind a value is -/
inductive TV (H : Hp) : V → String → Prop
  | non : TV H .non "NoneType"
  | bl (b : Bool) : TV H (.bl b) "bool"
  | int (i : Int) : TV H (.int i) "int"
  | str (x : Str) : TV H (.str x) "str"
  | tup {a : Addr} {xs : List V} (e : H a = some (.tup xs)) : TV H (.ref a) "tuple"
  | lst {a : Addr} {xs : List V} (e : H a = some (.lst xs)) : TV H (.ref a) "list"
  | dct {a : Addr} {kvs : List (Key × V)} (e : H a = some (.dK kvs)) : TV H (.ref a) "dict"
theorem TV.tyx {K : PySem.W.Frag} {H : Hp} {v : V} {T : String} (h : TV H v T) : TyX K H v (.type T) := by
  cases h with
  | non => exact .base .non
  | bl b => exact .base (.bl b)
  | int i => exact .base (.int i)
  | str x => exact .base (.str x)
  | tup e => exact .base (.tup e)
  | lst e => exact .base (.lst e)
  | dct e => exact .base (.dK e)
def isI : V → Bool
  | .int _ => true
  | _ => false
def belowV (v : V) (n : Int) : Bool := match v with
  | .int i => decide (0 ≤ i) && decide (i < n)
  | _ => false
theorem nof {p : Prop} (z : false = true) : p := by cases z
theorem noT {p : Prop} (z : true = false) : p := by cases z
theorem TV.kInt {K : PySem.W.Frag} {H : Hp} {v : V} {T : String} (h : TV H v T) : ∃ b, PySem.W.kitOne K (.type T) (.type "int") = some b ∧ (b = true → ∃ b2, PySem.W.kitOne K (.type T) (.type "bool") = some b2 ∧ isI v = !b2) ∧ (b = false → isI v = false) := by
  cases h with
  | non => exact ⟨false, kit_ty (by decide +kernel), nof, fun _ => rfl⟩
  | bl b => exact ⟨true, kit_ty (by decide +kernel), fun _ => ⟨true, kit_ty (by decide +kernel), rfl⟩, noT⟩
  | int i => exact ⟨true, kit_ty (by decide +kernel), fun _ => ⟨false, kit_ty (by decide +kernel), rfl⟩, noT⟩
  | str x => exact ⟨false, kit_ty (by decide +kernel), nof, fun _ => rfl⟩
  | tup e => exact ⟨false, kit_ty (by decide +kernel), nof, fun _ => rfl⟩
  | lst e => exact ⟨false, kit_ty (by decide +kernel), nof, fun _ => rfl⟩
  | dct e => exact ⟨false, kit_ty (by decide +kernel), nof, fun _ => rfl⟩
def isTup (T : String) : Bool := T == "tuple"
theorem TV.kTup {K : PySem.W.Frag} {H : Hp} {v : V} {T : String} (h : TV H v T) : PySem.W.kitOne K (.type T) (.type "tuple") = some (isTup T) := by
  cases h <;> exact kit_ty (by decide +kernel)
/-- the constants of the program's top -/
structure TC (mg : Str → Option Value) : Prop where
  most : ∃ t, mg "MOST_CROSSINGS" = some (.int 40 t)
  ways : ∃ t, mg "MANY_WAYS" = some (.int 3 t)
abbrev sIsNum : Stmt := top 5
abbrev sIsBelow : Stmt := top 6
theorem scIsNum : FnScope ["thing"] ["thing"] (defScope sIsNum) := ⟨rfl, rfl, rfl, by decide +kernel, rfl, by decide +kernel, by decide +kernel⟩
theorem scIsBelow : FnScope ["thing", "many"] ["thing", "many"] (defScope sIsBelow) := ⟨rfl, rfl, rfl, by decide +kernel, rfl, by decide +kernel, by decide +kernel⟩
def spIsNum : Sp := fun vs H Q _ => ∃ (v : V) (T : String), vs = [v] ∧ TV H v T ∧ Q (.bl (isI v)) H
def spIsBelow : Sp := fun vs H Q _ => ∃ (v : V) (n : Int) (T : String), vs = [v, .int n] ∧ TV H v T ∧ Q (.bl (belowV v n)) H
/-- as many lines as a yard may have -/
def canBe (n : Int) : Bool := decide (2 ≤ n) && decide (n ≤ 80) && decide (n % 2 = 0)
def spCanBe : Sp := fun vs H Q _ => ∃ n : Int, vs = [.int n] ∧ ∀ H', Same H H' → Q (.bl (canBe n)) H'
section
variable {P : Program} {w : World} {K : PySem.W.Frag} {mg : Str → Option Value} {base : Heap}
theorem ok_isnum {f : Addr} {fd : FuncData} (F : Fun K "is_number" "is_number" sIsNum f fd) (T : TB mg) : FnOk P w K mg base CX0 1 f fd ["thing"] spIsNum := by
  refine F.ok scIsNum (fun vs H Q E h => ?_) (fun cdv A outer s H vs Q E hr h => ?_)
  · obtain ⟨v, _, rfl, _⟩ := h
    rfl
  · obtain ⟨v, ty, rfl, hv, k⟩ := h
    refine ⟨_, pss_one (ps_ret (pe_and (pe_callB call_isi (by rfl) T.isinstance boot_isinstance (pa_cons (pv 0) (pa_cons (pe_bltn (v := .ty "int") (by rfl) T.int PyProof.Rows.boot_int rfl) pa_nil)))
      (pe_one (pe_not (pe_callB call_isi (by rfl) T.isinstance boot_isinstance (pa_cons (pv 0) (pa_cons (pe_bltn (v := .ty "bool") (by rfl) T.bool (by decide +kernel) rfl) pa_nil))))))), ?_⟩
    obtain ⟨b, kb, h1, h2⟩ := hv.kInt (K := K)
    refine ⟨_, rfl, v, _, _, _, b, rfl, .ty _, hv.tyx, kb, b, rfl, ?_⟩
    cases b with
    | true =>
      obtain ⟨b2, kb2, e⟩ := h1 rfl
      refine iteT ⟨_, rfl, v, _, _, _, b2, rfl, .ty _, hv.tyx, kb2, b2, rfl, ?_⟩
      rw [← e]
      exact k
    | false =>
      refine iteF ?_
      rw [h2 rfl] at k
      exact k
theorem ok_isbelow {f fN : Addr} {fd fdN : FuncData} (F : Fun K "is_below" "is_below" sIsBelow f fd) (N : Cal K mg "is_number" fN fdN ["thing"]) (GN : FnOk P w K mg base CX0 1 fN fdN ["thing"] spIsNum) : FnOk P w K mg base CX0 2 f fd ["thing", "many"] spIsBelow := by
  refine F.ok scIsBelow (fun vs H Q E h => ?_) (fun cdv A outer s H vs Q E hr h => ?_)
  · obtain ⟨v, n, _, rfl, _⟩ := h
    rfl
  · obtain ⟨v, n, ty, rfl, hv, k⟩ := h
    refine ⟨_, pss_one (ps_ret (pe_and (pe_call GN hr rfl N.g N.kp N.b .nil pass0 (pa_cons (pv 0) pa_nil)) (pe_one (pe_chain op_le op_lt pe_int (pv 0) (pv 1))))), ?_⟩
    refine ⟨_, rfl, v, ty, rfl, hv, _, rfl, ?_⟩
    cases v with
    | int i =>
      refine iteT ⟨_, rfl, _, _, rfl, rfl, _, rfl, ?_⟩
      by_cases h0 : 0 ≤ i
      · rw [if_pos (decide_eq_true h0)]
        refine ⟨_, rfl, _, _, rfl, rfl, ?_⟩
        have e : belowV (.int i) n = decide (i < n) := by
          show (decide (0 ≤ i) && decide (i < n)) = _
          rw [decide_eq_true h0, Bool.true_and]
        rw [e] at k
        exact k
      · rw [if_neg (by rw [decide_eq_false h0]; decide)]
        have e : belowV (.int i) n = false := by
          show (decide (0 ≤ i) && decide (i < n)) = _
          rw [decide_eq_false h0, Bool.false_and]
        rw [e] at k
        exact k
    | _ => exact iteF k
end
end One
end P_E2

section P_M3
set_option linter.all false
namespace One
/-! ### going to all that is beside -/
def R (r : List Bool) (i : Nat) : Prop := r[i]? = some true
structure Dfs (s n : Nat) (f : Nat → List Nat) (r : List Bool) (w : List Nat) (cur : Nat → Prop) : Prop where
  len : r.length = n
  z : R r s
  wt : ∀ i ∈ w, R r i
  cl : ∀ i, R r i → i ∈ w ∨ cur i ∨ ∀ j ∈ f i, R r j
  so : ∀ P : Nat → Prop, (∀ i j, j ∈ f i → P i → P j) → P s → ∀ i, R r i → P i
theorem R_set {r : List Bool} {i j : Nat} (h : R r i) : R (r.set j true) i := by
  unfold R at *
  by_cases e : j = i
  · subst e
    have : j < r.length := (List.getElem?_eq_some_iff.mp h).1
    rw [List.getElem?_set_self this]
  · rw [List.getElem?_set_ne e]
    exact h
theorem R_new {r : List Bool} {j : Nat} (h : j < r.length) : R (r.set j true) j := by
  unfold R
  rw [List.getElem?_set_self h]
theorem R_back {r : List Bool} {i j : Nat} (h : R (r.set j true) i) : i = j ∨ R r i := by
  unfold R at *
  by_cases e : j = i
  · exact .inl e.symm
  · rw [List.getElem?_set_ne e] at h
    exact .inr h
theorem dfs_start {s n : Nat} (f : Nat → List Nat) (hn : s < n) : Dfs s n f ((List.replicate n false).set s true) [s] (fun _ => False) := by
  have h0 : s < (List.replicate n false).length := by rw [List.length_replicate]; exact hn
  have back : ∀ i, R ((List.replicate n false).set s true) i → i = s := fun i h => by
    rcases R_back h with e | e
    · exact e
    · unfold R at e
      have hi := (List.getElem?_eq_some_iff.mp e).2
      simp at hi
  refine ⟨by simp, R_new h0, fun i hi => ?_, fun i hi => .inl ?_, fun P _ h i hi => ?_⟩
  · rw [List.mem_singleton.mp hi]
    exact R_new h0
  · rw [back i hi]
    exact List.mem_singleton.mpr rfl
  · rw [back i hi]
    exact h
theorem dfs_pop {s n c : Nat} {f : Nat → List Nat} {r : List Bool} {w : List Nat} (d : Dfs s n f r (w ++ [c]) fun _ => False) : Dfs s n f r w (· = c) := by
  refine ⟨d.len, d.z, fun i hi => d.wt i (List.mem_append.mpr (.inl hi)), fun i hi => ?_, d.so⟩
  rcases d.cl i hi with h | h | h
  · rcases List.mem_append.mp h with h | h
    · exact .inl h
    · exact .inr (.inl (List.mem_singleton.mp h))
  · exact h.elim
  · exact .inr (.inr h)
theorem dfs_mark {s n c j : Nat} {f : Nat → List Nat} {r : List Bool} {w : List Nat} (d : Dfs s n f r w (· = c)) (hc : R r c) (hj : j ∈ f c) (hlt : j < n) : Dfs s n f (r.set j true) (w ++ [j]) (· = c) := by
  have hjl : j < r.length := by rw [d.len]; exact hlt
  refine ⟨by rw [List.length_set]; exact d.len, R_set d.z, fun i hi => ?_, fun i hi => ?_, fun P hP h0 i hi => ?_⟩
  · rcases List.mem_append.mp hi with h | h
    · exact R_set (d.wt i h)
    · rw [List.mem_singleton.mp h]
      exact R_new hjl
  · rcases R_back hi with e | h
    · exact .inl (List.mem_append.mpr (.inr (List.mem_singleton.mpr e)))
    · rcases d.cl i h with q | q | q
      · exact .inl (List.mem_append.mpr (.inl q))
      · exact .inr (.inl q)
      · exact .inr (.inr fun k hk => R_set (q k hk))
  · rcases R_back hi with e | h
    · rw [e]
      exact hP c j hj (d.so P hP h0 c hc)
    · exact d.so P hP h0 i h
theorem dfs_finish {s n c : Nat} {f : Nat → List Nat} {r : List Bool} {w : List Nat} (d : Dfs s n f r w (· = c)) (h : ∀ j ∈ f c, R r j) : Dfs s n f r w fun _ => False := by
  refine ⟨d.len, d.z, d.wt, fun i hi => ?_, d.so⟩
  rcases d.cl i hi with q | q | q
  · exact .inl q
  · subst q
    exact .inr (.inr h)
  · exact .inr (.inr q)
theorem count_set {r : List Bool} {j : Nat} (h : r[j]? = some false) : (r.set j true).count false + 1 = r.count false := by
  induction r generalizing j with
  | nil => simp at h
  | cons a r ih =>
    cases j with
    | zero =>
      have e : a = false := Option.some.inj h
      subst e
      simp
    | succ j =>
      have := ih (j := j) (by simpa using h)
      show ((a :: r.set j true).count false) + 1 = (a :: r).count false
      rw [List.count_cons, List.count_cons]
      omega
/-- what is beside each crossing by these lines -/
def Beside (ps : List (Nat × Nat)) (f : Nat → List Nat) : Prop := ∀ i j, j ∈ f i ↔ ∃ p ∈ ps, (p.1 / 4 = i ∧ p.2 / 4 = j) ∨ (p.2 / 4 = i ∧ p.1 / 4 = j)
theorem dfs_whole {n : Nat} {ps : List (Nat × Nat)} {f : Nat → List Nat} {r : List Bool} (hb : Beside ps f) (d : Dfs 0 n f r [] fun _ => False) : r.all id = true ↔ Whole n ps := by
  constructor
  · intro h P hP h0 c hc
    refine d.so P (fun i j hj hi => ?_) h0 c ?_
    · obtain ⟨p, hp, q⟩ := (hb i j).mp hj
      rcases q with ⟨q1, q2⟩ | ⟨q1, q2⟩
      · rw [← q2]
        rw [← q1] at hi
        exact (hP p hp).mp hi
      · rw [← q2]
        rw [← q1] at hi
        exact (hP p hp).mpr hi
    · have hl : c < r.length := by rw [d.len]; exact hc
      unfold R
      rw [List.getElem?_eq_getElem hl]
      have := List.all_eq_true.mp h r[c] (List.getElem_mem hl)
      exact congrArg some this
  · intro w
    have all := w (fun i => R r i) (fun p hp => ?_) d.z
    · refine List.all_eq_true.mpr fun b hb' => ?_
      obtain ⟨i, hi, e⟩ := List.mem_iff_getElem.mp hb'
      have q := all i (by rw [← d.len]; exact hi)
      unfold R at q
      rw [List.getElem?_eq_getElem hi, e] at q
      exact Option.some.inj q
    · have clo : ∀ i j, j ∈ f i → R r i → R r j := fun i j hj hi => by
        rcases d.cl i hi with q | q | q
        · exact absurd q (by simp)
        · exact q.elim
        · exact q j hj
      exact ⟨clo _ _ ((hb _ _).mpr ⟨p, hp, .inl ⟨rfl, rfl⟩⟩), clo _ _ ((hb _ _).mpr ⟨p, hp, .inr ⟨rfl, rfl⟩⟩)⟩
/-- the lists with one more at one of them -/
def addTo (f : Nat → List Nat) (i x : Nat) : Nat → List Nat := fun k => if k = i then f k ++ [x] else f k
theorem beside_nil : Beside [] fun _ => [] := fun i j => ⟨fun h => absurd h (by simp), fun ⟨p, hp, _⟩ => absurd hp (by simp)⟩
theorem mem_addTo {f : Nat → List Nat} {i x k j : Nat} : j ∈ addTo f i x k ↔ j ∈ f k ∨ (k = i ∧ j = x) := by
  unfold addTo
  by_cases e : k = i
  · rw [if_pos e, List.mem_append, List.mem_singleton]
    exact or_congr Iff.rfl ⟨fun h => ⟨e, h⟩, fun h => h.2⟩
  · rw [if_neg e]
    exact ⟨.inl, fun h => h.elim id fun q => absurd q.1 e⟩
theorem beside_add {ps : List (Nat × Nat)} {f : Nat → List Nat} (p : Nat × Nat) (h : Beside ps f) : Beside (ps ++ [p]) (addTo (addTo f (p.1 / 4) (p.2 / 4)) (p.2 / 4) (p.1 / 4)) := by
  intro i j
  rw [mem_addTo, mem_addTo, h i j]
  constructor
  · rintro ((⟨q, hq, z⟩ | ⟨rfl, rfl⟩) | ⟨rfl, rfl⟩)
    · exact ⟨q, List.mem_append.mpr (.inl hq), z⟩
    · exact ⟨p, List.mem_append.mpr (.inr (List.mem_singleton.mpr rfl)), .inl ⟨rfl, rfl⟩⟩
    · exact ⟨p, List.mem_append.mpr (.inr (List.mem_singleton.mpr rfl)), .inr ⟨rfl, rfl⟩⟩
  · rintro ⟨q, hq, z⟩
    rcases List.mem_append.mp hq with hq | hq
    · exact .inl (.inl ⟨q, hq, z⟩)
    · rw [List.mem_singleton.mp hq] at z
      rcases z with ⟨a, b⟩ | ⟨a, b⟩
      · exact .inl (.inr ⟨a.symm, b.symm⟩)
      · exact .inr ⟨a.symm, b.symm⟩
end One
end P_M3

section P_E3
set_option linter.all false
set_option maxRecDepth 100000
set_option maxHeartbeats 4000000
namespace One
open PySem PySem.Spec PyProof.Rows L2
abbrev nWhole : List Str := ["lines"]
def ltB : V → V → Bool
  | .int a, .int b => decide (a < b)
  | _, _ => false
def lineB (xs : List V) (n : Int) : Bool := match xs with
  | [x, y] => belowV x n && belowV y n && ltB x y
  | _ => false
def spIsLine : Sp := fun vs H Q _ => ∃ (v : V) (n : Int), vs = [v, .int n] ∧ ((∃ T, TV H v T ∧ isTup T = false ∧ Q (.bl false) H) ∨ ∃ (a : Addr) (xs : List V), v = .ref a ∧ H a = some (.tup xs) ∧ (∀ x ∈ xs, ∃ T, TV H x T) ∧ Q (.bl (lineB xs n)) H)
/-- lines that are asked whether they hang together -/
structure Asked (n : Nat) (ps : List (Nat × Nat)) : Prop where
  pos : 0 < n
  len : ps.length = 2 * n
  lt : ∀ p ∈ ps, p.1 < 4 * n ∧ p.2 < 4 * n
def spIsWhole : Sp := fun vs H Q _ => ∃ (t : Addr) (n : Nat) (as : List Addr) (ps : List (Nat × Nat)), vs = [.ref t] ∧ H t = some (.tup (refs as)) ∧ PL H as ps ∧ Asked n ps ∧ n ≤ 100 ∧
  ∀ (H' : Hp) (b : Bool), Same H H' → (b = true ↔ Whole n ps) → Q (.bl b) H'
section
variable {P : Program} {w : World} {K : PySem.W.Frag} {mg : Str → Option Value} {base : Heap}
end
end One
end P_E3

section P_R1
set_option linter.all false
set_option maxRecDepth 100000
set_option maxHeartbeats 8000000
namespace One
open PySem PySem.Spec PyProof.Rows L2
/-- a list of lists of numbers at B, at bl, f says what stands in each; all made behind H0 -/
structure BSt (H0 H : Hp) (B : Addr) (bl : List Addr) (f : Nat → List Nat) : Prop where
  same : Same H0 H
  b : H B = some (.lst (refs bl))
  at_ : ∀ i a, bl[i]? = some a → H a = some (.lst (nats (f i)))
  new : ∀ a ∈ bl, H0 a = none
  nd : bl.Nodup
  nb : B ∉ bl
theorem BSt.keep {H0 H H' : Hp} {B : Addr} {bl : List Addr} {f : Nat → List Nat} (s : BSt H0 H B bl f) (k : Same H H') : BSt H0 H' B bl f :=
  ⟨s.same.trans k, k _ _ s.b, fun i a h => k _ _ (s.at_ i a h), s.new, s.nd, s.nb⟩
theorem BSt.wr {H0 H : Hp} {B q : Addr} {bl : List Addr} {f : Nat → List Nat} {o : HO} (s : BSt H0 H B bl f) (h0 : H0 q = none) (h1 : q ≠ B) (h2 : q ∉ bl) : BSt H0 (upd H q o) B bl f := by
  refine ⟨fun b u e => ?_, by rw [upd_ne (Ne.symm h1)]; exact s.b, fun i a h => ?_, s.new, s.nd, s.nb⟩
  · rw [upd_ne (ne_of_none e h0)]
    exact s.same _ _ e
  · rw [upd_ne (fun z => h2 (by rw [← z]; exact List.mem_of_getElem? h))]
    exact s.at_ i a h
theorem BSt.add {H0 H : Hp} {B a : Addr} {bl : List Addr} {f : Nat → List Nat} {i x : Nat} (s : BSt H0 H B bl f) (ha : bl[i]? = some a) : BSt H0 (upd H a (.lst (nats (f i) ++ [V.int (x : Nat)]))) B bl (addTo f i x) := by
  have hm := List.mem_of_getElem? ha
  refine ⟨fun b u e => ?_, by rw [upd_ne (fun z => s.nb (by rw [z]; exact hm))]; exact s.b, fun j c h => ?_, s.new, s.nd, s.nb⟩
  · rw [upd_ne (ne_of_none e (s.new a hm))]
    exact s.same _ _ e
  · unfold addTo
    by_cases e : j = i
    · subst e
      rw [ha] at h
      cases h
      rw [if_pos rfl, upd_same, nats_app]
      rfl
    · rw [if_neg e, upd_ne (fun z => e (nd_ix s.nd h (by rw [z]; exact ha)))]
      exact s.at_ j c h
def lenAt (H : Hp) (a : Addr) : Nat := match H a with
  | some (.lst xs) => xs.length
  | _ => 0
def noAt (H : Hp) (a : Addr) : Nat := match H a with
  | some (.lst xs) => xs.countP fun v => match v with | .bl b => !b | _ => false
  | _ => 0
theorem lenAt_of {H : Hp} {a : Addr} {ns : List Nat} (h : H a = some (.lst (nats ns))) : lenAt H a = ns.length := by
  unfold lenAt
  rw [h]
  exact List.length_map _
theorem noAt_of {H : Hp} {a : Addr} {r : List Bool} (h : H a = some (.lst (r.map V.bl))) : noAt H a = r.count false := by
  unfold noAt
  rw [h]
  show (r.map V.bl).countP _ = _
  rw [List.countP_map]
  refine List.countP_congr fun b _ => ?_
  cases b <;> simp
theorem take_ends {H : Hp} {ps : List (Nat × Nat)} {i : Nat} {p : Nat × Nat} (h : ps[i]? = some p) : ps.take (i + 1) = ps.take i ++ [p] := by
  rw [List.take_succ, h]
  rfl
theorem fdiv4 (x : Nat) : ((x : Nat) : Int) / 4 = ((x / 4 : Nat) : Int) := by omega
theorem nodup_app {α : Type} {l : List α} {x : α} (h : l.Nodup) (hx : x ∉ l) : (l ++ [x]).Nodup := by
  refine List.nodup_append.mpr ⟨h, by simp, fun a ha b hb => ?_⟩
  rw [List.mem_singleton.mp hb]
  exact fun e => hx (e ▸ ha)
theorem ix_nat {n j : Nat} (h : j < n) : ixN n ((j : Nat) : Int) = some j := by
  unfold ixN
  rw [if_pos (by omega), if_pos (by omega)]
  rfl
theorem flat_rep {α : Type} (x : α) : ∀ n : Nat, (List.replicate n [x]).flatten = List.replicate n x
  | 0 => rfl
  | n + 1 => by
    rw [List.replicate_succ, List.flatten_cons, flat_rep x n, List.replicate_succ]
    rfl
abbrev nBesideX : List Str := ["lines", "many", "beside", "low", "high", "_"]
/-- what is beside each of n crossings by these lines, told as lists in a list, all new -/
def spBesideX : Sp := fun vs H Q _ => ∃ (t : Addr) (n : Nat) (as : List Addr) (ps : List (Nat × Nat)), vs = [.ref t, .int (n : Nat)] ∧ H t = some (.tup (refs as)) ∧ PL H as ps ∧ (∀ p ∈ ps, p.1 < 4 * n ∧ p.2 < 4 * n) ∧ n ≤ 200 ∧ ps.length ≤ 400 ∧
  ∀ (H' : Hp) (D : Addr) (bl : List Addr) (f : Nat → List Nat), BSt H H' D bl f → H D = none → bl.length = n → Beside ps f → Q (.ref D) H'
section
variable {P : Program} {w : World} {K : PySem.W.Frag} {mg : Str → Option Value} {base : Heap}
end
end One
end P_R1

section P_R2
set_option linter.all false
set_option maxRecDepth 100000
set_option maxHeartbeats 8000000
namespace One
open PySem PySem.Spec PyProof.Rows L2
abbrev nReached : List Str := ["beside", "start", "told", "waiting", "other"]
/-- lists of numbers in a list -/
structure LL (H : Hp) (B : Addr) (bl : List Addr) (f : Nat → List Nat) : Prop where
  b : H B = some (.lst (refs bl))
  at_ : ∀ i a, bl[i]? = some a → H a = some (.lst (nats (f i)))
theorem LL.keep {H H' : Hp} {B : Addr} {bl : List Addr} {f : Nat → List Nat} (s : LL H B bl f) (k : Same H H') : LL H' B bl f := ⟨k _ _ s.b, fun i a h => k _ _ (s.at_ i a h)⟩
theorem BSt.ll {H0 H : Hp} {B : Addr} {bl : List Addr} {f : Nat → List Nat} (s : BSt H0 H B bl f) : LL H B bl f := ⟨s.b, s.at_⟩
/-- to which numbers one comes from s, told as a new list of truths -/
def spReached : Sp := fun vs H Q _ => ∃ (B : Addr) (bl : List Addr) (f : Nat → List Nat) (n s : Nat), vs = [.ref B, .int (s : Nat)] ∧ LL H B bl f ∧ bl.length = n ∧ s < n ∧ n ≤ 200 ∧ (∀ i j, i < n → j ∈ f i → j < n) ∧
  ∀ (H' : Hp) (R4 : Addr) (r : List Bool), Same H H' → H R4 = none → H' R4 = some (.lst (r.map V.bl)) → Dfs s n f r [] (fun _ => False) → Q (.ref R4) H'
section
variable {P : Program} {w : World} {K : PySem.W.Frag} {mg : Str → Option Value} {base : Heap}
end
end One
end P_R2

section P_E4
set_option linter.all false
set_option maxRecDepth 100000
set_option maxHeartbeats 4000000
namespace One
open PySem PySem.Spec PyProof.Rows L2
section
variable {P : Program} {w : World} {K : PySem.W.Frag} {mg : Str → Option Value} {base : Heap}
end
end One
end P_E4

section P_E5
set_option linter.all false
set_option maxRecDepth 100000
set_option maxHeartbeats 4000000
namespace One
open PySem PySem.Spec PyProof.Rows L2
/-! ### enumerate of a tuple -/
theorem enum_newT (tt : Addr) (xs : Array Value) (sz : Nat) (dc : Option Addr) (sl : Array (Option Value)) :
    Meets (Builtin.«enumerate.__new__» ⟨[.type "enumerate", .ref tt], []⟩) (fun _ R s => s.heap.get? tt = some ⟨.type "tuple", dc, .seq xs sz, sl⟩ ∧
      R (.ok (.ret (.ref (s.heap.push { cls := .type "tuple_iterator", data := .fields #[.ref tt, .int 0 0] }).objs.size)))
        { s with heap := (s.heap.push { cls := .type "tuple_iterator", data := .fields #[.ref tt, .int 0 0] }).push { cls := .type "enumerate", data := .fields #[.none, .bool false, .ref s.heap.objs.size, rawInt 0, .none, .none] } }) :=
  .of_wp fun prog w A R s q => by
    obtain ⟨hp, g, d, tk, os⟩ := s
    obtain ⟨hl, q⟩ := q
    have su := sub_enumerate
    have hT : Heap.IsTuple (Shared.heap ⟨hp, g, d, tk, os⟩) tt xs := ⟨_, hl, rfl, sz, rfl⟩
    wp_walk using AutoSeq1.wpAny_loadPart' hl
    refine wpAny_stack_any fun stk => wpAny_pure ?_
    split
    · rename_i cl _ _ _ _ _
      cases (cl == Value.type "enumerate") <;> (wp_walk using AutoSeq1.wpAny_loadPart' hl, wpAny_pyIter_tuple hT; exact ⟨_, rfl, q⟩)
    · wp_walk using AutoSeq1.wpAny_loadPart' hl, wpAny_pyIter_tuple hT
      exact ⟨_, rfl, q⟩
section
variable {prog : Program} {w : World} {A : Around} {E : Value → Shared → Prop} {s : Shared}
theorem call_enumT {tt : Addr} {xs : Array Value} {Q : Value → Shared → Prop} (hL : s.heap.IsTuple tt xs)
    (k : ∀ g, IsEnum g (s.heap.objs.size + 1) s.heap.objs.size 0 .none → g.IsTupleIter s.heap.objs.size tt 0 → (∀ b o, s.heap.get? b = some o → g.get? b = some o) → Q (.ref (s.heap.objs.size + 1)) { s with heap := g }) :
    wpAny (model prog w) A (call (.type "enumerate") [.ref tt]) Q E s := by
  obtain ⟨⟨cl, dc, da, sl⟩, hl, hcl, sz, hda⟩ := hL
  dsimp only at hcl hda
  subst hcl hda
  refine callType_new F.called_enumerate (by decide) (F.typeCall_enumerate_1 _) (F.newCall_enumerate_1 _) (fun ob => F.args_object_init_2 ob _) F.entry_enumerate_new (enum_newT tt xs sz dc sl) ⟨hl, ?_⟩
  have e1 : (s.heap.push { cls := .type "tuple_iterator", data := .fields #[.ref tt, .int 0 0] }).objs.size = s.heap.objs.size + 1 := Heap.size_push ..
  show _ ∧ _
  rw [e1]
  have e2 : IsEnum ((s.heap.push { cls := .type "tuple_iterator", data := .fields #[.ref tt, .int 0 0] }).push { cls := .type "enumerate", data := .fields #[.none, .bool false, .ref s.heap.objs.size, rawInt 0, .none, .none] }) (s.heap.objs.size + 1) s.heap.objs.size 0 .none := by
    have z := Heap.get?_push_size (s.heap.push { cls := .type "tuple_iterator", data := .fields #[.ref tt, .int 0 0] }) (o := { cls := .type "enumerate", data := .fields #[.none, .bool false, .ref s.heap.objs.size, rawInt 0, .none, .none] }) rfl
    rw [e1] at z
    exact z
  exact ⟨⟨_, e2, rfl⟩, k _ e2 ⟨_, Heap.get?_push_of_some _ (Heap.get?_push_size _ rfl), rfl, rfl⟩ fun b o x => Heap.get?_push_of_some _ (Heap.get?_push_of_some _ x)⟩
end
/-- the tuple at a, each item in a new pair with its number -/
def IteT (K : PySem.W.Frag) (a : Addr) : It :=
  ⟨fun i H => ∃ (xs : List V) (x : V), SqT K H a xs ∧ xs[i]? = some x, fun i H v H' => ∃ T x, v = .ref T ∧ H T = none ∧ H' = upd H T (.tup [.int (i : Nat), x]) ∧ ∀ xs, SqT K H a xs → xs[i]? = some x, fun i H => ∃ xs : List V, SqT K H a xs ∧ xs.length ≤ i⟩
theorem turn_enumT {P : Program} {w : World} {K : PySem.W.Frag} {elts : List Expr} {kk : Nat} {tpos : Pos} (a e it : Addr) (hat : a ≠ it) (hae : a ≠ e) :
    Turn P w K (.Tuple elts kk tpos) (IteT K a) [e, it] e (fun i h => (∃ old, IsEnum h e it ((i : Nat) : Int) old) ∧ h.IsTupleIter it a i ∧ e ≠ it) where
  mem := List.mem_cons_self
  obj := fun i h st b hb => by
    obtain ⟨⟨old, he⟩, ⟨o, ho, _, hd⟩, _⟩ := st
    rcases List.mem_cons.mp hb with z | z
    · rw [z]
      exact ⟨_, he, fun v q => nomatch q⟩
    · exact ⟨o, by rw [List.mem_singleton.mp z]; exact ho, fun v q => by rw [hd] at q; cases q⟩
  keep := fun i h h' ⟨⟨old, he⟩, hi, hne⟩ k => ⟨⟨old, k e (by simp) _ he⟩, hi.at fun o e => k it (by simp) o e, hne⟩
  item := by
    intro X e1 e2 e3 hc i pins s σ H E I hf ⟨⟨old, he⟩, hit, hne⟩ ⟨xs, x, hq, hx⟩
    subst e1 e2 e3
    obtain ⟨its, rv, p, hz⟩ := I.tuple hq
    obtain ⟨u, hu, ru⟩ := rv.get hx
    have hel : e < s.heap.objs.size := Heap.lt_size he
    have hil : it < s.heap.objs.size := by
      obtain ⟨_, q, _⟩ := hit
      exact Heap.lt_size q
    have p' : s.heap.IsTuple a its.toArray := p
    have hlt : i < its.toArray.size := by
      rw [List.size_toArray]
      exact (List.getElem?_eq_some_iff.mp hu).1
    refine wpAny_pyNext_enum_itemD (fp := [it, a]) (Draws.tuple (A := X.A.in1) (show X.A.in1.handled = none from I.ok.hd hc) it a hat its.toArray) he ⟨hit, p'⟩ hlt hne (by simp [hne, Ne.symm hae]) fun x2 g tk hx2 ho hst hT hsz hk => ?_
    have ex : x2 = u := by
      have z : its.toArray[i]? = some x2 := hx2
      rw [List.getElem?_toArray, hu] at z
      exact (Option.some.inj z).symm
    subst ex
    refine ⟨_, rfl, wpAny_letOwnedTupleGo_enum (s := { s with heap := g, toks := tk + 1 }) ho fun g2 he2 sb => ?_⟩
    have hT2 : g2.get? s.heap.objs.size = some { cls := .type "tuple", data := .seq #[.int i tk, x2] } := (sb.2 _ (Nat.ne_of_gt hel)).trans hT
    have made : ObjOk X.prog X.w (upd H s.heap.objs.size (.tup [.int (i : Nat), x])) g2 s.heap.objs.size (.tup [.int (i : Nat), x]) :=
      ⟨two_le, [.int i tk, x2], .cons ⟨_, rfl⟩ (.cons ru .nil), ⟨_, hT2, rfl, _, rfl⟩⟩
    have I1 : Inv X pins σ (upd H s.heap.objs.size (.tup [.int (i : Nat), x])) { s with heap := g2, toks := tk + 1 } :=
      I.turnedNew (ch := [e, it]) (fun b ob hb q => (sb.2 b fun z => hb (by rw [z]; exact List.mem_cons_self)).trans (hk b ob (fun z => hb (by rw [z]; exact List.mem_cons_self)) (fun z => hb (by rw [z]; simp)) q)) hf (Nat.le_refl _) made
    have e0 : ((i + 1 : Nat) : Int) = (i : Int) + 1 := by omega
    refine ⟨.ref s.heap.objs.size, _, I1, rfl, ⟨_, x, rfl, I.hok.fresh (Nat.le_refl _), rfl, fun ys hy => by rw [I.tuple_inj hy hq]; exact hx⟩, ⟨⟨x2, by rw [e0]; exact he2⟩, hst.1.at fun o q => (sb.2 it (Ne.symm hne)).trans q, hne⟩, fun b hb => ?_⟩
    have lt : b < s.heap.objs.size := by
      rcases List.mem_cons.mp hb with z | z
      · rw [z]
        exact hel
      · rw [List.mem_singleton.mp z]
        exact hil
    exact (upd_ne (Nat.ne_of_lt lt)).trans (hf b hb).1
  done := by
    intro X e1 e2 e3 hc i pins s σ H E I hf ⟨⟨old, he⟩, hit, hne⟩ ⟨xs, hq, hx⟩
    subst e1 e2 e3
    obtain ⟨its, rv, p, hz⟩ := I.tuple hq
    obtain ⟨f0, f1, f2, f3, f4, f5⟩ := hf it (by simp)
    have hn : its.toArray.size ≤ i := by
      rw [List.size_toArray, ← rv.length]
      exact hx
    unfold pyNext
    have hT : s.TypeIs (.ref e) "enumerate" := ⟨_, he, rfl⟩
    refine wpAny_bind (wpAny_attempt (wpAny_callSpecial?_slot (name := Str.ofString "__next__") hT F.slot_enumerate_next (wpAny_call_entry F.slot_enumerate_next hT F.entry_enumerate_next ?_ (F.args_enumerate_next_1 _))))
    show wpAny _ _ (field (.ref e) 2 >>= _) _ _ _
    refine wpAny_bind (wpAny_field he rfl (x := .ref it) rfl (wpAny_bind (wpAny_nextOf_tuple_end (I.ok.hd hc) hit (show s.heap.IsTuple a its.toArray from p) (Array.getElem?_eq_none hn) fun g x hg ⟨o, ho, hco⟩ => ?_)))
    exact wpAny_bind (wpAny_isInstance (T := "StopIteration") (b := true) ⟨o, ho, hco⟩ isSubtype_stop (wpAny_pure ⟨rfl, I.turned (t' := s.toks) (fun b o hb e => hg b o hb e) f0 f1 f3 f4 f5⟩))
  self := fun A i s Q E ⟨⟨_, he⟩, _⟩ q => wpAny_pyIter_enum he q
def iEnumT (K : PySem.W.Frag) (ta : TA) : TI := fun σ H R => ta σ H fun vs H1 => ∃ a xs, vs = [.ref a] ∧ SqT K H1 a xs ∧ R (IteT K a) H1
theorem pi_enumT {X : Cx} {e : Expr} {ta : TA} {p pos tpos : Pos} {elts : List Expr} {kk : Nat} (hg : Gl X "enumerate") (hm : X.mg "enumerate" = none) (ha : PA X [e] ta) (hs : starEach [e] X.env = [(false, eval e X.env)] := by rfl) :
    PI X (.Tuple elts kk tpos) (.Call (.Name "enumerate" p) [e] [] pos) (iEnumT X.K ta) := by
  refine ⟨fun pins s σ H R I q0 => Call_ (ld_blt I hg hm boot_enumerate (PyProof.Rows.callWith_type1 (thn (ha.run pos pins s σ H _ I q0) fun us s1 ⟨vs, H1, I1, r1, a, xs, ex, hq, q⟩ => ?_) hs rfl))⟩
  subst ex
  cases r1 with
  | cons r rr =>
    cases rr
    cases r
    obtain ⟨its, rv, p', hz⟩ := I1.tuple hq
    have hal : a < s1.heap.objs.size := by
      obtain ⟨o, ho, _⟩ := p'
      exact Heap.lt_size ho
    refine call_enumT (show s1.heap.IsTuple a its.toArray from p') fun g he hit hk => wpAny_pyIter_enum he ?_
    have I2 : Inv X pins σ H1 { s1 with heap := g } := I1.kept (t' := s1.toks) hk
    refine ⟨s1.heap.objs.size + 1, [s1.heap.objs.size + 1, s1.heap.objs.size], _, _, H1, rfl, I2, turn_enumT a (s1.heap.objs.size + 1) s1.heap.objs.size (Nat.ne_of_lt hal) (Nat.ne_of_lt (Nat.lt_succ_of_lt hal)), ⟨⟨.none, he⟩, hit, Nat.succ_ne_self _⟩, fun b hb => ?_, q⟩
    have le : s1.heap.objs.size ≤ b := by
      rcases List.mem_cons.mp hb with z | z
      · rw [z]
        exact Nat.le_add_right _ _
      · rw [List.mem_singleton.mp z]
        exact Nat.le_refl _
    exact I1.fpOk le (I1.hok.fresh le)
theorem walk_enumT {K : PySem.W.Frag} {a : Addr} {xs : List V} : Walk (IteT K a) xs.length (fun H => SqT K H a xs) (YPair (fun i => some (.int (i : Nat))) (fun i => xs[i]?)) := by
  refine ⟨fun i _ hi q => ⟨xs, xs[i], q, List.getElem?_eq_getElem hi⟩, fun _ q => ⟨xs, q, Nat.le_refl _⟩, fun i H v H' _ q ⟨T, x, h1, h2, h3, h4⟩ => ⟨T, .int (i : Nat), x, h1, h2, h3, rfl, h4 xs q⟩⟩
end One
end P_E5

section P_M4
set_option linter.all false
namespace One
/-! ### the look at a yard, line by line -/
def leB (p q : Nat × Nat) : Bool := decide (p.1 < q.1) || (decide (p.1 = q.1) && decide (p.2 ≤ q.2))
def notUp (p : Nat × Nat) : Option (Nat × Nat) → Bool
  | none => false
  | some q => leB p q
/-- the number of the first thing that can't be: none is what is no line -/
def goF : Nat → List Nat → Option (Nat × Nat) → List (Option (Nat × Nat)) → Option Nat
  | _, _, _, [] => none
  | k, _, _, none :: _ => some k
  | k, met, ah, some p :: r => if notUp p ah || met.contains p.1 || met.contains p.2 then some k else goF (k + 1) (met ++ [p.1, p.2]) (some p) r
theorem goF_pairs : ∀ (os : List (Option (Nat × Nat))) (k : Nat) (met : List Nat) (ah : Option (Nat × Nat)), goF k met ah os = none → os = (os.filterMap id).map some
  | [], _, _, _, _ => rfl
  | none :: r, k, met, ah, h => by cases h
  | some p :: r, k, met, ah, h => by
    unfold goF at h
    split at h
    · cases h
    · have := goF_pairs r _ _ _ h
      simp only [List.filterMap_cons, id, List.map_cons]
      rw [← this]
theorem goF_good : ∀ (ps : List (Nat × Nat)) (k : Nat) (met : List Nat) (ah : Option (Nat × Nat)), (∀ q, ah = some q → ∀ p ∈ ps, ltP q p) → ps.Pairwise ltP → (met ++ ends ps).Nodup → goF k met ah (ps.map some) = none
  | [], _, _, _, _, _, _ => rfl
  | p :: r, k, met, ah, h1, h2, h3 => by
    obtain ⟨hp, hr⟩ := List.pairwise_cons.mp h2
    have h3 : (met ++ (p.1 :: p.2 :: ends r)).Nodup := h3
    have n1 : ¬ p.1 ∈ met := fun m => (List.nodup_append.mp h3).2.2 _ m p.1 (by simp) rfl
    have n2 : ¬ p.2 ∈ met := fun m => (List.nodup_append.mp h3).2.2 _ m p.2 (by simp) rfl
    have up : notUp p ah = false := by
      cases e : ah with
      | none => rfl
      | some q =>
        have := h1 q e p (List.mem_cons.mpr (.inl rfl))
        unfold ltP at this
        unfold notUp leB
        simp only [Bool.or_eq_false_iff, Bool.and_eq_false_iff, decide_eq_false_iff_not]
        omega
    show (if notUp p ah || met.contains p.1 || met.contains p.2 then some k else goF (k + 1) (met ++ [p.1, p.2]) (some p) (r.map some)) = none
    rw [if_neg (by simp [up, n1, n2])]
    refine goF_good r _ _ _ (fun q e x hx => ?_) hr ?_
    · cases e
      exact hp x hx
    · rw [List.append_assoc]
      exact h3
theorem yard_good {n : Nat} {L : List (Nat × Nat)} (y : Yard n L) : goF 0 [] none (L.map some) = none := goF_good L 0 [] none (fun _ e => by cases e) y.up (by simpa using y.lines.nd)
end One
end P_M4

section P_E6
set_option linter.all false
set_option maxRecDepth 100000
set_option maxHeartbeats 8000000
namespace One
open PySem PySem.Spec PyProof.Rows L2
abbrev nFault : List Str := ["thing", "many_ends", "taken", "ahead", "number", "line"]
/-- things that stand in a tuple, and what lines they are -/
inductive IL (H : Hp) (n : Nat) : List V → List (Option (Nat × Nat)) → Prop
  | nil : IL H n [] []
  | line {a p xs os} : PAt H a p → p.1 < p.2 → p.2 < n → IL H n xs os → IL H n (.ref a :: xs) (some p :: os)
  | flat {x T xs os} : TV H x T → isTup T = false → IL H n xs os → IL H n (x :: xs) (none :: os)
  | tup {a ys xs os} : H a = some (.tup ys) → (∀ y ∈ ys, ∃ T, TV H y T) → lineB ys n = false → IL H n xs os → IL H n (.ref a :: xs) (none :: os)
theorem IL.len {H : Hp} {n : Nat} {xs : List V} {os : List (Option (Nat × Nat))} (h : IL H n xs os) : xs.length = os.length := by
  induction h with
  | nil => rfl
  | line _ _ _ _ ih => simp [ih]
  | flat _ _ _ ih => simp [ih]
  | tup _ _ _ _ ih => simp [ih]
theorem IL.pairs {H : Hp} {n : Nat} : ∀ {ps : List (Nat × Nat)} {xs : List V}, IL H n xs (ps.map some) → ∃ as, xs = refs as ∧ PL H as ps ∧ ∀ p ∈ ps, p.1 < p.2 ∧ p.2 < n
  | [], _, .nil => ⟨[], rfl, .nil, fun p h => absurd h (by simp)⟩
  | p :: r, _, .line h1 h2 h3 t => by
    obtain ⟨as, e, h4, h5⟩ := IL.pairs t
    exact ⟨_ :: as, by rw [e]; rfl, .cons h1 h4, fun q hq => (List.mem_cons.mp hq).elim (fun e => e ▸ ⟨h2, h3⟩) (h5 q)⟩
theorem TV.mono {H H' : Hp} {v : V} {T : String} (h : TV H v T) (k : Same H H') : TV H' v T := by
  cases h with
  | non => exact .non
  | bl b => exact .bl b
  | int i => exact .int i
  | str x => exact .str x
  | tup e => exact .tup (k _ _ e)
  | lst e => exact .lst (k _ _ e)
  | dct e => exact .dct (k _ _ e)
theorem IL.mono {H H' : Hp} {n : Nat} {xs : List V} {os : List (Option (Nat × Nat))} (h : IL H n xs os) (k : Same H H') : IL H' n xs os := by
  induction h with
  | nil => exact .nil
  | line h1 h2 h3 _ ih => exact .line (k _ _ h1) h2 h3 ih
  | flat h1 h2 _ ih => exact .flat (h1.mono k) h2 ih
  | tup h1 h2 h3 _ ih => exact .tup (k _ _ h1) (fun y m => let ⟨T, t⟩ := h2 y m; ⟨T, t.mono k⟩) h3 ih
theorem IL.split {H : Hp} {n : Nat} {xs : List V} {os : List (Option (Nat × Nat))} (h : IL H n xs os) : ∀ {i : Nat} {x : V}, xs[i]? = some x → ∃ o, os[i]? = some o ∧ IL H n [x] [o] := by
  induction h with
  | nil => intro i x e; simp at e
  | line h1 h2 h3 _ ih =>
    intro i x e
    cases i with
    | zero =>
      have e := Option.some.inj e
      subst e
      exact ⟨_, rfl, .line h1 h2 h3 .nil⟩
    | succ i => exact ih (i := i) (by simpa using e)
  | flat h1 h2 _ ih =>
    intro i x e
    cases i with
    | zero =>
      have e := Option.some.inj e
      subst e
      exact ⟨_, rfl, .flat h1 h2 .nil⟩
    | succ i => exact ih (i := i) (by simpa using e)
  | tup h1 h2 h3 _ ih =>
    intro i x e
    cases i with
    | zero =>
      have e := Option.some.inj e
      subst e
      exact ⟨_, rfl, .tup h1 h2 h3 .nil⟩
    | succ i => exact ih (i := i) (by simpa using e)
/-- the line that stood ahead -/
def AheadAt (H : Hp) (a : Addr) : Option (Nat × Nat) → Prop
  | none => H a = some (.tup [])
  | some q => PAt H a q
theorem le_none (p : Nat × Nat) : Ob.lexAt (fun j => decide (([(p.1 : Int), (p.2 : Int)] : List Int).getD j 0 = ([] : List Int).getD j 0)) (fun j => decide (([(p.1 : Int), (p.2 : Int)] : List Int).getD j 0 ≤ ([] : List Int).getD j 0)) (decide (([(p.1 : Int), (p.2 : Int)] : List Int).length ≤ ([] : List Int).length)) 0 (min ([(p.1 : Int), (p.2 : Int)] : List Int).length ([] : List Int).length) = false := rfl
theorem le_some (p q : Nat × Nat) : Ob.lexAt (fun j => decide (([(p.1 : Int), (p.2 : Int)] : List Int).getD j 0 = ([(q.1 : Int), (q.2 : Int)] : List Int).getD j 0)) (fun j => decide (([(p.1 : Int), (p.2 : Int)] : List Int).getD j 0 ≤ ([(q.1 : Int), (q.2 : Int)] : List Int).getD j 0)) (decide (([(p.1 : Int), (p.2 : Int)] : List Int).length ≤ ([(q.1 : Int), (q.2 : Int)] : List Int).length)) 0 (min ([(p.1 : Int), (p.2 : Int)] : List Int).length ([(q.1 : Int), (q.2 : Int)] : List Int).length) = leB p q := by
  show (if decide ((p.1 : Int) = (q.1 : Int)) = true then (if decide ((p.2 : Int) = (q.2 : Int)) = true then true else decide ((p.2 : Int) ≤ (q.2 : Int))) else decide ((p.1 : Int) ≤ (q.1 : Int))) = leB p q
  unfold leB
  rw [Bool.eq_iff_iff]
  simp only [decide_eq_true_eq, Bool.or_eq_true, Bool.and_eq_true]
  constructor
  · intro h
    split at h
    · split at h
      · omega
      · simp only [decide_eq_true_eq] at h
        omega
    · simp only [decide_eq_true_eq] at h
      omega
  · intro h
    split
    · split
      · rfl
      · simp only [decide_eq_true_eq]
        omega
    · simp only [decide_eq_true_eq]
      omega
def spFault : Sp := fun vs H Q _ => ∃ v : V, vs = [v] ∧
  (((∃ T, TV H v T ∧ isTup T = false) ∨ ∃ (t : Addr) (xs : List V), v = .ref t ∧ H t = some (.tup xs) ∧ canBe (xs.length : Nat) = false) ∧ (∀ (H' : Hp) (p : Addr), Same H H' → H' p = some (.tup []) → Q (.ref p) H') ∨
  ∃ (t : Addr) (xs : List V) (os : List (Option (Nat × Nat))), v = .ref t ∧ H t = some (.tup xs) ∧ canBe (xs.length : Nat) = true ∧ IL H (2 * xs.length) xs os ∧
    (∀ k, goF 0 [] none os = some k → ∀ (H' : Hp) (p : Addr), Same H H' → H' p = some (.tup [.int (k : Nat)]) → Q (.ref p) H') ∧
    (goF 0 [] none os = none → ∀ ps, os = ps.map some → (Whole (xs.length / 2) ps → ∀ H', Same H H' → Q .non H') ∧ (¬ Whole (xs.length / 2) ps → ∀ (H' : Hp) (p : Addr), Same H H' → H' p = some (.tup [.int (xs.length : Nat)]) → Q (.ref p) H')))
section
variable {P : Program} {w : World} {K : PySem.W.Frag} {mg : Str → Option Value} {base : Heap}
end
end One
end P_E6

section P_WF
set_option linter.all false
set_option maxRecDepth 100000
set_option maxHeartbeats 8000000
namespace One
open PySem PySem.Spec PyProof.Rows L2
abbrev sWF : Stmt := top 10
abbrev nWF : List Str := ["thing", "many", "is_draft", "number", "way"]
theorem scWF : FnScope nWF ["thing", "many", "is_draft"] (defScope sWF) := ⟨rfl, rfl, rfl, by decide +kernel, rfl, by decide +kernel, by decide +kernel⟩
/-- a way, or, of a draft, none -/
def okW (isd : Bool) (v : V) : Bool := belowV v 3 || (isd && decide (v = .non))
def spWays : Sp := fun vs H Q _ => ∃ (v : V) (T : String) (n : Nat) (isd : Bool), vs = [v, .int (n : Nat), .bl isd] ∧ TV H v T ∧
  (((∀ t xs, v = .ref t → H t = some (.tup xs) → xs.length ≠ n) ∧ ∀ (H' : Hp) (p : Addr), Same H H' → H' p = some (.tup []) → Q (.ref p) H') ∨
   ∃ (t : Addr) (xs : List V), v = .ref t ∧ H t = some (.tup xs) ∧ xs.length = n ∧ (∀ x ∈ xs, ∃ T, TV H x T) ∧ (xs.all (okW isd) = true → ∀ H', Same H H' → Q .non H') ∧
     ∀ (i : Nat) (x : V), xs[i]? = some x → okW isd x = false → (xs.take i).all (okW isd) = true → ∀ (H' : Hp) (p : Addr), Same H H' → H' p = some (.tup [.int (i : Nat)]) → Q (.ref p) H')
section
variable {P : Program} {w : World} {K : PySem.W.Frag} {mg : Str → Option Value} {base : Heap}
theorem ok_ways {f fB : Addr} {fd fdB : FuncData} (F : Fun K "ways_fault" "ways_fault" sWF f fd) (T : TB mg) (w3 : ∃ t, mg "MANY_WAYS" = some (.int 3 t)) (B : Cal K mg "is_below" fB fdB ["thing", "many"]) (GB : FnOk P w K mg base CX0 2 fB fdB ["thing", "many"] spIsBelow) :
    FnOk P w K mg base CX0 3 f fd ["thing", "many", "is_draft"] spWays := by
  refine F.ok scWF (fun vs H Q E h => ?_) (fun cdv A outer s H vs Q E hr h => ?_)
  · obtain ⟨v, Tt, n, isd, rfl, _⟩ := h
    rfl
  · obtain ⟨v, Tt, n, isd, rfl, hv, hc⟩ := h
    have nd := scWF.nd
    have hr2 : Room 2 _ := hr
    obtain ⟨u3, ht3⟩ := w3
    refine ⟨_, pss_cons (ps_if (PW.pt (pw_or (pt_not (pt_val (pe_callB call_isi (by rfl) T.isinstance boot_isinstance (pa_cons (pv 0) (pa_cons (pe_bltn (v := .ty "tuple") (by rfl) T.tuple boot_tuple rfl) pa_nil))))) (pw_or1 (pt_cmpR op_ne (pe_callB call_len_seq (by rfl) T.len PySem.boot_len (pa_cons (pv 0) pa_nil)) (pv 1) (nomark _))))) (pss_one (ps_ret (pe_tup pa_nil))) pss_nil)
      (pss_cons (ps_for PassesOwn.never rfl (pi_enumT (by rfl) T.enumerate (pa_cons (pv 0) pa_nil)) (pg_tup rfl (pgs_cons (pg_name (i := 3) nd rfl (Or.inl rfl)) (pgs_cons (pg_name (i := 4) nd rfl (Or.inl rfl)) pgs_nil)))
        (pss_one (ps_if (PW.pt (pw_and (pt_not (pt_val (pe_call GB hr2 rfl B.g B.kp B.b .nil pass0 (pa_cons (pv 4) (pa_cons (pe_glob (v := .int 3) rfl ht3 ⟨_, rfl⟩) pa_nil))))) (pw_and1 (pt_not (PW.pt (pw_and (pt_val (pv 2)) (pw_and1 (pt_cmpR op_isN (pv 4) pe_non (nomark _))))))))) (pss_one (ps_ret (pe_tup (pa_cons (pv 3) pa_nil)))) pss_nil)))
      (pss_one (ps_ret pe_non))), ?_⟩
    refine ⟨_, rfl, _, _, _, _, _, rfl, .ty _, hv.tyx, hv.kTup, _, rfl, ?_⟩
    rcases hc with ⟨hno, k⟩ | ⟨t, xs, rfl, ht, hl, hx, kgood, kbad⟩
    · cases hT : isTup Tt with
      | false => exact iteT (iteT ⟨Nat.zero_le _, fun p hp => k _ p (Same.new hp) upd_same⟩)
      | true =>
        obtain ⟨t, xs, rfl, ht⟩ : ∃ t xs, v = .ref t ∧ H t = some (.tup xs) := by
          cases hv with
          | @tup a xs e => exact ⟨a, xs, rfl, e⟩
          | non => exact absurd hT (by decide)
          | bl b => exact absurd hT (by decide)
          | int i => exact absurd hT (by decide)
          | str x => exact absurd hT (by decide)
          | lst e => exact absurd hT (by decide)
          | dct e => exact absurd hT (by decide)
        have hne := hno t xs rfl ht
        refine iteF ⟨_, rfl, t, _, rfl, .inr (SqT.of ht), _, rfl, rfl, _, rfl, ?_⟩
        have e : decide (V.int (xs.length : Nat) = V.int (n : Nat)) = false := decide_eq_false fun z => hne (by
          have := V.int.inj z
          omega)
        rw [e]
        exact iteT ⟨Nat.zero_le _, fun p hp => k _ p (Same.new hp) upd_same⟩
    · have eT : isTup Tt = true := by
        cases hv with
        | tup e => rfl
        | lst e => cases ht.symm.trans e
        | dct e => cases ht.symm.trans e
      rw [eT]
      refine iteF ⟨_, rfl, t, _, rfl, .inr (SqT.of ht), _, rfl, rfl, _, rfl, ?_⟩
      have e : decide (V.int (xs.length : Nat) = V.int (n : Nat)) = true := decide_eq_true (by rw [hl])
      rw [e]
      refine iteF ?_
      refine ⟨_, rfl, t, _, rfl, SqT.of ht, for_it (walk_enumT (K := K) (a := t) (xs := xs)) (fun i σ H2 => ∃ v3 v4 : Option V, σ = [some (.ref t), some (.int (n : Nat)), some (.bl isd), v3, v4] ∧ Same H H2 ∧ (xs.take i).all (okW isd) = true) ⟨none, none, rfl, Same.refl H, rfl⟩ (fun i σ H2 _ ⟨_, _, _, s', _⟩ => SqT.of (s' _ _ ht)) ?_ ?_⟩
      · rintro i x σ H2 H3 hi ⟨v3, v4, rfl, s2, a2⟩ ⟨q, x', y', rfl, hq, rfl, ex, ey⟩
        cases ex
        have ey : xs[i]? = some y' := ey
        have s3 := Same.new (o := .tup [V.int (i : Nat), y']) hq
        have sA := s2.trans s3
        obtain ⟨Ty, hy⟩ := hx y' (List.mem_of_getElem? ey)
        refine ⟨q, _, rfl, SqT.of upd_same, rfl, _, _, rfl, _, _, rfl, rfl, ?_⟩
        generalize upd H2 q (.tup [V.int (i : Nat), y']) = H3 at sA
        have a3 : okW isd y' = true → (xs.take (i + 1)).all (okW isd) = true := fun h => by
          rw [List.take_succ, ey, Option.toList_some, List.all_append, a2]
          show (true && (okW isd y' && true)) = true
          rw [h]
          rfl
        refine ⟨_, rfl, y', 3, Ty, rfl, hy.mono sA, _, rfl, ?_⟩
        cases hb : belowV y' 3 with
        | true =>
          refine iteF (iteF ?_)
          exact ⟨_, _, rfl, sA, a3 (by unfold okW; rw [hb]; rfl)⟩
        | false =>
          refine iteT ⟨_, rfl, isd, rfl, ?_⟩
          cases hd : isd with
          | false =>
            refine iteF (iteT ?_)
            subst hd
            refine ⟨_, rfl, (by show 1 ≤ sizeLine; decide), fun p hp => kbad i y' ey ?_ a2 _ p (sA.trans (Same.new hp)) upd_same⟩
            unfold okW
            rw [hb]
            rfl
          | true =>
            subst hd
            refine iteT ⟨_, rfl, rfl, _, rfl, ?_⟩
            cases hn : decide (y' = V.non) with
            | true =>
              refine iteF ?_
              exact ⟨_, _, rfl, sA, a3 (by unfold okW; rw [hb, hn]; rfl)⟩
            | false =>
              refine iteT ?_
              refine ⟨_, rfl, (by show 1 ≤ sizeLine; decide), fun p hp => kbad i y' ey ?_ a2 _ p (sA.trans (Same.new hp)) upd_same⟩
              unfold okW
              rw [hb, hn]
              rfl
      · rintro σ H2 ⟨v3, v4, rfl, s2, a2⟩
        rw [List.take_length] at a2
        exact kgood a2 _ s2
end
end One
end P_WF

section P_M25
set_option linter.all false
set_option maxRecDepth 100000
set_option maxHeartbeats 8000000
/-! Rows of bits as numbers, sums of them, those that are sums of rows ahead. -/
namespace One
/-- the number that has a bit for each column -/
def bitsN (cs : List Nat) : Nat := (cs.map fun c => 2 ^ c).sum
theorem bitsN_app (a b : List Nat) : bitsN (a ++ b) = bitsN a + bitsN b := by
  unfold bitsN
  rw [List.map_append, List.sum_append]
theorem bitsN_perm {a b : List Nat} (h : a.Perm b) : bitsN a = bitsN b := (h.map _).sum_nat
theorem bits_facts : ∀ (n : Nat) (l : List Nat), l.length = n → l.Pairwise (· < ·) → (∀ m, (∀ x ∈ l, x < m) → bitsN l < 2 ^ m) ∧ ∀ j, (bitsN l).testBit j = decide (j ∈ l) := by
  intro n
  induction n with
  | zero =>
    intro l hl _
    obtain rfl := List.eq_nil_of_length_eq_zero hl
    refine ⟨fun m _ => Nat.two_pow_pos m, fun j => ?_⟩
    rw [show bitsN [] = 0 from rfl, Nat.zero_testBit]
    rfl
  | succ n ih =>
    intro l hl hp
    rcases List.eq_nil_or_concat l with rfl | ⟨l', c, rfl⟩
    · cases hl
    · rw [List.concat_eq_append] at hl hp ⊢
      rw [List.length_append] at hl
      obtain ⟨p1, _, p3⟩ := List.pairwise_append.mp hp
      obtain ⟨a, b⟩ := ih l' (by simpa using hl) p1
      have hc : bitsN l' < 2 ^ c := a c fun x hx => p3 x hx c (List.mem_singleton.mpr rfl)
      have e : bitsN (l' ++ [c]) = 2 ^ c + bitsN l' := by
        rw [bitsN_app, Nat.add_comm]
        show 2 ^ c + 0 + _ = _
        rw [Nat.add_zero]
      rw [e]
      refine ⟨fun m h => ?_, fun j => ?_⟩
      · have h1 : c + 1 ≤ m := h c (List.mem_append_right _ (List.mem_singleton.mpr rfl))
        have h2 : 2 ^ (c + 1) ≤ 2 ^ m := Nat.pow_le_pow_right (by decide) h1
        have h3 : 2 ^ (c + 1) = 2 ^ c * 2 := Nat.pow_succ ..
        omega
      · rcases Nat.lt_trichotomy j c with h | h | h
        · rw [Nat.testBit_two_pow_add_gt h, b j]
          exact decide_eq_decide.mpr ⟨fun z => List.mem_append_left _ z, fun z => (List.mem_append.mp z).elim id fun y => by
            have := List.mem_singleton.mp y
            omega⟩
        · subst h
          rw [Nat.testBit_two_pow_add_eq, b j, decide_eq_false fun z => Nat.lt_irrefl _ (p3 j z j (List.mem_singleton.mpr rfl))]
          exact (decide_eq_true (List.mem_append_right _ (List.mem_singleton.mpr rfl))).symm
        · have h2 : 2 ^ (c + 1) ≤ 2 ^ j := Nat.pow_le_pow_right (by decide) h
          have h3 : 2 ^ (c + 1) = 2 ^ c * 2 := Nat.pow_succ ..
          rw [Nat.testBit_lt_two_pow (by omega)]
          exact (decide_eq_false fun z => (List.mem_append.mp z).elim (fun y => Nat.lt_asymm h (p3 j y c (List.mem_singleton.mpr rfl))) fun y => by
            have := List.mem_singleton.mp y
            omega).symm
theorem bits_lt {l : List Nat} {m : Nat} (hp : l.Pairwise (· < ·)) (h : ∀ x ∈ l, x < m) : bitsN l < 2 ^ m := (bits_facts _ l rfl hp).1 m h
theorem bits_at {l : List Nat} (hp : l.Pairwise (· < ·)) (j : Nat) : (bitsN l).testBit j = decide (j ∈ l) := (bits_facts _ l rfl hp).2 j
/-! ### the length of a number -/
def bl (n : Nat) : Nat := if n = 0 then 0 else n.log2 + 1
theorem bl_zero {n : Nat} : bl n = 0 ↔ n = 0 := by
  unfold bl
  constructor
  · intro h
    split at h
    · assumption
    · omega
  · rintro rfl
    rfl
theorem bl_of {n k : Nat} (h0 : n ≠ 0) (h : bl n = k + 1) : 2 ^ k ≤ n ∧ n < 2 ^ (k + 1) := by
  unfold bl at h
  rw [if_neg h0] at h
  exact (Nat.log2_eq_iff h0).mp (by omega)
theorem bl_is {n k : Nat} (h1 : 2 ^ k ≤ n) (h2 : n < 2 ^ (k + 1)) : bl n = k + 1 := by
  have h0 : n ≠ 0 := by
    have := Nat.two_pow_pos k
    omega
  unfold bl
  rw [if_neg h0, (Nat.log2_eq_iff h0).mpr ⟨h1, h2⟩]
theorem bl_lt {n k : Nat} (h : n < 2 ^ k) : bl n ≤ k := by
  unfold bl
  split
  · omega
  · next h0 =>
    have h1 := Nat.log2_self_le h0
    have : n.log2 < k := (Nat.pow_lt_pow_iff_right (by decide : 1 < 2)).mp (by omega)
    omega
theorem bl_same {u v : Nat} (hu : u ≠ 0) (hv : v ≠ 0) (h : bl u = bl v) : bl (u ^^^ v) < bl u := by
  obtain ⟨k, hk⟩ : ∃ k, bl u = k + 1 := ⟨bl u - 1, by
    have : bl u ≠ 0 := fun z => hu (bl_zero.mp z)
    omega⟩
  obtain ⟨a, b⟩ := bl_of hu hk
  obtain ⟨c, d⟩ := bl_of hv (h ▸ hk)
  have tu := Nat.testBit_of_two_pow_le_and_two_pow_add_one_gt a b
  have tv := Nat.testBit_of_two_pow_le_and_two_pow_add_one_gt c d
  have hx : u ^^^ v < 2 ^ k := Nat.lt_pow_two_of_testBit _ fun i hi => by
    rcases Nat.eq_or_lt_of_le hi with e | e
    · subst e
      rw [Nat.testBit_xor, tu, tv]
      rfl
    · have h2 : 2 ^ (k + 1) ≤ 2 ^ i := Nat.pow_le_pow_right (by decide) e
      rw [Nat.testBit_xor, Nat.testBit_lt_two_pow (by omega), Nat.testBit_lt_two_pow (by omega)]
      rfl
  have := bl_lt hx
  omega
theorem bl_less {u v : Nat} (h : bl u < bl v) : bl (u ^^^ v) = bl v := by
  have hv : v ≠ 0 := fun z => by
    have := bl_zero.mpr z
    omega
  obtain ⟨k, hk⟩ : ∃ k, bl v = k + 1 := ⟨bl v - 1, by omega⟩
  obtain ⟨c, d⟩ := bl_of hv hk
  have tv := Nat.testBit_of_two_pow_le_and_two_pow_add_one_gt c d
  have hu : u < 2 ^ k := by
    rcases Nat.eq_zero_or_pos u with e | e
    · rw [e]
      exact Nat.two_pow_pos k
    · obtain ⟨i, hi⟩ : ∃ i, bl u = i + 1 := ⟨bl u - 1, by
        have : bl u ≠ 0 := fun z => by
          have := bl_zero.mp z
          omega
        omega⟩
      have := (bl_of (by omega) hi).2
      have h2 : 2 ^ (i + 1) ≤ 2 ^ k := Nat.pow_le_pow_right (by decide) (by omega)
      omega
  rw [hk]
  refine bl_is (Nat.ge_two_pow_of_testBit ?_) (Nat.xor_lt_two_pow (by
    have h3 : 2 ^ (k + 1) = 2 ^ k * 2 := Nat.pow_succ ..
    omega) d)
  rw [Nat.testBit_xor, tv, Nat.testBit_lt_two_pow hu]
  rfl
theorem bl_ne {u v : Nat} (h : bl u ≠ bl v) : bl (u ^^^ v) = bl u ∨ bl (u ^^^ v) = bl v := by
  rcases Nat.lt_or_gt_of_ne h with e | e
  · exact .inr (bl_less e)
  · rw [Nat.xor_comm]
    exact .inl (bl_less e)
/-! ### sums of rows -/
section
variable (b : Nat → Nat)
def vx (F : List Nat) (f : Nat → Bool) : Nat := F.foldr (fun c v => (if f c = true then b c else 0) ^^^ v) 0
theorem vx_cons (c : Nat) (F : List Nat) (f : Nat → Bool) : vx b (c :: F) f = (if f c = true then b c else 0) ^^^ vx b F f := rfl
theorem vx_congr {F : List Nat} {f g : Nat → Bool} (h : ∀ c ∈ F, f c = g c) : vx b F f = vx b F g := by
  induction F with
  | nil => rfl
  | cons c F ih => rw [vx_cons, vx_cons, h c List.mem_cons_self, ih fun x hx => h x (List.mem_cons_of_mem _ hx)]
theorem vx_none {F : List Nat} {f : Nat → Bool} (h : ∀ c ∈ F, f c = false) : vx b F f = 0 := by
  induction F with
  | nil => rfl
  | cons c F ih =>
    rw [vx_cons, h c List.mem_cons_self, ih fun x hx => h x (List.mem_cons_of_mem _ hx), Nat.xor_zero]
    rfl
theorem vx_app (F : List Nat) (c : Nat) (f : Nat → Bool) : vx b (F ++ [c]) f = vx b F f ^^^ (if f c = true then b c else 0) := by
  induction F with
  | nil =>
    show (if f c = true then b c else 0) ^^^ 0 = 0 ^^^ _
    rw [Nat.xor_zero, Nat.zero_xor]
  | cons d F ih => rw [List.cons_append, vx_cons, ih, vx_cons, Nat.xor_assoc]
theorem vx_xor (F : List Nat) (f g : Nat → Bool) : vx b F (fun c => f c ^^ g c) = vx b F f ^^^ vx b F g := by
  induction F with
  | nil => exact (Nat.xor_self 0).symm
  | cons c F ih =>
    rw [vx_cons, vx_cons, vx_cons, ih]
    refine Nat.eq_of_testBit_eq fun i => ?_
    simp only [Nat.testBit_xor]
    cases f c <;> cases g c <;> simp <;> cases (b c).testBit i <;> cases (vx b F f).testBit i <;> cases (vx b F g).testBit i <;> rfl
/-- no sum of rows is 0 but the empty one -/
def Ind (F : List Nat) : Prop := ∀ f, vx b F f = 0 → ∀ c ∈ F, f c = false
theorem Ind.uniq {F : List Nat} (h : Ind b F) {f g : Nat → Bool} (e : vx b F f = vx b F g) : ∀ c ∈ F, f c = g c := fun c hc => by
  have := h (fun c => f c ^^ g c) (by rw [vx_xor, e, Nat.xor_self]) c hc
  revert this
  show (f c ^^ g c) = false → _
  cases f c <;> cases g c <;> decide
theorem Ind.filt {F : List Nat} (h : Ind b F) {f g : Nat → Bool} (e : vx b F f = vx b F g) : F.filter f = F.filter g := List.filter_congr (h.uniq b e)
theorem Ind.nil : Ind b [] := fun _ _ _ h => nomatch h
theorem Ind.add {F : List Nat} {c : Nat} (h : Ind b F) (hn : ¬ ∃ f, b c = vx b F f) : Ind b (F ++ [c]) := fun f e x hx => by
  rw [vx_app] at e
  cases hc : f c with
  | true =>
    rw [hc, if_pos rfl] at e
    refine (hn ⟨f, ?_⟩).elim
    have : vx b F f ^^^ b c ^^^ b c = 0 ^^^ b c := by rw [e]
    rw [Nat.xor_assoc, Nat.xor_self, Nat.xor_zero, Nat.zero_xor] at this
    exact this.symm
  | false =>
    rw [hc, if_neg (by decide), Nat.xor_zero] at e
    rcases List.mem_append.mp hx with z | z
    · exact h f e x z
    · rw [List.mem_singleton.mp z]
      exact hc
open Classical in
/-- one crossing more: it is free, or told with those of which it is the sum -/
noncomputable def stepX (st : List Nat × List (List Nat)) (c : Nat) : List Nat × List (List Nat) :=
  if h : ∃ f, b c = vx b st.1 f then (st.1, st.2 ++ [st.1.filter (choose h) ++ [c]]) else (st.1 ++ [c], st.2)
theorem stepX_yes {F : List Nat} {T : List (List Nat)} {c : Nat} (hI : Ind b F) {f : Nat → Bool} (h : b c = vx b F f) : stepX b (F, T) c = (F, T ++ [F.filter f ++ [c]]) := by
  unfold stepX
  have hx : ∃ f, b c = vx b F f := ⟨f, h⟩
  rw [dif_pos hx]
  have e := hI.filt b ((Classical.choose_spec hx).symm.trans h)
  show (F, T ++ [F.filter _ ++ [c]]) = _
  rw [e]
theorem stepX_no {F : List Nat} {T : List (List Nat)} {c : Nat} (h : ¬ ∃ f, b c = vx b F f) : stepX b (F, T) c = (F ++ [c], T) := by
  unfold stepX
  exact dif_neg h
noncomputable def dueX (mk : List Nat) : List Nat × List (List Nat) := mk.foldl (stepX b) ([], [])
theorem dueX_take {mk : List Nat} {i c : Nat} (h : mk[i]? = some c) : dueX b (mk.take (i + 1)) = stepX b (dueX b (mk.take i)) c := by
  unfold dueX
  rw [List.take_succ, h, Option.toList_some, List.foldl_append]
  rfl
structure DueOk (mk : List Nat) : Prop where
  ind : Ind b (dueX b mk).1
  sub : (dueX b mk).1.Sublist mk
  len : (dueX b mk).2.length ≤ mk.length
theorem due_ok : ∀ (n : Nat) (mk : List Nat), mk.length = n → DueOk b mk := by
  intro n
  induction n with
  | zero =>
    intro mk h
    obtain rfl := List.eq_nil_of_length_eq_zero h
    exact ⟨Ind.nil b, List.Sublist.refl _, Nat.le_refl _⟩
  | succ n ih =>
    intro mk h
    rcases List.eq_nil_or_concat mk with rfl | ⟨l, c, rfl⟩
    · cases h
    · rw [List.concat_eq_append] at h ⊢
      have D := ih l (by simpa using h)
      have e : dueX b (l ++ [c]) = stepX b (dueX b l) c := by
        unfold dueX
        rw [List.foldl_append]
        rfl
      have e2 : stepX b (dueX b l) c = stepX b ((dueX b l).1, (dueX b l).2) c := rfl
      rw [e2] at e
      by_cases hx : ∃ f, b c = vx b (dueX b l).1 f
      · obtain ⟨f, hf⟩ := hx
        rw [stepX_yes b D.ind hf] at e
        refine ⟨by rw [e]; exact D.ind, by rw [e]; exact D.sub.trans (List.sublist_append_left _ _), ?_⟩
        rw [e]
        show ((dueX b l).2 ++ _).length ≤ _
        rw [List.length_append, List.length_append]
        exact Nat.add_le_add_right D.len 1
      · rw [stepX_no b hx] at e
        refine ⟨by rw [e]; exact D.ind.add b hx, by rw [e]; exact D.sub.append (List.Sublist.refl _), ?_⟩
        rw [e, List.length_append]
        exact Nat.le_trans D.len (Nat.le_add_right _ _)
/-! ### the elder rows, each by its highest bit -/
/-- a sum of rows of F, told with those of which it is -/
structure En (F : List Nat) (ones summed : Nat) : Prop where
  ex : ∃ g : Nat → Bool, (∀ j, g j = true → j ∈ F) ∧ ones = vx b F g ∧ ∀ j, summed.testBit j = g j
/-- the row of c with sums of rows of F put to it -/
structure Wh (F : List Nat) (c ones summed : Nat) : Prop where
  ex : ∃ g : Nat → Bool, (∀ j, g j = true → j ∈ F) ∧ ones = b c ^^^ vx b F g ∧ ∀ j, summed.testBit j = (decide (j = c) ^^ g j)
theorem Wh.start (F : List Nat) (c : Nat) : Wh b F c (b c) (2 ^ c) := ⟨fun _ => false, fun _ h => (nomatch h), by rw [vx_none b fun _ _ => rfl, Nat.xor_zero], fun j => by
  rw [Nat.testBit_two_pow]
  by_cases h : c = j
  · rw [decide_eq_true h, decide_eq_true h.symm]
    rfl
  · rw [decide_eq_false h, decide_eq_false fun z => h z.symm]
    rfl⟩
theorem Wh.step {F : List Nat} {c o s o' s' : Nat} (h : Wh b F c o s) (k : En b F o' s') : Wh b F c (o ^^^ o') (s ^^^ s') := by
  obtain ⟨g, h1, rfl, h3⟩ := h.ex
  obtain ⟨g', k1, rfl, k3⟩ := k.ex
  refine ⟨fun c => g c ^^ g' c, fun j hj => ?_, by rw [vx_xor, Nat.xor_assoc], fun j => by
    rw [Nat.testBit_xor, h3, k3]
    show _ = (decide (j = c) ^^ (g j ^^ g' j))
    cases decide (j = c) <;> cases g j <;> cases g' j <;> rfl⟩
  · cases e : g j with
    | true => exact h1 j e
    | false =>
      refine k1 j ?_
      have : (g j ^^ g' j) = true := hj
      rw [e] at this
      simpa using this
/-- what the keys know -/
structure Keys (F : List Nat) (ks : List Nat) : Prop where
  span : ∀ f, vx b F f ≠ 0 → bl (vx b F f) ∈ ks
theorem Keys.nil : Keys b [] [] := ⟨fun f h => (h rfl).elim⟩
theorem Wh.yes {F : List Nat} {c s : Nat} (h : Wh b F c 0 s) (hF : c ∉ F) {n : Nat} (hp : F.Pairwise (· < ·)) (hb : ∀ x ∈ F, x < c) (hn : c < n) :
    ∃ f, b c = vx b F f ∧ (List.range n).filter (fun j => s.testBit j) = F.filter f ++ [c] := by
  obtain ⟨g, h1, h2, h3⟩ := h.ex
  have e : b c = vx b F g := by
    have : b c ^^^ vx b F g ^^^ vx b F g = 0 ^^^ vx b F g := by rw [← h2]
    rw [Nat.xor_assoc, Nat.xor_self, Nat.xor_zero, Nat.zero_xor] at this
    exact this
  refine ⟨g, e, ?_⟩
  have mem : ∀ x, x ∈ (List.range n).filter (fun j => s.testBit j) ↔ x ∈ F.filter g ++ [c] := fun x => by
    rw [List.mem_filter, List.mem_range, h3, List.mem_append, List.mem_filter, List.mem_singleton]
    constructor
    · rintro ⟨_, q⟩
      by_cases hx : x = c
      · exact .inr hx
      · rw [decide_eq_false hx, Bool.false_xor] at q
        exact .inl ⟨h1 x q, q⟩
    · rintro (⟨q, r⟩ | rfl)
      · have := hb x q
        refine ⟨by omega, ?_⟩
        rw [decide_eq_false (by omega), Bool.false_xor]
        exact r
      · refine ⟨hn, ?_⟩
        rw [decide_eq_true rfl]
        cases q : g x with
        | true => exact (hF (h1 x q)).elim
        | false => rfl
  have s1 : ((List.range n).filter (fun j => s.testBit j)).Pairwise (· < ·) := (List.pairwise_lt_range).filter _
  have s2 : (F.filter g ++ [c]).Pairwise (· < ·) := List.pairwise_append.mpr ⟨hp.filter _, List.pairwise_singleton _ _, fun a ha y hy => by
    rw [List.mem_singleton.mp hy]
    exact hb a (List.mem_filter.mp ha).1⟩
  have nd1 := s1.imp fun {a b} h => (Nat.ne_of_lt h : a ≠ b)
  have nd2 := s2.imp fun {a b} h => (Nat.ne_of_lt h : a ≠ b)
  exact List.Perm.eq_of_pairwise (le := (· < ·)) (fun a b _ _ h k => (Nat.lt_asymm h k).elim) s1 s2 ((List.perm_ext_iff_of_nodup nd1 nd2).mpr mem)
theorem Wh.no {F : List Nat} {c o s : Nat} {ks : List Nat} (h : Wh b F c o s) (h0 : o ≠ 0) (hF : c ∉ F) (K : Keys b F ks) (hk : bl o ∉ ks) :
    (¬ ∃ f, b c = vx b F f) ∧ Keys b (F ++ [c]) (ks ++ [bl o]) ∧ En b (F ++ [c]) o s := by
  obtain ⟨g, h1, rfl, h3⟩ := h.ex
  refine ⟨fun ⟨f, hf⟩ => ?_, ⟨fun f hf => ?_⟩, ⟨fun j => decide (j = c) ^^ g j, fun j hj => ?_, ?_, h3⟩⟩
  · rw [hf, ← vx_xor] at hk h0
    exact hk (K.span _ h0)
  · rw [vx_app] at hf ⊢
    cases hc : f c with
    | false =>
      rw [hc, if_neg (by decide), Nat.xor_zero] at hf
      show bl (vx b F f ^^^ 0) ∈ _
      rw [Nat.xor_zero]
      exact List.mem_append_left _ (K.span f hf)
    | true =>
      show bl (vx b F f ^^^ b c) ∈ _
      have e : vx b F f ^^^ b c = vx b F (fun x => f x ^^ g x) ^^^ (b c ^^^ vx b F g) := by
        rw [vx_xor, Nat.xor_assoc, Nat.xor_comm (b c) (vx b F g), ← Nat.xor_assoc (vx b F g) (vx b F g), Nat.xor_self, Nat.zero_xor]
      rw [e]
      by_cases hz : vx b F (fun x => f x ^^ g x) = 0
      · rw [hz, Nat.zero_xor]
        exact List.mem_append_right _ (List.mem_singleton.mpr rfl)
      · have hm := K.span _ hz
        rcases bl_ne (fun z => hk (z ▸ hm)) with q | q
        · rw [q]
          exact List.mem_append_left _ hm
        · rw [q]
          exact List.mem_append_right _ (List.mem_singleton.mpr rfl)
  · by_cases hx : j = c
    · exact List.mem_append_right _ (List.mem_singleton.mpr hx)
    · have hj : (decide (j = c) ^^ g j) = true := hj
      rw [decide_eq_false hx, Bool.false_xor] at hj
      exact List.mem_append_left _ (h1 j hj)
  · rw [vx_app]
    have e : (decide (c = c) ^^ g c) = true := by
      rw [decide_eq_true rfl]
      cases q : g c with
      | true => exact (hF (h1 c q)).elim
      | false => rfl
    show _ = vx b F _ ^^^ (if (decide (c = c) ^^ g c) = true then b c else 0)
    rw [if_pos e, Nat.xor_comm]
    refine congrArg (· ^^^ b c) (vx_congr b fun x hx => ?_)
    have : x ≠ c := fun z => hF (z ▸ hx)
    show g x = (decide (x = c) ^^ g x)
    rw [decide_eq_false this, Bool.false_xor]
theorem En.up {F : List Nat} {c o s : Nat} (h : En b F o s) (hF : c ∉ F) : En b (F ++ [c]) o s := by
  obtain ⟨g, h1, rfl, h3⟩ := h.ex
  refine ⟨g, fun j hj => List.mem_append_left _ (h1 j hj), ?_, h3⟩
  rw [vx_app, show g c = false from by
    cases q : g c with
    | true => exact (hF (h1 c q)).elim
    | false => rfl, if_neg (by decide), Nat.xor_zero]
/-! ### all sums -/
def subsX (F : List Nat) : List (List Nat) := F.foldl (fun l c => l ++ l.map (· ++ [c])) [[]]
theorem subsX_app (F : List Nat) (c : Nat) : subsX (F ++ [c]) = subsX F ++ (subsX F).map (· ++ [c]) := by
  unfold subsX
  rw [List.foldl_append]
  rfl
theorem subsX_len : ∀ (n : Nat) (F : List Nat), F.length = n → (subsX F).length = 2 ^ n := by
  intro n
  induction n with
  | zero =>
    intro F h
    obtain rfl := List.eq_nil_of_length_eq_zero h
    rfl
  | succ n ih =>
    intro F h
    rcases List.eq_nil_or_concat F with rfl | ⟨l, c, rfl⟩
    · cases h
    · rw [List.concat_eq_append] at h ⊢
      rw [subsX_app, List.length_append, List.length_map, ih l (by simpa using h), Nat.pow_succ]
      omega
theorem mem_subs : ∀ (n : Nat) (F : List Nat), F.length = n → F.Nodup → ∀ o, o ∈ subsX F ↔ ∃ f, o = F.filter f := by
  intro n
  induction n with
  | zero =>
    intro F h _ o
    obtain rfl := List.eq_nil_of_length_eq_zero h
    exact ⟨fun z => ⟨fun _ => true, by
      have : o ∈ [[]] := z
      rw [List.mem_singleton.mp this]
      rfl⟩, fun ⟨f, z⟩ => by
      rw [z]
      exact List.mem_singleton.mpr rfl⟩
  | succ n ih =>
    intro F h nd o
    rcases List.eq_nil_or_concat F with rfl | ⟨l, c, rfl⟩
    · cases h
    · rw [List.concat_eq_append] at h nd ⊢
      obtain ⟨n1, _, n3⟩ := List.nodup_append.mp nd
      have hc : c ∉ l := fun z => n3 c z c (List.mem_singleton.mpr rfl) rfl
      have I := ih l (by simpa using h) n1
      rw [subsX_app, List.mem_append, List.mem_map]
      constructor
      · rintro (z | ⟨p, hp, rfl⟩)
        · obtain ⟨f, rfl⟩ := (I o).mp z
          refine ⟨fun x => f x && decide (x ≠ c), ?_⟩
          rw [List.filter_append, List.filter_cons_of_neg (by rw [decide_eq_false (fun z => z rfl)]; simp), List.filter_nil, List.append_nil]
          exact List.filter_congr fun x hx => by
            have : decide (x ≠ c) = true := decide_eq_true fun z => hc (by rw [← z]; exact hx)
            rw [this, Bool.and_true]
        · obtain ⟨f, rfl⟩ := (I p).mp hp
          refine ⟨fun x => f x || decide (x = c), ?_⟩
          rw [List.filter_append, List.filter_cons_of_pos (by rw [decide_eq_true rfl]; simp), List.filter_nil]
          refine congrArg (· ++ [c]) (List.filter_congr fun x hx => ?_)
          have : decide (x = c) = false := decide_eq_false fun z => hc (by rw [← z]; exact hx)
          rw [this, Bool.or_false]
      · rintro ⟨f, rfl⟩
        rw [List.filter_append]
        cases q : f c with
        | true =>
          rw [List.filter_cons_of_pos q, List.filter_nil]
          exact .inr ⟨l.filter f, (I _).mpr ⟨f, rfl⟩, rfl⟩
        | false =>
          rw [List.filter_cons_of_neg (by rw [q]; decide), List.filter_nil, List.append_nil]
          exact .inl ((I _).mpr ⟨f, rfl⟩)
/-- counted, or as a bit of the sum: the same -/
theorem odd_vx (F : List Nat) (f : Nat → Bool) (j : Nat) : decide (((F.filter f).map fun c => if (b c).testBit j = true then (1 : Int) else 0).sum % 2 = 1) = (vx b F f).testBit j := by
  induction F with
  | nil => rw [show vx b [] f = 0 from rfl, Nat.zero_testBit]; rfl
  | cons c F ih =>
    rw [vx_cons, Nat.testBit_xor, ← ih]
    cases q : f c with
    | false =>
      rw [List.filter_cons_of_neg (by rw [q]; decide), if_neg (by decide), Nat.zero_testBit, Bool.false_xor]
    | true =>
      rw [List.filter_cons_of_pos q, if_pos rfl, List.map_cons, List.sum_cons]
      generalize ((F.filter f).map fun c => if (b c).testBit j = true then (1 : Int) else 0).sum = z
      cases (b c).testBit j with
      | false => rw [if_neg (by decide), Int.zero_add, Bool.false_xor]
      | true =>
        rw [if_pos rfl, Bool.true_xor]
        by_cases h : z % 2 = 1
        · rw [decide_eq_true h, decide_eq_false (by omega)]
          rfl
        · rw [decide_eq_false h, decide_eq_true (by omega)]
          rfl
end
end One
end P_M25

section P_WA
set_option linter.all false
set_option maxRecDepth 100000
set_option maxHeartbeats 8000000
namespace One
open PySem PySem.Spec PyProof.Rows L2
/-! ### tables by their form -/
structure Tb (n : Nat) (s o : List Nat) (R : Nat → List Nat) : Prop where
  n1 : 1 ≤ n
  n2 : n ≤ 40
  ls : s.length = n
  lo : o.length = n
  s3 : ∀ x ∈ s, x < 3
  o3 : ∀ x ∈ o, x < 3
  ne : ∀ (i x y : Nat), s[i]? = some x → o[i]? = some y → x ≠ y
  asc : ∀ i, i < n → (R i).Pairwise (· < ·)
  sub : ∀ i, i < n → ∀ x ∈ R i, x < n ∧ i ≠ x ∧ i ∈ R x
structure TbAt (H : Hp) (t : Addr) (n : Nat) (s o : List Nat) (R : Nat → List Nat) : Prop where
  tb : Tb n s o R
  ex : ∃ (a b c : Addr) (rs : List Addr), H t = some (.tup [.ref a, .ref b, .ref c]) ∧ H a = some (.tup (nats s)) ∧ H b = some (.tup (nats o)) ∧ H c = some (.tup (refs rs)) ∧ rs.length = n ∧ ∀ (i : Nat) (r : Addr), rs[i]? = some r → H r = some (.tup (nats (R i)))
theorem TbAt.mono {H H' : Hp} {t : Addr} {n : Nat} {s o : List Nat} {R : Nat → List Nat} (h : TbAt H t n s o R) (k : ∀ b xs, H b = some (.tup xs) → H' b = some (.tup xs)) : TbAt H' t n s o R := by
  obtain ⟨a, b, c, rs, h1, h2, h3, h4, h5, h6⟩ := h.ex
  exact ⟨h.tb, a, b, c, rs, k _ _ h1, k _ _ h2, k _ _ h3, k _ _ h4, h5, fun i r hr => k _ _ (h6 i r hr)⟩
/-- ways of n crossings -/
structure WsN (n : Nat) (ws : List Nat) : Prop where
  len : ws.length = n
  lt : ∀ x ∈ ws, x < 3
theorem nats_get {ns : List Nat} {i : Nat} {v : V} (h : (nats ns)[i]? = some v) : ∃ x, ns[i]? = some x ∧ v = .int ((x : Nat) : Int) := by
  rw [show nats ns = ns.map _ from rfl, List.getElem?_map] at h
  cases e : ns[i]? with
  | none => rw [e] at h; cases h
  | some x => rw [e] at h; exact ⟨x, rfl, (Option.some.inj h).symm⟩
theorem refs_get {ns : List Addr} {i : Nat} {v : V} (h : (refs ns)[i]? = some v) : ∃ x, ns[i]? = some x ∧ v = .ref x := by
  rw [show refs ns = ns.map _ from rfl, List.getElem?_map] at h
  cases e : ns[i]? with
  | none => rw [e] at h; cases h
  | some x => rw [e] at h; exact ⟨x, rfl, (Option.some.inj h).symm⟩
theorem nat_ix {ns : List Nat} {i x : Nat} (h : ns[i]? = some x) : atI (nats ns) ((i : Nat) : Int) = some (.int ((x : Nat) : Int)) := at_of (j := i) rfl (nats_at h)
theorem ws_ok : ∀ {ws : List Nat}, (∀ x ∈ ws, x < 3) → (nats ws).all (okW false) = true
  | [], _ => rfl
  | x :: ws, h => by
    show (okW false (.int ((x : Nat) : Int)) && (nats ws).all (okW false)) = true
    rw [ws_ok fun y hy => h y (List.mem_cons_of_mem _ hy), Bool.and_true]
    have := h x List.mem_cons_self
    show ((decide ((0 : Int) ≤ (x : Int)) && decide ((x : Int) < 3)) || false) = true
    rw [decide_eq_true (by omega), decide_eq_true (by omega)]
    rfl
theorem tv_nats {H : Hp} {ws : List Nat} : ∀ x ∈ nats ws, ∃ T, TV H x T := fun x hx => by
  obtain ⟨y, _, rfl⟩ := List.mem_map.mp hx
  exact ⟨_, .int _⟩
theorem inV_nats (b : Nat) : ∀ xs : List Nat, inV (.int ((b : Nat) : Int)) (nats xs) = decide (b ∈ xs)
  | [] => rfl
  | x :: xs => by
    show (eqV (.int ((x : Nat) : Int)) (.int ((b : Nat) : Int)) || inV _ (nats xs)) = _
    rw [inV_nats b xs]
    by_cases h : b = x
    · subst h
      rw [show eqV (.int ((b : Nat) : Int)) (.int ((b : Nat) : Int)) = true from decide_eq_true rfl, Bool.true_or, decide_eq_true List.mem_cons_self]
    · rw [show eqV (.int ((x : Nat) : Int)) (.int ((b : Nat) : Int)) = false from decide_eq_false fun z => h (by omega), Bool.false_or]
      exact decide_eq_decide.mpr ⟨List.mem_cons_of_mem _, fun z => (List.mem_cons.mp z).resolve_left h⟩
theorem flat_nats : ∀ xs : List Nat, (nats xs).all flatV = true
  | [] => rfl
  | x :: xs => flat_nats xs
theorem walk_zipT {K : PySem.W.Frag} {a b : Addr} {xs ys : List V} {n : Nat} (hn : n = min xs.length ys.length) : Walk (RZ.ItzT K a b) n (fun H => SqT K H a xs ∧ SqT K H b ys) (YPair (fun i => xs[i]?) (fun i => ys[i]?)) := by
  subst hn
  refine ⟨fun i _ hi q => ?_, fun _ q => ⟨xs, ys, q.1, q.2, by omega⟩, fun i H v H' _ q y => ?_⟩
  · have h1 : i < xs.length := by omega
    have h2 : i < ys.length := by omega
    exact ⟨xs, ys, xs[i], ys[i], q.1, q.2, by simp [h1], by simp [h2]⟩
  · obtain ⟨T, x, z, h1, h2, h3, h4, h5⟩ := y
    exact ⟨T, x, z, h1, h2, h3, h4 xs q.1, h5 ys q.2⟩
/-- a walk, whatever is done in a turn -/
theorem wk_it {J : It} {n : Nat} {G : Hp → Prop} {Y : Nat → Hp → V → Hp → Prop} (w : Walk J n G Y) {T : (Hp → Prop) → V → Hp → Prop} {H0 : Hp} {Qd : Hp → Prop} (Pv : Nat → Hp → Prop) (h0 : Pv 0 H0) (hG : ∀ i H, i ≤ n → Pv i H → G H)
    (hs : ∀ (i : Nat) (x : V) (H H' : Hp), i < n → Pv i H → Y i H x H' → T (Pv (i + 1)) x H') (hd : ∀ H, Pv n H → Qd H) :
    ∃ W : Nat → Nat → Hp → Prop, (∃ m, W 0 m H0) ∧ ∀ i m H, W i m H → (J.stop i H ∧ Qd H) ∨ (J.go i H ∧ ∃ Nx : Hp → Prop, (∀ H', Nx H' → ∃ m', m' < m ∧ W (i + 1) m' H') ∧ ∀ x H', J.yld i H x H' → T Nx x H') := by
  obtain ⟨w1, w2, w3⟩ := w
  refine ⟨fun i m H => m = n - i ∧ i ≤ n ∧ Pv i H, ⟨n, by omega, Nat.zero_le _, h0⟩, fun i m H ⟨e, hi, p⟩ => ?_⟩
  rcases Nat.lt_or_eq_of_le hi with h | h
  · exact .inr ⟨w1 i H h (hG i H hi p), Pv (i + 1), fun H' q => ⟨n - (i + 1), by omega, rfl, h, q⟩, fun x H' y => hs i x H H' h p (w3 i H x H' h (hG i H hi p) y)⟩
  · subst h
    exact .inl ⟨w2 H (hG _ H hi p), hd H p⟩
abbrev sNt : Stmt := top 12
abbrev sTf : Stmt := top 13
abbrev sSs : Stmt := top 14
abbrev sOu : Stmt := top 15
abbrev sRo : Stmt := top 16
abbrev sAr : Stmt := top 17
abbrev sNs : Stmt := top 18
abbrev nNt : List Str := ["thing", "place"]
abbrev nTf : List Str := ["thing", "setting", "outers", "rows"]
abbrev nSs : List Str := ["thing"]
abbrev nOu : List Str := ["thing", "setting", "way", "outer"]
abbrev nRo : List Str := ["thing", "many", "pairs", "crossing", "other", "crossings"]
abbrev nAr : List Str := ["thing", "many", "ahead", "crossing"]
abbrev nNs : List Str := ["table", "thing", "setting", "_", "place"]
theorem scNt : FnScope nNt ["thing"] (defScope sNt) := ⟨rfl, rfl, rfl, by decide +kernel, rfl, by decide +kernel, by decide +kernel⟩
theorem scTf : FnScope nTf ["thing"] (defScope sTf) := ⟨rfl, rfl, rfl, by decide +kernel, rfl, by decide +kernel, by decide +kernel⟩
theorem scSs : FnScope nSs ["thing"] (defScope sSs) := ⟨rfl, rfl, rfl, by decide +kernel, rfl, by decide +kernel, by decide +kernel⟩
theorem scOu : FnScope nOu ["thing", "setting"] (defScope sOu) := ⟨rfl, rfl, rfl, by decide +kernel, rfl, by decide +kernel, by decide +kernel⟩
theorem scRo : FnScope nRo ["thing", "many"] (defScope sRo) := ⟨rfl, rfl, rfl, by decide +kernel, rfl, by decide +kernel, by decide +kernel⟩
theorem scAr : FnScope nAr ["thing", "many"] (defScope sAr) := ⟨rfl, rfl, rfl, by decide +kernel, rfl, by decide +kernel, by decide +kernel⟩
theorem scNs : FnScope nNs ["table", "thing"] (defScope sNs) := ⟨rfl, rfl, rfl, by decide +kernel, rfl, by decide +kernel, by decide +kernel⟩
def spAr : Sp := fun vs H Q _ => ∃ (t : Addr) (n : Nat) (ns : List Nat), vs = [.ref t, .int (n : Nat)] ∧ H t = some (.tup (nats ns)) ∧ ns.Pairwise (· < ·) ∧ (∀ x ∈ ns, x < n) ∧ ∀ H', Same H H' → Q (.bl true) H'
def spRo : Sp := fun vs H Q _ => ∃ (c : Addr) (n : Nat) (rs : List Addr) (R : Nat → List Nat), vs = [.ref c, .int (n : Nat)] ∧ H c = some (.tup (refs rs)) ∧ rs.length = n ∧ n ≤ 40 ∧ (∀ (i : Nat) (r : Addr), rs[i]? = some r → H r = some (.tup (nats (R i)))) ∧
  (∀ i, i < n → (R i).Pairwise (· < ·)) ∧ (∀ i, i < n → ∀ x ∈ R i, x < n ∧ i ≠ x ∧ i ∈ R x) ∧ ∀ H', Same H H' → Q (.bl true) H'
def spOu : Sp := fun vs H Q _ => ∃ (b a : Addr) (n : Nat) (s o : List Nat), vs = [.ref b, .ref a] ∧ H b = some (.tup (nats o)) ∧ H a = some (.tup (nats s)) ∧ WsN n o ∧ WsN n s ∧ n ≤ 40 ∧ (∀ (i x y : Nat), s[i]? = some x → o[i]? = some y → x ≠ y) ∧ ∀ H', Same H H' → Q (.bl true) H'
def spSs : Sp := fun vs H Q _ => ∃ (a : Addr) (n : Nat) (s : List Nat), vs = [.ref a] ∧ H a = some (.tup (nats s)) ∧ WsN n s ∧ 1 ≤ n ∧ n ≤ 40 ∧ ∀ H', Same H H' → Q (.bl true) H'
def spTf : Sp := fun vs H Q _ => ∃ (t : Addr) (n : Nat) (s o : List Nat) (R : Nat → List Nat), vs = [.ref t] ∧ TbAt H t n s o R ∧ ∀ H', Same H H' → Q .non H'
def spNt : Sp := fun vs H Q _ => ∃ (t : Addr) (n : Nat) (s o : List Nat) (R : Nat → List Nat), vs = [.ref t] ∧ TbAt H t n s o R ∧ ∀ H', Same H H' → Q (.ref t) H'
def spNs : Sp := fun vs H Q _ => ∃ (t u : Addr) (n : Nat) (s o : List Nat) (R : Nat → List Nat) (ws : List Nat), vs = [.ref t, .ref u] ∧ TbAt H t n s o R ∧ H u = some (.tup (nats ws)) ∧ WsN n ws ∧ ∀ H', Same H H' → Q (.ref u) H'
theorem ways_good {H : Hp} {u : Addr} {n : Nat} {ws : List Nat} {Q : VK} {E : XK} (hu : H u = some (.tup (nats ws))) (h : WsN n ws) (k : ∀ H', Same H H' → Q .non H') : spWays [.ref u, .int (n : Nat), .bl false] H Q E :=
  ⟨.ref u, _, n, false, rfl, .tup hu, .inr ⟨u, nats ws, rfl, hu, (List.length_map _).trans h.len, tv_nats, fun _ => k, fun i x hx hb _ => by
    obtain ⟨y, hy, rfl⟩ := nats_get hx
    have := h.lt y (List.mem_of_getElem? hy)
    have e : okW false (.int ((y : Nat) : Int)) = true := by
      show ((decide ((0 : Int) ≤ (y : Int)) && decide ((y : Int) < 3)) || false) = true
      rw [decide_eq_true (by omega), decide_eq_true (by omega)]
      rfl
    rw [e] at hb
    cases hb⟩⟩
section
variable {P : Program} {w : World} {K : PySem.W.Frag} {mg : Str → Option Value} {base : Heap}
theorem ok_ar {f fB : Addr} {fd fdB : FuncData} (F : Fun K "are_rising" "are_rising" sAr f fd) (T : TB mg) (B : Cal K mg "is_below" fB fdB ["thing", "many"]) (GB : FnOk P w K mg base CX0 2 fB fdB ["thing", "many"] spIsBelow) :
    FnOk P w K mg base CX0 3 f fd ["thing", "many"] spAr := by
  refine F.ok scAr (fun vs H Q E h => ?_) (fun cdv A outer s H vs Q E hr h => ?_)
  · obtain ⟨t, n, ns, rfl, _⟩ := h
    rfl
  · obtain ⟨t, n, ns, rfl, ht, ha, hb, k⟩ := h
    have nd := scAr.nd
    have hr2 : Room 2 _ := hr
    refine ⟨_, pss_cons (ps_if (pt_not (pt_val (pe_callB call_isi (by rfl) T.isinstance boot_isinstance (pa_cons (pv 0) (pa_cons (pe_bltn (v := .ty "tuple") (by rfl) T.tuple boot_tuple rfl) pa_nil))))) (pss_one (ps_ret pe_bl)) pss_nil)
      (pss_cons (ps_set (i := 2) nd rfl (Or.inl rfl) (pe_un un_neg pe_int))
      (pss_cons (ps_for PassesOwn.never rfl (pi_tup (pv 0)) (pg_name (i := 3) nd rfl (Or.inl rfl))
        (pss_cons (ps_if (PW.pt (pw_or (pt_not (pt_val (pe_call GB hr2 rfl B.g B.kp B.b .nil pass0 (pa_cons (pv 3) (pa_cons (pv 1) pa_nil))))) (pw_or1 (pt_cmpR op_le (pv 3) (pv 2) (nomark _))))) (pss_one (ps_ret pe_bl)) pss_nil)
      (pss_one (ps_set (i := 2) nd rfl (Or.inl rfl) (pv 3)))))
      (pss_one (ps_ret pe_bl)))), ?_⟩
    refine ⟨_, rfl, _, _, _, _, _, rfl, .ty _, (TV.tup ht).tyx, (TV.tup ht).kTup, _, rfl, iteF ?_⟩
    refine ⟨_, rfl, _, rfl, t, rfl, ⟨_, SqT.of ht⟩, ?_⟩
    refine for_it (walk_tup (K := K) (a := t) (xs := nats ns)) (fun i σ H2 => ∃ (v : Int) (v3 : Option V), σ = [some (.ref t), some (.int (n : Nat)), some (.int v), v3] ∧ Same H H2 ∧ (∀ x, ns[i]? = some x → v < x)) ⟨-1, none, rfl, Same.refl H, fun x _ => by omega⟩ (fun i σ H2 _ ⟨_, _, _, s', _⟩ => SqT.of (s' _ _ ht)) ?_ ?_
    · rintro i x σ H2 H3 hi ⟨v, v3, rfl, s2, hv⟩ ⟨rfl, ex⟩
      obtain ⟨y, hy, rfl⟩ := nats_get ex
      have hyn := hb y (List.mem_of_getElem? hy)
      refine ⟨_, rfl, _, rfl, .int _, _, _, rfl, .int _, ?_⟩
      have e : belowV (.int ((y : Nat) : Int)) ((n : Nat) : Int) = true := by
        show (decide ((0 : Int) ≤ (y : Int)) && decide ((y : Int) < (n : Int))) = true
        rw [decide_eq_true (by omega), decide_eq_true (by omega)]
        rfl
      rw [e]
      have hvy := hv y hy
      refine ⟨_, rfl, iteF ⟨_, rfl, _, rfl, _, _, rfl, rfl, _, rfl, ?_⟩⟩
      rw [decide_eq_false (by omega)]
      refine iteF ⟨_, rfl, _, _, rfl, s2, fun z hz => ?_⟩
      have hi1 : i < ns.length := (List.getElem?_eq_some_iff.mp hy).1
      obtain ⟨hz1, hz2⟩ := List.getElem?_eq_some_iff.mp hz
      obtain ⟨_, hy2⟩ := List.getElem?_eq_some_iff.mp hy
      have := List.pairwise_iff_getElem.mp ha i (i + 1) hi1 hz1 (by omega)
      omega
    · rintro σ H2 ⟨v, v3, rfl, s2, _⟩
      exact k _ s2
theorem ok_ss {f fW : Addr} {fd fdW : FuncData} (F : Fun K "is_some_setting" "is_some_setting" sSs f fd) (T : TB mg) (C : TC mg) (W : Cal K mg "ways_fault" fW fdW ["thing", "many", "is_draft"]) (GW : FnOk P w K mg base CX0 3 fW fdW ["thing", "many", "is_draft"] spWays) :
    FnOk P w K mg base CX0 4 f fd ["thing"] spSs := by
  refine F.ok scSs (fun vs H Q E h => ?_) (fun cdv A outer s H vs Q E hr h => ?_)
  · obtain ⟨a, n, ws, rfl, _⟩ := h
    rfl
  · obtain ⟨a, n, ws, rfl, ha, hW, h1, h4, k⟩ := h
    have nd := scSs.nd
    have hrw : Room 3 _ := hr
    obtain ⟨t, ht⟩ := C.most
    refine ⟨_, pss_cons (ps_if (PW.pt (pw_or (pt_not (pt_val (pe_callB call_isi (by rfl) T.isinstance boot_isinstance (pa_cons (pv 0) (pa_cons (pe_bltn (v := .ty "tuple") (by rfl) T.tuple boot_tuple rfl) pa_nil))))) (pw_or1 (pt_not (pt_chain op_le op_le pe_int (pe_callB call_len_seq (by rfl) T.len PySem.boot_len (pa_cons (pv 0) pa_nil)) (pe_glob (v := .int 40) rfl ht ⟨_, rfl⟩)))))) (pss_one (ps_ret pe_bl)) pss_nil)
      (pss_one (ps_ret (pe_cmpR op_isN (pe_call GW hrw rfl W.g W.kp W.b .nil pass0 (pa_cons (pv 0) (pa_cons (pe_callB call_len_seq (by rfl) T.len PySem.boot_len (pa_cons (pv 0) pa_nil)) (pa_cons pe_bl pa_nil)))) pe_non (nomark _)))), ?_⟩
    have ln : ((nats ws).length : Int) = (n : Int) := by rw [show (nats ws).length = ws.length from List.length_map _, hW.len]
    refine ⟨_, rfl, _, _, _, _, _, rfl, .ty _, (TV.tup ha).tyx, (TV.tup ha).kTup, _, rfl, iteF ?_⟩
    refine ⟨_, rfl, a, _, rfl, .inr (SqT.of ha), _, _, rfl, rfl, _, rfl, ?_⟩
    rw [decide_eq_true (by rw [ln]; omega)]
    refine iteT ⟨_, _, rfl, rfl, _, rfl, ?_⟩
    rw [decide_eq_true (by rw [ln]; omega)]
    refine iteF ⟨_, rfl, _, rfl, a, _, rfl, .inr (SqT.of ha), ?_⟩
    rw [ln]
    unfold tCons tC tNil
    dsimp only
    exact ways_good ha hW fun H' s' => ⟨rfl, k H' s'⟩
theorem ok_ou {f fW : Addr} {fd fdW : FuncData} (F : Fun K "are_outers" "are_outers" sOu f fd) (T : TB mg) (hzip : mg "zip" = none) (W : Cal K mg "ways_fault" fW fdW ["thing", "many", "is_draft"]) (GW : FnOk P w K mg base CX0 3 fW fdW ["thing", "many", "is_draft"] spWays) :
    FnOk P w K mg base CX0 4 f fd ["thing", "setting"] spOu := by
  refine F.ok scOu (fun vs H Q E h => ?_) (fun cdv A outer s H vs Q E hr h => ?_)
  · obtain ⟨b, a, n, ws, os, rfl, _⟩ := h
    rfl
  · obtain ⟨b, a, n, ws, os, rfl, hb, ha, hO, hW, h4, hne, k⟩ := h
    have nd := scOu.nd
    have hrw : Room 3 _ := hr
    refine ⟨_, C8.pss_cut (ps_if (pt_cmpR op_notN (pe_call GW hrw rfl W.g W.kp W.b .nil pass0 (pa_cons (pv 0) (pa_cons (pe_callB call_len_seq (by rfl) T.len PySem.boot_len (pa_cons (pv 1) pa_nil)) (pa_cons pe_bl pa_nil)))) pe_non (nomark _)) (pss_one (ps_ret pe_bl)) pss_nil)
      (pss_one (ps_ret (pe_callB (cr_all rfl) (by rfl) T.all boot_all (pa_cons (pe_lc (own := [("way", 2), ("outer", 3)]) (g := (gTup K 2 (gCons (gName 2) (gCons (gName 3) gNil)))) (tt := tYes) (te := (tOp rNe (tVar 2) (tVar 3))) rfl nd (RZ.pi_zipA (by rfl) hzip (pa_cons (pv 1) (pa_cons (pv 0) pa_nil))) (blkOk_by (N := nOu) (sc := defScope sOu) (by decide +kernel)) (fun _ _ _ _ _ => pg_tup rfl (pgs_cons (pg_name (i := 2) nd rfl (Or.inl rfl)) (pgs_cons (pg_name (i := 3) nd rfl (Or.inl rfl)) pgs_nil))) (fun _ _ _ _ _ => pts_nil) (fun _ _ _ _ _ => by exact (pe_cmpR op_ne (pv 2) (pv 3) (nomark _)))) pa_nil)))), ?_⟩
    have ln : ((nats ws).length : Int) = (n : Int) := by rw [show (nats ws).length = ws.length from List.length_map _, hW.len]
    refine ⟨fun σ H2 => σ = [some (.ref b), some (.ref a), none, none] ∧ Same H H2, ?_, ?_⟩
    · refine ⟨_, rfl, _, rfl, a, _, rfl, .inr (SqT.of ha), ?_⟩
      rw [ln]
      unfold tCons tC tNil
      dsimp only
      refine ways_good hb hO fun H' s' => ⟨rfl, _, rfl, iteF ⟨rfl, s'⟩⟩
    · rintro σ H2 ⟨rfl, s2⟩
      refine ⟨_, rfl, _, rfl, a, b, nats ws, nats os, rfl, .inr ⟨SqT.of (s2 _ _ ha), SqT.of (s2 _ _ hb), fun D hD => ?_⟩⟩
      have sD := Same.new (o := .lst []) hD
      refine lc_it (walk_zipT (K := K) (a := a) (b := b) (xs := nats ws) (ys := nats os) rfl) (fun i H6 => H6 D = some (.lst ((List.replicate i true).map V.bl)) ∧ Same H2 H6) ⟨upd_same, sD⟩ (fun i H6 _ ⟨_, s'⟩ => ⟨SqT.of (s' _ _ (s2 _ _ ha)), SqT.of (s' _ _ (s2 _ _ hb))⟩) ?_ ?_
      · rintro i v H6 H7 hi ⟨h6, s6⟩ ⟨q, x', y', rfl, hq, rfl, ex, ey⟩
        obtain ⟨x, hx, rfl⟩ := nats_get ex
        obtain ⟨y, hy, rfl⟩ := nats_get ey
        have s7 := Same.new (o := .tup [V.int (x : Nat), V.int (y : Nat)]) hq
        have hi' : i < n := by rw [← hW.len]; exact (List.getElem?_eq_some_iff.mp hx).1
        refine ⟨q, _, rfl, SqT.of upd_same, rfl, _, _, rfl, _, _, rfl, rfl, rfl, yes ⟨_, rfl, _, rfl, rfl, ?_⟩⟩
        have e : (!decide (V.int ((x : Nat) : Int) = V.int ((y : Nat) : Int))) = true := by
          have := hne i x y hx hy
          rw [decide_eq_false fun z => this (by have := V.int.inj z; omega)]
          rfl
        rw [e]
        refine ⟨_, s7 _ _ h6, by rw [List.length_map, List.length_replicate]; exact Nat.lt_of_lt_of_le hi' (Nat.le_trans h4 (by decide)), ?_, fun b o e => ?_⟩
        · rw [upd_same, List.replicate_succ', List.map_append]
          rfl
        · rw [upd_ne (ne_of_none e hD)]
          exact (s6.trans s7) _ _ e
      · rintro H6 ⟨h6, s6⟩
        unfold tNil
        refine ⟨D, _, rfl, SqL.of h6, ?_⟩
        have e : ∀ m : Nat, (List.replicate m true).all id = true := fun m => by
          induction m with
          | zero => rfl
          | succ m ih => exact ih
        rw [e]
        exact k _ (s2.trans s6)
theorem ok_tf {f fS fO fR : Addr} {fd fdS fdO fdR : FuncData} (F : Fun K "table_fault" "table_fault" sTf f fd) (T : TB mg) (S : Cal K mg "is_some_setting" fS fdS ["thing"]) (GS : FnOk P w K mg base CX0 4 fS fdS ["thing"] spSs)
    (O : Cal K mg "are_outers" fO fdO ["thing", "setting"]) (GO : FnOk P w K mg base CX0 4 fO fdO ["thing", "setting"] spOu) (R : Cal K mg "are_rows" fR fdR ["thing", "many"]) (GR : FnOk P w K mg base CX0 4 fR fdR ["thing", "many"] spRo) :
    FnOk P w K mg base CX0 5 f fd ["thing"] spTf := by
  refine F.ok scTf (fun vs H Q E h => ?_) (fun cdv A outer s H vs Q E hr h => ?_)
  · obtain ⟨t, n, s, o, R, rfl, _⟩ := h
    rfl
  · obtain ⟨t, n, ws, os, Rw, rfl, hT, k⟩ := h
    have nd := scTf.nd
    have hr4 : Room 4 _ := hr
    obtain ⟨a, b, c, rs, h1, h2, h3, h4, h5, h6⟩ := hT.ex
    have Tb := hT.tb
    refine ⟨_, C8.pss_cut (ps_if (PW.pt (pw_or (pt_not (pt_val (pe_callB call_isi (by rfl) T.isinstance boot_isinstance (pa_cons (pv 0) (pa_cons (pe_bltn (v := .ty "tuple") (by rfl) T.tuple boot_tuple rfl) pa_nil))))) (pw_or1 (pt_cmpR op_ne (pe_callB call_len_seq (by rfl) T.len PySem.boot_len (pa_cons (pv 0) pa_nil)) pe_int (nomark _))))) (pss_one (ps_ret (pe_tup pa_nil))) pss_nil)
      (C8.pss_cut (ps_asg (pv 0) (pg_tup rfl (pgs_cons (pg_name (i := 1) nd rfl (Or.inl rfl)) (pgs_cons (pg_name (i := 2) nd rfl (Or.inl rfl)) (pgs_cons (pg_name (i := 3) nd rfl (Or.inl rfl)) pgs_nil)))))
      (C8.pss_cut (ps_if (pt_not (pt_val (pe_call GS hr4 rfl S.g S.kp S.b .nil pass0 (pa_cons (pv 1) pa_nil)))) (pss_one (ps_ret (pe_tup (pa_cons pe_int pa_nil)))) pss_nil)
      (C8.pss_cut (ps_if (pt_not (pt_val (pe_call GO hr4 rfl O.g O.kp O.b .nil pass0 (pa_cons (pv 2) (pa_cons (pv 1) pa_nil))))) (pss_one (ps_ret (pe_tup (pa_cons pe_int pa_nil)))) pss_nil)
      (pss_cons (ps_if (pt_not (pt_val (pe_call GR hr4 rfl R.g R.kp R.b .nil pass0 (pa_cons (pv 3) (pa_cons (pe_callB call_len_seq (by rfl) T.len PySem.boot_len (pa_cons (pv 1) pa_nil)) pa_nil))))) (pss_one (ps_ret (pe_tup (pa_cons pe_int pa_nil)))) pss_nil)
      (pss_one (ps_ret pe_non)))))), ?_⟩
    have ln : ((nats ws).length : Int) = (n : Int) := by rw [show (nats ws).length = ws.length from List.length_map _, Tb.ls]
    refine ⟨fun σ H2 => σ = [some (.ref t), none, none, none] ∧ H2 = H, ?_, ?_⟩
    · exact ⟨_, rfl, _, _, _, _, _, rfl, .ty _, (TV.tup h1).tyx, (TV.tup h1).kTup, _, rfl, iteF ⟨_, rfl, t, _, rfl, .inr (SqT.of h1), rfl, _, rfl, iteF ⟨rfl, rfl⟩⟩⟩
    · rintro σ H2 ⟨rfl, rfl⟩
      refine ⟨fun σ H3 => σ = [some (.ref t), some (.ref a), some (.ref b), some (.ref c)] ∧ H3 = H2, ?_, ?_⟩
      · exact ⟨_, rfl, t, _, rfl, SqT.of h1, rfl, _, _, rfl, _, _, rfl, _, _, rfl, rfl, rfl, rfl⟩
      · rintro σ H3 ⟨rfl, rfl⟩
        refine ⟨fun σ H4 => σ = [some (.ref t), some (.ref a), some (.ref b), some (.ref c)] ∧ Same H3 H4, ?_, ?_⟩
        · exact ⟨_, rfl, a, n, ws, rfl, h2, ⟨Tb.ls, Tb.s3⟩, Tb.n1, Tb.n2, fun H' s' => ⟨_, rfl, iteF ⟨rfl, s'⟩⟩⟩
        · rintro σ H4 ⟨rfl, s4⟩
          refine ⟨fun σ H5 => σ = [some (.ref t), some (.ref a), some (.ref b), some (.ref c)] ∧ Same H3 H5, ?_, ?_⟩
          · exact ⟨_, rfl, _, rfl, b, a, n, ws, os, rfl, s4 _ _ h3, s4 _ _ h2, ⟨Tb.lo, Tb.o3⟩, ⟨Tb.ls, Tb.s3⟩, Tb.n2, Tb.ne, fun H' s' => ⟨_, rfl, iteF ⟨rfl, s4.trans s'⟩⟩⟩
          · rintro σ H5 ⟨rfl, s5⟩
            refine ⟨_, rfl, _, rfl, a, _, rfl, .inr (SqT.of (s5 _ _ h2)), ?_⟩
            rw [ln]
            exact ⟨c, n, rs, Rw, rfl, s5 _ _ h4, h5, Tb.n2, fun i r hr => s5 _ _ (h6 i r hr), Tb.asc, Tb.sub, fun H' s' => ⟨_, rfl, iteF (k _ (s5.trans s'))⟩⟩
theorem all_rep (m : Nat) : (List.replicate m true).all id = true := by
  induction m with
  | zero => rfl
  | succ m ih => exact ih
/-- the pairs of crossings, row by row -/
def prsR (R : Nat → List Nat) : Nat → List (Nat × Nat)
  | 0 => []
  | i + 1 => prsR R i ++ (R i).map fun x => (i, x)
theorem mem_prsR {R : Nat → List Nat} {p : Nat × Nat} : ∀ {n : Nat}, p ∈ prsR R n → p.1 < n ∧ p.2 ∈ R p.1
  | 0, h => nomatch h
  | n + 1, h => by
    rcases List.mem_append.mp h with h | h
    · have := mem_prsR h
      exact ⟨by omega, this.2⟩
    · obtain ⟨x, hx, rfl⟩ := List.mem_map.mp h
      exact ⟨Nat.lt_succ_self _, hx⟩
theorem nd_le : ∀ {ks ys : List Nat}, ks.Nodup → (∀ e ∈ ks, e ∈ ys) → ks.length ≤ ys.length
  | [], _, _, _ => Nat.zero_le _
  | x :: ks, ys, nd, h => by
    obtain ⟨n1, n2⟩ := List.nodup_cons.mp nd
    have hx := h x (List.mem_cons_self ..)
    have e := List.length_erase_of_mem hx
    have := nd_le (ys := ys.erase x) n2 fun e he => (List.mem_erase_of_ne (fun z => n1 (by rw [← z]; exact he))).mpr (h e (List.mem_cons_of_mem _ he))
    have := List.length_pos_of_mem hx
    rw [List.length_cons]
    omega
theorem nodup_len {N : Nat} {ks : List Nat} (nd : ks.Nodup) (h : ∀ e ∈ ks, e < N) : ks.length ≤ N := by
  have := nd_le (ys := List.range N) nd fun e he => List.mem_range.mpr (h e he)
  rwa [List.length_range] at this
theorem asc_len {l : List Nat} {n : Nat} (hp : l.Pairwise (· < ·)) (h : ∀ x ∈ l, x < n) : l.length ≤ n := by
  have nd : l.Nodup := hp.imp fun {a b} h => (Nat.ne_of_lt h : a ≠ b)
  exact nodup_len nd h
theorem prsR_len {R : Nat → List Nat} {m : Nat} : ∀ {n : Nat}, (∀ i, i < n → (R i).length ≤ m) → (prsR R n).length ≤ n * m
  | 0, _ => Nat.zero_le _
  | n + 1, h => by
    show (prsR R n ++ (R n).map fun x => (n, x)).length ≤ _
    rw [List.length_append, List.length_map, Nat.succ_mul]
    exact Nat.add_le_add (prsR_len fun i hi => h i (by omega)) (h n (by omega))
theorem ok_ro {f fA : Addr} {fd fdA : FuncData} (F : Fun K "are_rows" "are_rows" sRo f fd) (T : TB mg) (Ar : Cal K mg "are_rising" fA fdA ["thing", "many"]) (GA : FnOk P w K mg base CX0 3 fA fdA ["thing", "many"] spAr) :
    FnOk P w K mg base CX0 4 f fd ["thing", "many"] spRo := by
  refine F.ok scRo (fun vs H Q E h => ?_) (fun cdv A outer s H vs Q E hr h => ?_)
  · obtain ⟨c, n, rs, R, rfl, _⟩ := h
    rfl
  · obtain ⟨c, n, rs, R, rfl, hc, hl, h40, hR, hasc, hsub, k⟩ := h
    have nd := scRo.nd
    have hr3 : Room 3 _ := hr
    refine ⟨_, pss_cons (ps_if (PW.pt (pw_or (pt_not (pt_val (pe_callB call_isi (by rfl) T.isinstance boot_isinstance (pa_cons (pv 0) (pa_cons (pe_bltn (v := .ty "tuple") (by rfl) T.tuple boot_tuple rfl) pa_nil))))) (pw_or1 (pt_cmpR op_ne (pe_callB call_len_seq (by rfl) T.len PySem.boot_len (pa_cons (pv 0) pa_nil)) (pv 1) (nomark _))))) (pss_one (ps_ret pe_bl)) pss_nil)
      (C8.pss_cut (ps_if (pt_not (pt_val (pe_callB (cr_all rfl) (by rfl) T.all boot_all (pa_cons (pe_lc (own := [("crossings", 5)]) (g := (gName 5)) (tt := tYes) (te := (tCall spAr [] E0 (tCons (tVar 5) (tCons (tVar 1) tNil)))) rfl nd (pi_tup (pv 0)) (blkOk_by (N := nRo) (sc := defScope sRo) (by decide +kernel)) (fun _ _ _ _ _ => pg_name (i := 5) nd rfl (Or.inl rfl)) (fun _ _ _ _ _ => pts_nil) (fun _ _ _ _ _ => by exact (pe_call GA hr3 rfl Ar.g Ar.kp Ar.b .nil pass0 (pa_cons (pv 5) (pa_cons (pv 1) pa_nil))))) pa_nil)))) (pss_one (ps_ret pe_bl)) pss_nil)
      (C8.pss_cut (ps_setLc2 (i := 2) (own := [("crossing", 3), ("other", 4)]) (g := gName 3) (tt := tYes) (wi1 := iTup K (tOp (rIxT K) (tVar 0) (tVar 3))) (g1 := gName 4) (tt1 := tYes) (te := tTup (tCons (tVar 3) (tCons (tVar 4) tNil))) (vs1 := [4]) rfl nd rfl rfl (sw_true rfl rfl rfl (by decide +kernel)) (pi_range1 (by rfl) T.range (pa_cons (pv 1) pa_nil)) (blkOk_by (N := nRo) (sc := defScope sRo) (by decide +kernel)) (by decide) (fun _ _ _ _ _ => pg_name (i := 3) nd rfl (Or.inl rfl)) (fun _ _ _ _ _ => pts_nil) (fun _ _ _ _ _ => by exact (pi_tup (pe_ix ix_tup (pv 0) (pv 3) (fun _ _ => rfl)))) (fun _ _ _ _ _ => pg_name (i := 4) nd rfl (Or.inl rfl)) (fun _ _ _ _ _ => pts_nil) (fun _ _ _ _ _ => by exact (pe_tup (pa_cons (pv 3) (pa_cons (pv 4) pa_nil)))))
      (pss_one (ps_ret (pe_callB (cr_all rfl) (by rfl) T.all boot_all (pa_cons (pe_lc (own := [("crossing", 3), ("other", 4)]) (g := (gTup K 2 (gCons (gName 3) (gCons (gName 4) gNil)))) (tt := tYes) (te := (tAndV (tOp rNe (tVar 3) (tVar 4)) (tOp (rIn K false) (tVar 3) (tOp (rIxT K) (tVar 0) (tVar 4))))) rfl nd (pi_list (pv 2)) (blkOk_by (N := nRo) (sc := defScope sRo) (by decide +kernel)) (fun _ _ _ _ _ => pg_tup rfl (pgs_cons (pg_name (i := 3) nd rfl (Or.inl rfl)) (pgs_cons (pg_name (i := 4) nd rfl (Or.inl rfl)) pgs_nil))) (fun _ _ _ _ _ => pts_nil) (fun _ _ _ _ _ => by exact (pe_and (pe_cmpR op_ne (pv 3) (pv 4) (nomark _)) (pe_one (pe_cmpR op_in_seq (pv 3) (pe_ix ix_tup (pv 0) (pv 4) (fun _ _ => rfl)) (by rfl)))))) pa_nil)))))), ?_⟩
    have ln : (refs rs).length = n := (List.length_map _).trans hl
    refine ⟨_, rfl, _, _, _, _, _, rfl, .ty _, (TV.tup hc).tyx, (TV.tup hc).kTup, _, rfl, iteF ⟨_, rfl, c, _, rfl, .inr (SqT.of hc), ?_⟩⟩
    rw [ln]
    refine ⟨_, rfl, rfl, ?_⟩
    rw [decide_eq_true rfl]
    refine ⟨_, rfl, iteF ?_⟩
    refine ⟨fun σ H2 => σ = [some (.ref c), some (.int (n : Nat)), none, none, none, none] ∧ Same H H2, ?_, ?_⟩
    · refine ⟨_, rfl, c, rfl, ⟨_, SqT.of hc⟩, fun D hD => ?_⟩
      have sD := Same.new (o := .lst []) hD
      refine lc_it (walk_tup (K := K) (a := c) (xs := refs rs)) (fun i H6 => H6 D = some (.lst ((List.replicate i true).map V.bl)) ∧ Same H H6) ⟨upd_same, sD⟩ (fun i H6 _ ⟨_, s'⟩ => SqT.of (s' _ _ hc)) ?_ ?_
      · rintro i v H6 H7 hi ⟨h6, s6⟩ ⟨rfl, ex⟩
        obtain ⟨r, hr', rfl⟩ := refs_get ex
        have hi' : i < n := by rw [← hl]; exact (List.getElem?_eq_some_iff.mp hr').1
        refine ⟨rfl, yes ⟨_, rfl, _, rfl, r, n, R i, rfl, s6 _ _ (hR i r hr'), hasc i hi', fun x hx => (hsub i hi' x hx).1, fun H' s' => ?_⟩⟩
        refine ⟨_, s' _ _ h6, by rw [List.length_map, List.length_replicate]; exact Nat.lt_of_lt_of_le hi' (Nat.le_trans h40 (by decide)), ?_, fun b o e => ?_⟩
        · rw [upd_same, List.replicate_succ', List.map_append]
          rfl
        · rw [upd_ne (ne_of_none e hD)]
          exact (s6.trans s') _ _ e
      · rintro H6 ⟨h6, s6⟩
        unfold tNil
        refine ⟨D, _, rfl, SqL.of h6, _, rfl, ?_⟩
        rw [all_rep]
        exact iteF ⟨rfl, s6⟩
    · rintro σ H2 ⟨rfl, s2⟩
      refine ⟨fun σ H3 => ∃ (l : Addr) (as : List Addr), σ = [some (.ref c), some (.int (n : Nat)), some (.ref l), none, none, none] ∧ Same H H3 ∧ H3 l = some (.lst (refs as)) ∧ PL H3 as (prsR R n), ?_, ?_⟩
      · refine ⟨_, rfl, _, rfl, by omega, by omega, fun D hD => ?_⟩
        rw [show ((n : Nat) : Int).toNat = n by omega]
        have sD := Same.new (o := .lst []) hD
        refine wk_it (walk_range (lo := 0) (n := n)) (fun i H6 => ∃ as : List Addr, H6 D = some (.lst (refs as)) ∧ PL H6 as (prsR R i) ∧ Same H2 H6) ⟨[], upd_same, .nil, sD⟩ (fun i H6 _ _ => trivial) ?_ ?_
        · rintro i v H6 H7 hi ⟨as, h6, hP, s6⟩ ⟨rfl, hv⟩
          have hv : v = V.int ((i : Nat) : Int) := by
            rw [hv]
            show V.int (0 + _) = _
            rw [Int.zero_add]
          subst hv
          refine ⟨rfl, yes ?_⟩
          obtain ⟨r, hr'⟩ : ∃ r, rs[i]? = some r := ⟨_, List.getElem?_eq_getElem (by omega)⟩
          have hRi := hR i r hr'
          have hsi := hsub i hi
          have la := asc_len (hasc i hi) fun x hx => (hsi x hx).1
          refine ⟨_, rfl, _, rfl, c, refs rs, _, _, rfl, rfl, SqT.of (s6 _ _ (s2 _ _ hc)), ref_at hr', r, rfl, ⟨_, SqT.of (s6 _ _ (s2 _ _ hRi))⟩, ?_⟩
          refine wk_it (walk_tup (K := K) (a := r) (xs := nats (R i))) (fun j H8 => ∃ bs : List Addr, H8 D = some (.lst (refs (as ++ bs))) ∧ PL H8 as (prsR R i) ∧ PL H8 bs (((R i).take j).map fun x => (i, x)) ∧ Same H2 H8) ⟨[], by rw [List.append_nil]; exact h6, hP, .nil, s6⟩ (fun j H8 _ ⟨_, _, _, _, s'⟩ => SqT.of (s' _ _ (s2 _ _ hRi))) ?_ ?_
          · rintro j v H8 H9 hj ⟨bs, h8, q1, q2, s8⟩ ⟨rfl, ex⟩
            obtain ⟨x, hx, rfl⟩ := nats_get ex
            refine ⟨rfl, yes ⟨_, rfl, _, rfl, by show 2 ≤ sizeLine; decide, fun p hp => ?_⟩⟩
            have s9 := Same.new (o := .tup [V.int (i : Nat), V.int (x : Nat)]) hp
            have lb := q2.len
            have lA := q1.len
            have m1 := prsR_len (R := R) (m := 40) (n := i) fun i' h' => Nat.le_trans (asc_len (hasc i' (by omega)) fun x hx => (hsub i' (by omega) x hx).1) h40
            rw [List.length_map, List.length_take] at lb
            refine ⟨_, s9 _ _ h8, by
              rw [List.length_map, List.length_append, lA, lb]
              have : i * 40 ≤ 1600 := by omega
              exact Nat.lt_of_lt_of_le (by omega : _ < 5000) (by decide), bs ++ [p], ?_, ?_⟩
            · rw [upd_same, ← List.append_assoc, refs_app (as ++ bs)]
              rfl
            · have h9 := s9 _ _ h8
              have kD : ∀ b xs, H9 b = some (.tup xs) → upd (upd H9 p (.tup [V.int (i : Nat), V.int (x : Nat)])) D (.lst (refs (as ++ bs) ++ [V.ref p])) b = some (.tup xs) := fun b xs e => by
                rw [upd_ne fun z => by rw [z, h8] at e; cases e]
                exact s9 _ _ e
              refine ⟨q1.mono kD, ?_, fun b o e => ?_⟩
              · rw [List.take_succ, hx, Option.toList_some, List.map_append]
                refine (q2.mono kD).app (.cons ?_ .nil)
                show upd _ _ _ _ = _
                rw [upd_ne (fun z => by rw [z] at hp; rw [h8] at hp; cases hp)]
                exact upd_same
              · rw [upd_ne (ne_of_none e hD)]
                exact (s8.trans s9) _ _ e
          · rintro H8 ⟨bs, h8, q1, q2, s8⟩
            rw [List.take_of_length_le (by rw [show (nats (R i)).length = (R i).length from List.length_map _]; omega)] at q2
            exact ⟨as ++ bs, h8, q1.app q2, s8⟩
        · rintro H6 ⟨as, h6, hP, s6⟩
          exact ⟨D, as, rfl, s2.trans s6, h6, hP⟩
      · rintro σ H3 ⟨l, as, rfl, s3, hl3, hP⟩
        refine ⟨_, rfl, l, rfl, ⟨_, SqL.of hl3⟩, fun D hD => ?_⟩
        have sD := Same.new (o := .lst []) hD
        refine lc_it (walk_list (K := K) (a := l) (xs := refs as)) (fun i H6 => H6 D = some (.lst ((List.replicate i true).map V.bl)) ∧ Same H3 H6) ⟨upd_same, sD⟩ (fun i H6 _ ⟨_, s'⟩ => SqL.of (s' _ _ hl3)) ?_ ?_
        · rintro i v H6 H7 hi ⟨h6, s6⟩ ⟨rfl, ex⟩
          obtain ⟨r, hr', rfl⟩ := refs_get ex
          obtain ⟨p, hp, hPr⟩ := hP.got hr'
          obtain ⟨p1, p2⟩ := mem_prsR (List.mem_of_getElem? hp)
          obtain ⟨q1, q2, q3⟩ := hsub _ p1 _ p2
          obtain ⟨r2, hr2⟩ : ∃ r2, rs[p.2]? = some r2 := ⟨_, List.getElem?_eq_getElem (by omega)⟩
          have hPr' := s6 _ _ hPr
          have hR2 := s6 _ _ (s3 _ _ (hR _ _ hr2))
          have lp : as.length ≤ 1600 := by
            have m1 := prsR_len (R := R) (m := 40) (n := n) fun i' h' => Nat.le_trans (asc_len (hasc i' (by omega)) fun x hx => (hsub i' (by omega) x hx).1) h40
            have := hP.len
            have : n * 40 ≤ 1600 := by omega
            omega
          have hi' : i < as.length := by
            have : (refs as).length = as.length := List.length_map _
            omega
          have e1 : (!decide (V.int ((p.1 : Nat) : Int) = V.int ((p.2 : Nat) : Int))) = true := by
            rw [decide_eq_false fun z => q2 (by have := V.int.inj z; omega)]
            rfl
          refine ⟨r, _, rfl, SqT.of hPr', rfl, _, _, rfl, _, _, rfl, rfl, rfl, yes ⟨_, rfl, _, rfl, rfl, ?_⟩⟩
          rw [e1]
          refine ⟨true, rfl, iteT ⟨_, rfl, _, rfl, _, rfl, c, refs rs, _, _, rfl, rfl, SqT.of (s6 _ _ (s3 _ _ hc)), ref_at hr2, r2, _, rfl, .inr (SqT.of hR2), rfl, flat_nats _, ?_⟩⟩
          rw [inV_nats, decide_eq_true q3]
          refine ⟨_, h6, by rw [List.length_map, List.length_replicate]; exact Nat.lt_of_lt_of_le (by omega : i < 5000) (by decide), ?_, fun b o e => ?_⟩
          · rw [upd_same, List.replicate_succ', List.map_append]
            rfl
          · rw [upd_ne (ne_of_none e hD)]
            exact s6 _ _ e
        · rintro H6 ⟨h6, s6⟩
          unfold tNil
          refine ⟨D, _, rfl, SqL.of h6, ?_⟩
          rw [all_rep]
          exact k _ (s3.trans s6)
theorem ok_nt {f fT : Addr} {fd fdT : FuncData} (F : Fun K "need_table" "need_table" sNt f fd) (Tf : Cal K mg "table_fault" fT fdT ["thing"]) (GT : FnOk P w K mg base CX0 5 fT fdT ["thing"] spTf) :
    FnOk P w K mg base CX0 6 f fd ["thing"] spNt := by
  refine F.ok scNt (fun vs H Q E h => ?_) (fun cdv A outer s H vs Q E hr h => ?_)
  · obtain ⟨t, n, s, o, R, rfl, _⟩ := h
    rfl
  · obtain ⟨t, n, ws, os, R, rfl, hT, k⟩ := h
    have nd := scNt.nd
    refine ⟨_, pss_cons (ps_set (i := 1) nd rfl (Or.inl rfl) (pe_call GT hr rfl Tf.g Tf.kp Tf.b .nil pass0 (pa_cons (pv 0) pa_nil)))
      (pss_cons (ps_if (pt_cmpR op_notN (pv 1) pe_non (nomark _)) (pss_one ps_never) pss_nil)
      (pss_one (ps_ret (pv 0)))), ?_⟩
    exact ⟨_, rfl, t, n, ws, os, R, rfl, hT, fun H' s' => ⟨_, rfl, rfl, _, rfl, iteF ⟨_, rfl, k H' s'⟩⟩⟩
theorem ok_ns {f fW : Addr} {fd fdW : FuncData} (F : Fun K "need_setting_by" "need_setting_by" sNs f fd) (T : TB mg) (W : Cal K mg "ways_fault" fW fdW ["thing", "many", "is_draft"]) (GW : FnOk P w K mg base CX0 3 fW fdW ["thing", "many", "is_draft"] spWays) :
    FnOk P w K mg base CX0 4 f fd ["table", "thing"] spNs := by
  refine F.ok scNs (fun vs H Q E h => ?_) (fun cdv A outer s H vs Q E hr h => ?_)
  · obtain ⟨t, u, n, ws, os, R, zs, rfl, _⟩ := h
    rfl
  · obtain ⟨t, u, n, ws, os, R, zs, rfl, hT, hu, hZ, k⟩ := h
    have nd := scNs.nd
    have hrw : Room 3 _ := hr
    obtain ⟨a, b, c, rs, h1, h2, h3, h4, h5, h6⟩ := hT.ex
    refine ⟨_, pss_cons (ps_asg (pv 0) (pg_tup rfl (pgs_cons (pg_name (i := 2) nd rfl (Or.inl rfl)) (pgs_cons (pg_name (i := 3) nd rfl (Or.inl rfl)) (pgs_cons (pg_name (i := 3) nd rfl (Or.inl rfl)) pgs_nil)))))
      (pss_cons (ps_set (i := 4) nd rfl (Or.inl rfl) (pe_call GW hrw rfl W.g W.kp W.b .nil pass0 (pa_cons (pv 1) (pa_cons (pe_callB call_len_seq (by rfl) T.len PySem.boot_len (pa_cons (pv 2) pa_nil)) (pa_cons pe_bl pa_nil)))))
      (pss_cons (ps_if (pt_cmpR op_notN (pv 4) pe_non (nomark _)) (pss_one ps_never) pss_nil)
      (pss_one (ps_ret (pv 1))))), ?_⟩
    have ln : ((nats ws).length : Int) = (n : Int) := by rw [show (nats ws).length = ws.length from List.length_map _, hT.tb.ls]
    refine ⟨_, rfl, t, _, rfl, SqT.of h1, rfl, _, _, rfl, _, _, rfl, _, _, rfl, rfl, _, rfl, _, rfl, a, _, rfl, .inr (SqT.of h2), ?_⟩
    rw [ln]
    unfold tCons tC tNil
    dsimp only
    exact ways_good hu hZ fun H' s' => ⟨_, rfl, rfl, _, rfl, iteF ⟨_, rfl, k H' s'⟩⟩
end
end One
end P_WA

section P_WB
set_option linter.all false
set_option maxRecDepth 100000
set_option maxHeartbeats 8000000
namespace One
open PySem PySem.Spec PyProof.Rows L2
/-! ### the square, and the first noughts by highest bits -/
def tFrz (t : TE) : TE := fun σ H Q => t σ H fun x H1 => ∃ d u, x = .ref d ∧ H1 d = some u ∧ Mut (some u) ∧ ∀ od, Q x (upd H1 d (.frz od u))
theorem pe_frz {X : Cx} {e : Expr} {t : TE} (h : PE X e t) : PE X e (tFrz t) := ⟨fun pins s σ H Q I hw =>
  thn (h.run pins s σ H _ I hw) fun v s1 ⟨y, H1, I1, r, d, u, e1, hd, mu, q⟩ => let ⟨od, I2⟩ := I1.lock hd mu; ⟨y, upd H1 d (.frz od u), I2, r, q od⟩⟩
def rOneShl : R2 := fun x y H Q => ∃ k : Nat, x = .int 1 ∧ y = .int ((k : Nat) : Int) ∧ k ≤ 134217727 ∧ Q (.int (2 ^ k)) H
def rOdd : R2 := fun x y H Q => ∃ n : Nat, x = .int ((n : Nat) : Int) ∧ y = .int 1 ∧ Q (.int ((n % 2 : Nat) : Int)) H
def rShrN : R2 := fun x y H Q => ∃ (i : Int) (k : Nat), x = .int i ∧ y = .int ((k : Nat) : Int) ∧ Q (.int (i / 2 ^ k)) H
def tTru (K : PySem.W.Frag) (ta : TE) : TT := fun σ H Q => ta σ H fun x H' => ∃ k, TruV K x H' k ∧ Q k H'
/-! what is marked -/
def isMk (s ws : List Nat) (i : Nat) : Bool := decide (ws.getD i 0 ≠ s.getD i 0)
def isOut (o ws : List Nat) (i : Nat) : Bool := decide (ws.getD i 0 = o.getD i 0)
def mkL (n : Nat) (s ws : List Nat) : List Nat := (List.range n).filter (isMk s ws)
def rowL (n : Nat) (s o : List Nat) (R : Nat → List Nat) (ws : List Nat) (c : Nat) : List Nat := (mkL n s ws).filter fun x => decide (x ∈ R c) || (decide (x = c) && !isOut o ws c)
def bOf (n : Nat) (s o : List Nat) (R : Nat → List Nat) (ws : List Nat) (c : Nat) : Nat := bitsN (rowL n s o R ws c)
theorem mkL_asc (n : Nat) (s ws : List Nat) : (mkL n s ws).Pairwise (· < ·) := List.pairwise_lt_range.filter _
theorem mem_mkL {n : Nat} {s ws : List Nat} {x : Nat} : x ∈ mkL n s ws ↔ x < n ∧ isMk s ws x = true := by
  unfold mkL
  rw [List.mem_filter, List.mem_range]
theorem rowL_asc (n : Nat) (s o : List Nat) (R : Nat → List Nat) (ws : List Nat) (c : Nat) : (rowL n s o R ws c).Pairwise (· < ·) := (mkL_asc n s ws).filter _
theorem bOf_at (n : Nat) (s o : List Nat) (R : Nat → List Nat) (ws : List Nat) (c j : Nat) : (bOf n s o R ws c).testBit j = decide (j ∈ rowL n s o R ws c) := bits_at (rowL_asc n s o R ws c) j
theorem mkL_succ (n : Nat) (s ws : List Nat) : mkL (n + 1) s ws = mkL n s ws ++ (if isMk s ws n = true then [n] else []) := by
  unfold mkL
  rw [List.range_succ, List.filter_append]
  refine congrArg _ ?_
  by_cases h : isMk s ws n = true
  · rw [if_pos h, List.filter_cons_of_pos h, List.filter_nil]
  · rw [if_neg h, List.filter_cons_of_neg h, List.filter_nil]
theorem cols_perm {n : Nat} {s o : List Nat} {R : Nat → List Nat} (Tb : Tb n s o R) {ws : List Nat} {c : Nat} (hc : c < n) (hm : isMk s ws c = true) :
    ((R c).filter (isMk s ws) ++ (if isOut o ws c = true then [] else [c])).Perm (rowL n s o R ws c) := by
  have nd1 : ((R c).filter (isMk s ws)).Nodup := ((Tb.asc c hc).filter _).imp fun {a b} h => (Nat.ne_of_lt h : a ≠ b)
  have nd2 : (rowL n s o R ws c).Nodup := (rowL_asc n s o R ws c).imp fun {a b} h => (Nat.ne_of_lt h : a ≠ b)
  have nc : c ∉ (R c).filter (isMk s ws) := fun h => (Tb.sub c hc c (List.mem_filter.mp h).1).2.1 rfl
  refine (List.perm_ext_iff_of_nodup ?_ nd2).mpr fun x => ?_
  · by_cases h : isOut o ws c = true
    · rw [if_pos h, List.append_nil]
      exact nd1
    · rw [if_neg h]
      exact nodup_app nd1 nc
  · unfold rowL
    rw [List.mem_append, List.mem_filter, List.mem_filter, mem_mkL, Bool.or_eq_true, Bool.and_eq_true, decide_eq_true_eq, decide_eq_true_eq]
    by_cases h : isOut o ws c = true
    · rw [if_pos h, h]
      constructor
      · rintro (⟨a, b⟩ | z)
        · exact ⟨⟨(Tb.sub c hc x a).1, b⟩, .inl a⟩
        · cases z
      · rintro ⟨⟨_, b⟩, a | ⟨_, z⟩⟩
        · exact .inl ⟨a, b⟩
        · cases z
    · rw [if_neg h, Bool.not_eq_true] at *
      rw [h, List.mem_singleton]
      constructor
      · rintro (⟨a, b⟩ | rfl)
        · exact ⟨⟨(Tb.sub c hc x a).1, b⟩, .inl a⟩
        · exact ⟨⟨hc, hm⟩, .inr ⟨rfl, rfl⟩⟩
      · rintro ⟨⟨_, b⟩, a | ⟨z, _⟩⟩
        · exact .inl ⟨a, b⟩
        · exact .inr z
theorem sum_pow : ∀ l : List Nat, (l.map fun c => (2 : Int) ^ c).sum = ((bitsN l : Nat) : Int)
  | [] => rfl
  | c :: l => by
    rw [List.map_cons, List.sum_cons, sum_pow l, show bitsN (c :: l) = 2 ^ c + bitsN l from rfl, Int.natCast_add, Int.natCast_pow]
    rfl
def sqK (b : Nat → Nat) (mk : List Nat) : List (Key × V) := mk.map fun c => (Sum.inl ((c : Nat) : Int), V.int ((b c : Nat) : Int))
theorem sqK_new (b : Nat → Nat) : ∀ {mk : List Nat} {c : Nat}, c ∉ mk → valV (sqK b mk) (Sum.inl ((c : Nat) : Int)) = none
  | [], c, _ => valV_nil
  | x :: ms, c, h => (valV_neg (p := ((Sum.inl ((x : Nat) : Int) : Key), V.int ((b x : Nat) : Int))) fun z => h (by
      have := Sum.inl.inj z
      rw [show x = c by omega]
      exact List.mem_cons_self)).trans (sqK_new b fun m => h (List.mem_cons_of_mem _ m))
theorem sqK_put (b : Nat → Nat) {mk : List Nat} {c : Nat} (h : c ∉ mk) : putK (sqK b mk) (Sum.inl ((c : Nat) : Int)) (.int ((b c : Nat) : Int)) = sqK b (mk ++ [c]) := by
  rw [putK_new _ (sqK_new b h)]
  unfold sqK
  rw [List.map_append]
  rfl
abbrev sSq : Stmt := top 21
abbrev nSq : List Str := ["table", "setting", "ways", "outers", "rows", "told", "crossing", "way", "columns", "other", "column"]
theorem scSq : FnScope nSq ["table", "setting"] (defScope sSq) := ⟨rfl, rfl, rfl, by decide +kernel, rfl, by decide +kernel, by decide +kernel⟩
def spSq : Sp := fun vs H Q _ => ∃ (t u : Addr) (n : Nat) (s o : List Nat) (R : Nat → List Nat) (ws : List Nat), vs = [.ref t, .ref u] ∧ TbAt H t n s o R ∧ H u = some (.tup (nats ws)) ∧ WsN n ws ∧
  ∀ (H' : Hp) (d : Addr), Same H H' → H d = none → H' d = some (.dK (sqK (bOf n s o R ws) (mkL n s ws))) → Q (.ref d) H'
section
variable {P : Program} {w : World} {K : PySem.W.Frag} {mg : Str → Option Value} {base : Heap}
theorem ok_sq {f : Addr} {fd : FuncData} (F : Fun K "square" "square" sSq f fd) (T : TB mg) (hsum : mg "sum" = none) : FnOk P w K mg base CX0 1 f fd ["table", "setting"] spSq := by
  refine F.ok scSq (fun vs H Q E h => ?_) (fun cdv A outer s H vs Q E hr h => ?_)
  · obtain ⟨t, u, n, s, o, R, ws, rfl, _⟩ := h
    rfl
  · obtain ⟨t, u, n, st, o, R, ws, rfl, hT, hu, hW, k⟩ := h
    have nd := scSq.nd
    have hu1 := hu_of hr
    obtain ⟨a, b, c, rs, h1, h2, h3, h4, h5, h6⟩ := hT.ex
    have Tb := hT.tb
    refine ⟨_, C8.pss_cut (ps_asg (pv 0) (pg_tup rfl (pgs_cons (pg_name (i := 2) nd rfl (Or.inr rfl)) (pgs_cons (pg_name (i := 3) nd rfl (Or.inl rfl)) (pgs_cons (pg_name (i := 4) nd rfl (Or.inl rfl)) pgs_nil)))))
      (C8.pss_cut (ps_set (i := 5) nd rfl (Or.inl rfl) pe_dnewK)
      (pss_cons (ps_for PassesOwn.never rfl (pi_enumT (by rfl) T.enumerate (pa_cons (pv 1) pa_nil)) (pg_tup rfl (pgs_cons (pg_name (i := 6) nd rfl (Or.inl rfl)) (pgs_cons (pg_name (i := 7) nd rfl (Or.inl rfl)) pgs_nil)))
        (pss_one (ps_if (pt_cmpR op_ne (pv 7) (pe_ix ix_tup (pv 2) (pv 6) (fun _ _ => rfl)) (nomark _)) (C8.pss_cut (ps_setLc (i := 8) (own := [("other", 9)]) (g := (gName 9)) (tt := (tTest (tOp rNe (tOp (rIxT K) (tVar 1) (tVar 9)) (tOp (rIxT K) (tVar 2) (tVar 9))))) (te := (tVar 9)) rfl nd rfl rfl (sw_true rfl rfl rfl (by decide +kernel)) (pi_tup (pe_ix ix_tup (pv 4) (pv 6) (fun _ _ => rfl))) (blkOk_by (N := nSq) (sc := defScope sSq) (by decide +kernel)) (fun _ _ _ _ _ => pg_name (i := 9) nd rfl (Or.inl rfl)) (fun _ _ _ _ _ => pts_one (pt_cmpR op_ne (pe_ix ix_tup (pv 1) (pv 9) (fun _ _ => rfl)) (pe_ix ix_tup (pv 2) (pv 9) (fun _ _ => rfl)) (nomark _))) (fun _ _ _ _ _ => by exact (pv 9)))
      (C8.pss_cut (ps_if (pt_cmpR op_ne (pv 7) (pe_ix ix_tup (pv 3) (pv 6) (fun _ _ => rfl)) (nomark _)) (pss_one (ps_expr (pe_bm PySem.F.plainAttrs_list PySem.F.slot_list_append PySem.F.type_list_append mt_append (pv 8) (pa_cons (pv 6) pa_nil)))) pss_nil)
      (pss_one (ps_dput hu1 (pv 5) (pv 6) (pe_callB (cr_sum rfl) (by rfl) hsum boot_sum (pa_cons (pe_lc (own := [("column", 10)]) (g := (gName 10)) (tt := tYes) (te := (tOp rOneShl (tC (.int 1)) (tVar 10))) rfl nd (pi_list (pv 8)) (blkOk_by (N := nSq) (sc := defScope sSq) (by decide +kernel)) (fun _ _ _ _ _ => pg_name (i := 10) nd rfl (Or.inl rfl)) (fun _ _ _ _ _ => pts_nil) (fun _ _ _ _ _ => by exact (pe_op op_oneShl pe_int (pv 10)))) pa_nil)) rfl)))) pss_nil)))
      (pss_one (ps_ret (pv 5))))), ?_⟩
    refine ⟨fun σ H2 => σ = [some (.ref t), some (.ref u), some (.ref a), some (.ref b), some (.ref c), none, none, none, none, none, none] ∧ H2 = H, ?_, ?_⟩
    · exact ⟨_, rfl, t, _, rfl, SqT.of h1, rfl, _, _, rfl, _, _, rfl, _, _, rfl, rfl, rfl, rfl⟩
    · rintro σ H2 ⟨rfl, rfl⟩
      refine ⟨fun σ H3 => ∃ d, σ = [some (.ref t), some (.ref u), some (.ref a), some (.ref b), some (.ref c), some (.ref d), none, none, none, none, none] ∧ Same H2 H3 ∧ H2 d = none ∧ H3 d = some (.dK []), ?_, ?_⟩
      · exact fun d hd => ⟨d, rfl, Same.new hd, hd, upd_same⟩
      · rintro σ H3 ⟨d, rfl, s3, hd, hd3⟩
        refine ⟨_, rfl, u, _, rfl, SqT.of (s3 _ _ hu), for_it (walk_enumT (K := K) (a := u) (xs := nats ws)) (fun i σ H4 => ∃ v6 v7 v8 : Option V, σ = [some (.ref t), some (.ref u), some (.ref a), some (.ref b), some (.ref c), some (.ref d), v6, v7, v8, none, none] ∧ Same H2 H4 ∧ H4 d = some (.dK (sqK (bOf n st o R ws) (mkL i st ws)))) ⟨none, none, none, rfl, s3, hd3⟩ (fun i σ H4 _ ⟨_, _, _, _, s', _⟩ => SqT.of (s' _ _ hu)) ?_ ?_⟩
        · rintro i x σ H4 H5 hi ⟨v6, v7, v8, rfl, s4, hd4⟩ ⟨q, x', y', rfl, hq, rfl, ex, ey⟩
          cases ex
          obtain ⟨wi, hwi, rfl⟩ := nats_get ey
          have hin : i < n := by rw [← hW.len]; exact (List.getElem?_eq_some_iff.mp hwi).1
          obtain ⟨si, hsi⟩ : ∃ x, st[i]? = some x := ⟨_, List.getElem?_eq_getElem (by rw [Tb.ls]; exact hin)⟩
          obtain ⟨oi, hoi⟩ : ∃ x, o[i]? = some x := ⟨_, List.getElem?_eq_getElem (by rw [Tb.lo]; exact hin)⟩
          obtain ⟨r, hr'⟩ : ∃ r, rs[i]? = some r := ⟨_, List.getElem?_eq_getElem (by rw [h5]; exact hin)⟩
          have gw : ws.getD i 0 = wi := by rw [List.getD_eq_getElem?_getD, hwi]; rfl
          have gs : st.getD i 0 = si := by rw [List.getD_eq_getElem?_getD, hsi]; rfl
          have go : o.getD i 0 = oi := by rw [List.getD_eq_getElem?_getD, hoi]; rfl
          have hR := h6 i r hr'
          have s5 := s4.trans (Same.new (o := .tup [V.int (i : Nat), V.int (wi : Nat)]) hq)
          have hd5 := Same.new (o := .tup [V.int (i : Nat), V.int (wi : Nat)]) hq _ _ hd4
          refine ⟨q, _, rfl, SqT.of upd_same, rfl, _, _, rfl, _, _, rfl, rfl, ?_⟩
          generalize upd H4 q (.tup [V.int (i : Nat), V.int (wi : Nat)]) = H5 at s5 hd5
          refine ⟨_, rfl, _, rfl, _, rfl, a, _, _, _, rfl, rfl, SqT.of (s5 _ _ h2), nat_ix hsi, rfl, _, rfl, ?_⟩
          have em : (!decide (V.int ((wi : Nat) : Int) = V.int ((si : Nat) : Int))) = isMk st ws i := by
            unfold isMk
            rw [gw, gs]
            by_cases h : wi = si
            · rw [h, decide_eq_true rfl, decide_eq_false fun z => z rfl]
              rfl
            · rw [decide_eq_false fun z => h (by have := V.int.inj z; omega), decide_eq_true h]
              rfl
          rw [em]
          cases hm : isMk st ws i with
          | false =>
            refine iteF ⟨_, _, _, rfl, s5, ?_⟩
            rw [mkL_succ, hm, if_neg (by decide), List.append_nil]
            exact hd5
          | true =>
            refine iteT ?_
            have hln := asc_len (Tb.asc i hin) fun x hx => (Tb.sub i hin x hx).1
            have h40 := Tb.n2
            refine ⟨fun σ H6 => ∃ l : Addr, σ = [some (.ref t), some (.ref u), some (.ref a), some (.ref b), some (.ref c), some (.ref d), some (.int (i : Nat)), some (.int (wi : Nat)), some (.ref l), none, none] ∧ Same H2 H6 ∧ H6 d = some (.dK (sqK (bOf n st o R ws) (mkL i st ws))) ∧ H2 l = none ∧ l ≠ d ∧ H6 l = some (.lst (nats ((R i).filter (isMk st ws)))), ?_, ?_⟩
            · refine ⟨_, rfl, _, rfl, c, refs rs, _, _, rfl, rfl, SqT.of (s5 _ _ h4), ref_at hr', r, rfl, ⟨_, SqT.of (s5 _ _ hR)⟩, fun D hD => ?_⟩
              have sD := Same.new (o := .lst []) hD
              refine lc_it (walk_tup (K := K) (a := r) (xs := nats (R i))) (fun j H6 => H6 D = some (.lst (nats (((R i).take j).filter (isMk st ws)))) ∧ Same H5 H6) ⟨upd_same, sD⟩ (fun j H6 _ ⟨_, s'⟩ => SqT.of (s' _ _ (s5 _ _ hR))) ?_ ?_
              · rintro j v H6 H7 hj ⟨h7, s7⟩ ⟨rfl, ex2⟩
                obtain ⟨x, hx, rfl⟩ := nats_get ex2
                have hxn := (Tb.sub i hin x (List.mem_of_getElem? hx)).1
                obtain ⟨wx, hwx⟩ : ∃ y, ws[x]? = some y := ⟨_, List.getElem?_eq_getElem (by rw [hW.len]; exact hxn)⟩
                obtain ⟨sx, hsx⟩ : ∃ y, st[x]? = some y := ⟨_, List.getElem?_eq_getElem (by rw [Tb.ls]; exact hxn)⟩
                have ex : (!decide (V.int ((wx : Nat) : Int) = V.int ((sx : Nat) : Int))) = isMk st ws x := by
                  unfold isMk
                  rw [List.getD_eq_getElem?_getD, hwx, List.getD_eq_getElem?_getD, hsx]
                  show _ = decide (wx ≠ sx)
                  by_cases h : wx = sx
                  · rw [h, decide_eq_true rfl, decide_eq_false fun z => z rfl]
                    rfl
                  · rw [decide_eq_false fun z => h (by have := V.int.inj z; omega), decide_eq_true h]
                    rfl
                refine ⟨rfl, _, rfl, _, rfl, u, _, _, _, rfl, rfl, SqT.of (s7 _ _ (s5 _ _ hu)), nat_ix hwx, _, rfl, _, rfl, a, _, _, _, rfl, rfl, SqT.of (s7 _ _ (s5 _ _ h2)), nat_ix hsx, rfl, _, rfl, ?_⟩
                rw [ex, List.take_succ, hx, Option.toList_some, List.filter_append]
                cases hmx : isMk st ws x with
                | false =>
                  rw [List.filter_cons_of_neg (by rw [hmx]; decide), List.filter_nil, List.append_nil]
                  exact iteF ⟨h7, s7⟩
                | true =>
                  rw [List.filter_cons_of_pos hmx, List.filter_nil]
                  have lf := List.length_filter_le (isMk st ws) ((R i).take j)
                  rw [List.length_take] at lf
                  refine iteT ⟨_, rfl, _, h7, by rw [show (nats _).length = _ from List.length_map _]; exact Nat.lt_of_lt_of_le (by omega : _ < 5000) (by decide), ?_, fun b o e => ?_⟩
                  · rw [upd_same, nats_app]
                    rfl
                  · rw [upd_ne (ne_of_none e hD)]
                    exact s7 _ _ e
              · rintro H6 ⟨h7, s7⟩
                rw [List.take_of_length_le (Nat.le_of_eq (List.length_map _).symm)] at h7
                exact ⟨D, rfl, s5.trans s7, s7 _ _ hd5, s5.free hD, ne_of_none hd5 hD |>.symm, h7⟩
            · rintro σ H6 ⟨l, rfl, s6, hd6, hl0, hld, hl6⟩
              refine ⟨fun σ H7 => σ = [some (.ref t), some (.ref u), some (.ref a), some (.ref b), some (.ref c), some (.ref d), some (.int (i : Nat)), some (.int (wi : Nat)), some (.ref l), none, none] ∧ Same H2 H7 ∧ H7 d = some (.dK (sqK (bOf n st o R ws) (mkL i st ws))) ∧ H7 l = some (.lst (nats ((R i).filter (isMk st ws) ++ (if isOut o ws i = true then [] else [i])))), ?_, ?_⟩
              · refine ⟨_, rfl, _, rfl, _, rfl, b, _, _, _, rfl, rfl, SqT.of (s6 _ _ h3), nat_ix hoi, rfl, _, rfl, ?_⟩
                have eo : (!decide (V.int ((wi : Nat) : Int) = V.int ((oi : Nat) : Int))) = !isOut o ws i := by
                  unfold isOut
                  rw [gw, go]
                  by_cases h : wi = oi
                  · rw [h, decide_eq_true rfl, decide_eq_true rfl]
                  · rw [decide_eq_false fun z => h (by have := V.int.inj z; omega), decide_eq_false h]
                rw [eo]
                cases ho : isOut o ws i with
                | true =>
                  refine iteF ⟨rfl, s6, hd6, ?_⟩
                  rw [if_pos rfl, List.append_nil]
                  exact hl6
                | false =>
                  have lf := List.length_filter_le (isMk st ws) (R i)
                  refine iteT ⟨_, rfl, .inl ⟨rfl, _, SqL.of hl6⟩, _, rfl, ?_⟩
                  unfold tNil
                  refine ⟨l, _, _, rfl, rfl, hl6, by rw [show (nats _).length = _ from List.length_map _]; exact Nat.lt_of_lt_of_le (by omega : _ < 5000) (by decide), rfl, fun b o e => ?_, ?_, ?_⟩
                  · rw [upd_ne (ne_of_none e hl0)]
                    exact s6 _ _ e
                  · rw [upd_ne (Ne.symm hld)]
                    exact hd6
                  · rw [upd_same, if_neg (by decide), nats_app]
                    rfl
              · rintro σ H7 ⟨rfl, s7, hd7, hl7⟩
                refine ⟨_, rfl, l, rfl, ⟨_, SqL.of hl7⟩, fun D hD => ?_⟩
                have sD := Same.new (o := .lst []) hD
                refine lc_it (walk_list (K := K) (a := l) (xs := nats ((R i).filter (isMk st ws) ++ (if isOut o ws i = true then [] else [i])))) (fun j H8 => H8 D = some (.lst ((((R i).filter (isMk st ws) ++ (if isOut o ws i = true then [] else [i])).take j).map fun c => V.int ((2 : Int) ^ c))) ∧ Same H7 H8) ⟨upd_same, sD⟩ (fun j H8 _ ⟨_, s'⟩ => SqL.of (s' _ _ hl7)) ?_ ?_
                · rintro j v H8 H9 hj ⟨h8, s8⟩ ⟨rfl, ex2⟩
                  obtain ⟨x, hx, rfl⟩ := nats_get ex2
                  have hxn : x < n := (mem_mkL.mp (List.mem_filter.mp ((cols_perm Tb hin hm).mem_iff.mp (List.mem_of_getElem? hx))).1).1
                  have lj : j < 5000 := by
                    have h1 := (cols_perm Tb hin hm).length_eq
                    have h2 := asc_len (rowL_asc n st o R ws i) fun x hx => (mem_mkL.mp (List.mem_filter.mp hx).1).1
                    have h3 := (List.getElem?_eq_some_iff.mp hx).1
                    omega
                  refine ⟨rfl, yes ⟨_, rfl, x, rfl, rfl, by omega, ?_⟩⟩
                  refine ⟨_, h8, by rw [List.length_map, List.length_take]; exact Nat.lt_of_lt_of_le (by omega : _ < 5000) (by decide), ?_, fun b o e => ?_⟩
                  · rw [upd_same, List.take_succ, hx, Option.toList_some, List.map_append]
                    rfl
                  · rw [upd_ne (ne_of_none e hD)]
                    exact s8 _ _ e
                · rintro H8 ⟨h8, s8⟩
                  rw [List.take_of_length_le (Nat.le_of_eq (List.length_map _).symm)] at h8
                  unfold tNil
                  refine ⟨D, ((R i).filter (isMk st ws) ++ (if isOut o ws i = true then [] else [i])).map fun c => (2 : Int) ^ c, rfl, SqL.of (by rw [List.map_map]; exact h8), ?_⟩
                  rw [sum_pow, bitsN_perm (cols_perm Tb hin hm)]
                  refine ⟨_, rfl, _, rfl, d, _, rfl, DPut.k (k := Sum.inl ((i : Nat) : Int)) (s8 _ _ hd7) ?_, ?_⟩
                  · have := asc_len (mkL_asc i st ws) fun x hx => (mem_mkL.mp hx).1
                    rw [show (sqK _ _).length = _ from List.length_map _]
                    exact Nat.lt_of_lt_of_le (by omega : _ < 5000) (by decide)
                  · refine ⟨_, _, _, rfl, fun b o e => ?_, ?_⟩
                    · rw [upd_ne (ne_of_none e hd)]
                      exact (s7.trans s8) _ _ e
                    · rw [upd_same, mkL_succ, hm, if_pos rfl, show bitsN (rowL n st o R ws i) = bOf n st o R ws i from rfl, sqK_put _ fun h => Nat.lt_irrefl _ (mem_mkL.mp h).1]
        · rintro σ H4 ⟨v6, v7, v8, rfl, s4, hd4⟩
          rw [show (nats ws).length = n from (List.length_map _).trans hW.len] at hd4
          exact ⟨_, rfl, k _ _ s4 hd hd4⟩
/-! ### the first noughts -/
theorem bits_nat (o : Nat) : Builtin.Int.intBits ((o : Nat) : Int) = bl o := by
  unfold Builtin.Int.intBits bl
  cases o with
  | zero => rfl
  | succ o =>
    rw [if_neg (by simp; omega), if_neg (by omega)]
    rfl
theorem xor_nat (a b : Nat) : Builtin.bitXor ((a : Nat) : Int) ((b : Nat) : Int) = ((a ^^^ b : Nat) : Int) := by
  rw [Bits.bitXor_pp (by omega) (by omega)]
  rfl
/-- the bases' dict -/
def frK (es : List (Nat × Addr)) : List (Key × V) := es.map fun e => (Sum.inl ((e.1 : Nat) : Int), V.ref e.2)
theorem frK_none : ∀ {es : List (Nat × Addr)} {k : Nat}, k ∉ es.map (·.1) → valV (frK es) (Sum.inl ((k : Nat) : Int)) = none
  | [], k, _ => valV_nil
  | x :: es, k, h => (valV_neg (p := ((Sum.inl ((x.1 : Nat) : Int) : Key), V.ref x.2)) fun z => h (by
      have := Sum.inl.inj z
      rw [List.map_cons, show k = x.1 by omega]
      exact List.mem_cons_self)).trans (frK_none fun m => h (List.mem_cons_of_mem _ m))
theorem frK_some : ∀ {es : List (Nat × Addr)} {k : Nat}, k ∈ es.map (·.1) → ∃ e ∈ es, e.1 = k ∧ valV (frK es) (Sum.inl ((k : Nat) : Int)) = some (.ref e.2)
  | [], k, h => nomatch h
  | x :: es, k, h => by
    by_cases q : x.1 = k
    · subst q
      exact ⟨x, List.mem_cons_self, rfl, valV_pos rfl⟩
    · obtain ⟨e, he, e1, e2⟩ := frK_some (es := es) (k := k) ((List.mem_cons.mp h).resolve_left fun z => q z.symm)
      exact ⟨e, List.mem_cons_of_mem _ he, e1, (valV_neg (p := ((Sum.inl ((x.1 : Nat) : Int) : Key), V.ref x.2)) fun z => q (by
        have := Sum.inl.inj z
        omega)).trans e2⟩
theorem frK_put {es : List (Nat × Addr)} {k : Nat} {a : Addr} (h : k ∉ es.map (·.1)) : putK (frK es) (Sum.inl ((k : Nat) : Int)) (.ref a) = frK (es ++ [(k, a)]) := by
  rw [putK_new _ (frK_none h)]
  unfold frK
  rw [List.map_append]
  rfl
/-- tuples of numbers at these addresses -/
def RsA (H : Hp) (ts : List Addr) (L : List (List Nat)) : Prop := ts.length = L.length ∧ ∀ (j : Nat) (a : Addr) (l : List Nat), ts[j]? = some a → L[j]? = some l → H a = some (.tup (nats l))
theorem RsA.nil (H : Hp) : RsA H [] [] := ⟨rfl, fun j a l h => by simp at h⟩
theorem RsA.mono {H H' : Hp} {ts : List Addr} {L : List (List Nat)} (h : RsA H ts L) (k : ∀ b xs, H b = some (.tup xs) → H' b = some (.tup xs)) : RsA H' ts L := ⟨h.1, fun j a l e1 e2 => k _ _ (h.2 j a l e1 e2)⟩
theorem RsA.add {H : Hp} {ts : List Addr} {L : List (List Nat)} (h : RsA H ts L) {a : Addr} {l : List Nat} (ha : H a = some (.tup (nats l))) : RsA H (ts ++ [a]) (L ++ [l]) := by
  refine ⟨by rw [List.length_append, List.length_append, h.1]; rfl, fun j b m e1 e2 => ?_⟩
  rcases Nat.lt_or_ge j ts.length with q | q
  · rw [List.getElem?_append_left q] at e1
    rw [List.getElem?_append_left (h.1 ▸ q)] at e2
    exact h.2 j b m e1 e2
  · rw [List.getElem?_append_right q] at e1
    rw [List.getElem?_append_right (h.1 ▸ q)] at e2
    rw [← h.1] at e2
    cases hj : j - ts.length with
    | zero =>
      rw [hj] at e1 e2
      cases e1
      cases e2
      exact ha
    | succ z =>
      rw [hj] at e1
      simp at e1
structure NSt (b : Nat → Nat) (mk : List Nat) (H0 H4 : Hp) (d fr to : Addr) (dk : HO) (i : Nat) (es : List (Nat × Addr)) (ts : List Addr) : Prop where
  same : Same H0 H4
  hd : H4 d = some dk
  hfr : H4 fr = some (.dK (frK es))
  hto : H4 to = some (.lst (refs ts))
  rs : RsA H4 ts (dueX b (mk.take i)).2
  en : ∀ e ∈ es, ∃ o s : Nat, H4 e.2 = some (.tup [.int ((o : Nat) : Int), .int ((s : Nat) : Int)]) ∧ e.1 = bl o ∧ o ≠ 0 ∧ En b (dueX b (mk.take i)).1 o s
  ks : Keys b (dueX b (mk.take i)).1 (es.map (·.1))
  le : es.length ≤ i
theorem NSt.keep {b : Nat → Nat} {mk : List Nat} {H0 H4 H5 : Hp} {d fr to : Addr} {dk : HO} {i : Nat} {es : List (Nat × Addr)} {ts : List Addr} (h : NSt b mk H0 H4 d fr to dk i es ts) (s : Same H4 H5) : NSt b mk H0 H5 d fr to dk i es ts :=
  ⟨h.same.trans s, s _ _ h.hd, s _ _ h.hfr, s _ _ h.hto, h.rs.mono (sameT s), fun e he => let ⟨o, z, h1, h2⟩ := h.en e he; ⟨o, z, s _ _ h1, h2⟩, h.ks, h.le⟩
theorem NSt.len {b : Nat → Nat} {mk : List Nat} {H0 H4 : Hp} {d fr to : Addr} {dk : HO} {i : Nat} {es : List (Nat × Addr)} {ts : List Addr} (h : NSt b mk H0 H4 d fr to dk i es ts) : ts.length ≤ i := by
  rw [h.rs.1]
  refine Nat.le_trans (due_ok b _ _ rfl).len ?_
  rw [List.length_take]
  omega
abbrev sNo : Stmt := top 20
abbrev nNo : List Str := ["table", "setting", "free", "told", "crossing", "ones", "summed", "free_ones", "free_summed", "at"]
theorem scNo : FnScope nNo ["table", "setting"] (defScope sNo) := ⟨rfl, rfl, rfl, by decide +kernel, rfl, by decide +kernel, by decide +kernel⟩
abbrev sRb : Stmt := top 19
abbrev nRb : List Str := ["table", "setting"]
theorem scRb : FnScope nRb ["table", "setting"] (defScope sRb) := ⟨rfl, rfl, rfl, by decide +kernel, rfl, by decide +kernel, by decide +kernel⟩
def spNo : Sp := fun vs H Q _ => ∃ (t u : Addr) (n : Nat) (s o : List Nat) (R : Nat → List Nat) (ws : List Nat), vs = [.ref t, .ref u] ∧ TbAt H t n s o R ∧ H u = some (.tup (nats ws)) ∧ WsN n ws ∧
  ∀ (H' : Hp) (r : Addr) (ts : List Addr), Same H H' → H' r = some (.tup (refs ts)) → RsA H' ts (dueX (bOf n s o R ws) (mkL n s ws)).2 → Q (.ref r) H'
def spRb : Sp := fun vs H Q _ => ∃ (t u : Addr) (n : Nat) (s o : List Nat) (R : Nat → List Nat) (ws : List Nat), vs = [.ref t, .ref u] ∧ TbAt H t n s o R ∧ H u = some (.tup (nats ws)) ∧ WsN n ws ∧
  ∀ (H' : Hp), Same H H' → Q (.int ((dueX (bOf n s o R ws) (mkL n s ws)).2.length + 1)) H'
theorem ok_no {f fN fS fQ : Addr} {fd fdN fdS fdQ : FuncData} (F : Fun K "noughts" "noughts" sNo f fd) (T : TB mg) (Nt : Cal K mg "need_table" fN fdN ["thing"]) (GN : FnOk P w K mg base CX0 6 fN fdN ["thing"] spNt)
    (Ns : Cal K mg "need_setting_by" fS fdS ["table", "thing"]) (GS : FnOk P w K mg base CX0 4 fS fdS ["table", "thing"] spNs) (Sq : Cal K mg "square" fQ fdQ ["table", "setting"]) (GQ : FnOk P w K mg base CX0 1 fQ fdQ ["table", "setting"] spSq) :
    FnOk P w K mg base CX0 7 f fd ["table", "setting"] spNo := by
  refine F.ok scNo (fun vs H Q E h => ?_) (fun cdv A outer s H vs Q E hr h => ?_)
  · obtain ⟨t, u, n, s, o, R, ws, rfl, _⟩ := h
    rfl
  · obtain ⟨t, u, n, st, o, R, ws, rfl, hT, hu, hW, k⟩ := h
    have nd := scNo.nd
    have hu1 := hu_of hr
    have hr6 : Room 6 _ := hr
    have hr4 : Room 4 _ := hr.mono (by decide)
    have hr1 : Room 1 _ := hr.mono (by decide)
    have Tb := hT.tb
    have h40 := Tb.n2
    refine ⟨_, pss_cons (ps_expr (pe_call GN hr6 rfl Nt.g Nt.kp Nt.b .nil pass0 (pa_cons (pv 0) pa_nil)))
      (pss_cons (ps_expr (pe_call GS hr4 rfl Ns.g Ns.kp Ns.b .nil pass0 (pa_cons (pv 0) (pa_cons (pv 1) pa_nil))))
      (pss_cons (ps_set (i := 2) nd rfl (Or.inl rfl) pe_dnewK)
      (pss_cons (ps_set (i := 3) nd rfl (Or.inl rfl) (pe_lst pa_nil))
      (pss_cons (ps_for PassesOwn.never rfl (pi_items (pe_frz (pe_call GQ hr1 rfl Sq.g Sq.kp Sq.b .nil pass0 (pa_cons (pv 0) (pa_cons (pv 1) pa_nil))))) (pg_tup rfl (pgs_cons (pg_name (i := 4) nd rfl (Or.inl rfl)) (pgs_cons (pg_name (i := 5) nd rfl (Or.inl rfl)) pgs_nil)))
        (C8.pss_cut (ps_set (i := 6) nd rfl (Or.inr rfl) (pe_op op_oneShl pe_int (pv 4)))
      (C8.pss_cut (ps_while PassesOwn.never (pt_cmp (pc_din hu1 (pe_bits (pv 5)) (pv 2)))
        (pss_cons (ps_asg (pe_dget hu1 (pv 2) (pe_bits (pv 5)) (fun _ _ => rfl)) (pg_tup rfl (pgs_cons (pg_name (i := 7) nd rfl (Or.inl rfl)) (pgs_cons (pg_name (i := 8) nd rfl (Or.inl rfl)) pgs_nil))))
      (pss_cons (ps_aug (i := 5) nd rfl (Or.inl rfl) (pv 7) iop_xor)
      (pss_one (ps_aug (i := 6) nd rfl (Or.inr rfl) (pv 8) iop_xor)))))
      (pss_one (ps_if (pt_cmpR op_eq (pv 5) pe_int (nomark _)) (pss_one (ps_expr (pe_bm PySem.F.plainAttrs_list PySem.F.slot_list_append PySem.F.type_list_append mt_append (pv 3) (pa_cons (pe_tupleOf (by rfl) T.tuple (pe_lc (own := [("at", 9)]) (g := (gName 9)) (tt := (tTru K (tOp rOdd (tOp rShrN (tVar 6) (tVar 9)) (tC (.int 1))))) (te := (tVar 9)) rfl nd (pi_range1 (by rfl) T.range (pa_cons (pe_callB call_len_seq (by rfl) T.len PySem.boot_len (pa_cons (pv 1) pa_nil)) pa_nil)) (blkOk_by (N := nNo) (sc := defScope sNo) (by decide +kernel)) (fun _ _ _ _ _ => pg_name (i := 9) nd rfl (Or.inl rfl)) (fun _ _ _ _ _ => pts_one (pt_truth (pe_op op_odd (pe_op op_shrN (pv 6) (pv 9)) pe_int) (by intro _; rfl))) (fun _ _ _ _ _ => by exact (pv 9)))) pa_nil)))) (pss_one (ps_dput hu1 (pv 2) (pe_bits (pv 5)) (pe_tup (pa_cons (pv 5) (pa_cons (pv 6) pa_nil))) rfl)))))))
      (pss_one (ps_ret (pe_tupleOf (by rfl) T.tuple (pv 3)))))))), ?_⟩
    refine ⟨_, rfl, t, n, st, o, R, rfl, hT, fun H1 s1 => ⟨_, rfl, _, rfl, t, u, n, st, o, R, ws, rfl, hT.mono (sameT s1), s1 _ _ hu, hW, fun H2 s2 => ?_⟩⟩
    refine fun fr hfr => ⟨Nat.zero_le _, fun to hto => ⟨_, rfl, _, rfl, t, u, n, st, o, R, ws, rfl, ?_, ?_, hW, fun H3 d s3 hd hd3 => ⟨d, _, rfl, hd3, trivial, fun od => ⟨d, od, _, rfl, upd_same, ?_⟩⟩⟩⟩
    · exact (hT.mono (sameT (s1.trans s2))).mono (sameT ((Same.new hfr).trans (Same.new hto)))
    · exact (Same.new hto) _ _ ((Same.new hfr) _ _ ((s1.trans s2) _ _ hu))
    · have sA : Same H (upd (upd H2 fr (.dK [])) to (.lst [])) := (s1.trans s2).trans ((Same.new hfr).trans (Same.new hto))
      have ef : upd (upd H2 fr (.dK [])) to (.lst []) fr = some (.dK []) := (Same.new hto) _ _ upd_same
      have et : upd (upd H2 fr (.dK [])) to (.lst []) to = some (.lst []) := upd_same
      have hft : fr ≠ to := ne_of_none upd_same hto
      have hfd : fr ≠ d := ne_of_none ef hd
      have htd : to ≠ d := ne_of_none et hd
      have Hfr : H fr = none := (s1.trans s2).free hfr
      have Hto : H to = none := ((s1.trans s2).trans (Same.new hfr)).free hto
      have Hd : H d = none := sA.free hd
      have ln : (nats ws).length = n := (List.length_map _).trans hW.len
      refine for_it (walk_items (d := d) (o := od) (kvs := sqK (bOf n st o R ws) (mkL n st ws))) (fun i σ H4 => ∃ (es : List (Nat × Addr)) (ts : List Addr) (v4 v5 v6 v7 v8 : Option V), σ = [some (.ref t), some (.ref u), some (.ref fr), some (.ref to), v4, v5, v6, v7, v8, none] ∧ NSt (bOf n st o R ws) (mkL n st ws) H H4 d fr to (.frz od (.dK (sqK (bOf n st o R ws) (mkL n st ws)))) i es ts) ?_ ?_ ?_ ?_
      · refine ⟨[], [], _, _, _, _, _, rfl, fun b o e => ?_, upd_same, ?_, ?_, RsA.nil _, (fun e he => nomatch he), Keys.nil _, Nat.le_refl _⟩
        · rw [upd_ne (ne_of_none e Hd)]
          exact s3 _ _ (sA _ _ e)
        · rw [upd_ne hfd]
          exact s3 _ _ ef
        · rw [upd_ne htd]
          exact s3 _ _ et
      · rintro i σ H4 _ ⟨es, ts, _, _, _, _, _, _, S⟩
        exact S.hd
      · rintro i x σ H4 H5 hi ⟨es, ts, v4, v5, v6, v7, v8, rfl, S⟩ ⟨q, x', y', rfl, hq, rfl, ex, ey⟩
        obtain ⟨c, hc⟩ : ∃ c, (mkL n st ws)[i]? = some c := ⟨_, List.getElem?_eq_getElem (by rw [show (sqK _ _).length = _ from List.length_map _] at hi; exact hi)⟩
        have eq1 : (sqK (bOf n st o R ws) (mkL n st ws))[i]? = some (Sum.inl ((c : Nat) : Int), V.int ((bOf n st o R ws c : Nat) : Int)) := by
          unfold sqK
          rw [List.getElem?_map, hc]
          rfl
        have ex : ((sqK (bOf n st o R ws) (mkL n st ws))[i]?.map fun kv => kV kv.1) = some x' := ex
        have ey : (sqK (bOf n st o R ws) (mkL n st ws))[i]?.map Prod.snd = some y' := ey
        rw [eq1] at ex ey
        have ex2 : x' = V.int ((c : Nat) : Int) := (Option.some.inj ex).symm
        have ey2 : y' = V.int ((bOf n st o R ws c : Nat) : Int) := (Option.some.inj ey).symm
        subst ex2 ey2
        have hcm := mem_mkL.mp (List.mem_of_getElem? hc)
        have S5 := S.keep (Same.new (o := .tup [V.int (c : Nat), V.int (bOf n st o R ws c : Nat)]) hq)
        refine ⟨q, _, rfl, SqT.of upd_same, rfl, _, _, rfl, _, _, rfl, rfl, ?_⟩
        generalize upd H4 q _ = H5 at S5
        have D0 := due_ok (bOf n st o R ws) _ ((mkL n st ws).take i) rfl
        have hF : ∀ x ∈ (dueX (bOf n st o R ws) ((mkL n st ws).take i)).1, x < c := fun x hx => by
          obtain ⟨j, hj, e⟩ := List.mem_take_iff_getElem.mp (D0.sub.subset hx)
          obtain ⟨hi2, ec⟩ := List.getElem?_eq_some_iff.mp hc
          have := List.pairwise_iff_getElem.mp (mkL_asc n st ws) j i (by omega) hi2 (by omega)
          omega
        have hcF : c ∉ (dueX (bOf n st o R ws) ((mkL n st ws).take i)).1 := fun z => Nat.lt_irrefl _ (hF c z)
        refine ⟨fun σ H6 => σ = [some (.ref t), some (.ref u), some (.ref fr), some (.ref to), some (.int (c : Nat)), some (.int (bOf n st o R ws c : Nat)), some (.int ((2 ^ c : Nat) : Int)), v7, v8, none] ∧ H6 = H5, ?_, ?_⟩
        · refine ⟨_, rfl, c, rfl, rfl, by omega, ?_, rfl⟩
          rw [Int.natCast_pow]
          rfl
        · rintro σ H6 ⟨rfl, rfl⟩
          refine ⟨fun σ H7 => ∃ (o' z' : Nat) (v7 v8 : Option V), σ = [some (.ref t), some (.ref u), some (.ref fr), some (.ref to), some (.int (c : Nat)), some (.int (o' : Nat)), some (.int (z' : Nat)), v7, v8, none] ∧ H7 = H6 ∧ Wh (bOf n st o R ws) (dueX (bOf n st o R ws) ((mkL n st ws).take i)).1 c o' z' ∧ bl o' ∉ es.map (·.1), ?_, ?_⟩
          · refine while_by (fun σ H7 => ∃ (o' z' : Nat) (v7 v8 : Option V), σ = [some (.ref t), some (.ref u), some (.ref fr), some (.ref to), some (.int (c : Nat)), some (.int (o' : Nat)), some (.int (z' : Nat)), v7, v8, none] ∧ H7 = H6 ∧ Wh (bOf n st o R ws) (dueX (bOf n st o R ws) ((mkL n st ws).take i)).1 c o' z')
              (fun σ _ => match σ[5]? with
                | some (some (V.int z)) => bl z.toNat
                | _ => 0) ⟨_, _, _, _, rfl, rfl, Wh.start _ _ _⟩ ?_ ?_
            · rintro σ H7 ⟨o', z', v7, v8, rfl, rfl, W⟩
              refine ⟨_, rfl, _, rfl, _, rfl, fr, _, rfl, by
                rw [bits_nat]
                exact DGet.k (k := Sum.inl ((bl o' : Nat) : Int)) S5.hfr, _, rfl, ?_⟩
              by_cases hk : bl o' ∈ es.map (·.1)
              · obtain ⟨e, he, e1, e2⟩ := frK_some hk
                obtain ⟨o2, z2, g1, g2, g3, g4⟩ := S5.en e he
                rw [e2]
                refine iteT ⟨_, rfl, _, rfl, _, rfl, fr, .ref e.2, rfl, by
                  rw [bits_nat, ← e2]
                  exact DGet.k (k := Sum.inl ((bl o' : Nat) : Int)) S5.hfr, e.2, _, rfl, SqT.of g1, rfl, _, _, rfl, _, _, rfl, rfl, ?_⟩
                refine ⟨_, rfl, _, rfl, _, _, rfl, rfl, _, rfl, _, rfl, _, _, rfl, rfl, ?_⟩
                have hb : bl o' = bl o2 := by rw [← e1, g2]
                have h0 : o' ≠ 0 := fun z => g3 (bl_zero.mp (by rw [← hb, z]; rfl))
                refine ⟨⟨o' ^^^ o2, z' ^^^ z2, some (.int (o2 : Nat)), some (.int (z2 : Nat)), ?_, rfl, W.step _ g4⟩, ?_⟩
                · show [some (V.ref t), some (.ref u), some (.ref fr), some (.ref to), some (.int (c : Nat)), some (.int (Builtin.bitXor (o' : Nat) (o2 : Nat))), some (.int (Builtin.bitXor (z' : Nat) (z2 : Nat))), some (.int (o2 : Nat)), some (.int (z2 : Nat)), none] = _
                  rw [xor_nat, xor_nat]
                show bl (Builtin.bitXor (o' : Nat) (o2 : Nat)).toNat < bl (((o' : Nat) : Int)).toNat
                rw [xor_nat, Int.toNat_natCast, Int.toNat_natCast]
                exact bl_same h0 g3 hb
              · rw [frK_none hk]
                exact iteF ⟨_, _, _, _, rfl, rfl, W, hk⟩
            · rintro σ H Q Q' hq ⟨v, h1, i, h2, v2, h3, a, o, h4, h5, k, h6, h7⟩
              exact ⟨v, h1, i, h2, v2, h3, a, o, h4, h5, k, h6, hq _ _ h7⟩
          · rintro σ H7 ⟨o', z', v7, v8, rfl, rfl, W, hk⟩
            refine ⟨_, rfl, rfl, _, rfl, ?_⟩
            by_cases h0 : o' = 0
            · subst h0
              rw [show decide (V.int ((0 : Nat) : Int) = V.int 0) = true from decide_eq_true rfl]
              obtain ⟨g, hg, hset⟩ := W.yes _ hcF (n := n) ((mkL_asc n st ws).sublist (D0.sub.trans (List.take_sublist _ _))) hF hcm.1
              refine iteT ⟨_, rfl, .inl ⟨rfl, _, SqL.of S5.hto⟩, _, rfl, u, _, rfl, .inr (SqT.of (S5.same _ _ hu)), n, by rw [ln], by omega, by omega, fun D hD => ?_⟩
              rw [show ((n : Nat) : Int).toNat = n by omega]
              have sD := Same.new (o := .lst []) hD
              refine lc_it (walk_range (lo := 0) (n := n)) (fun j H8 => H8 D = some (.lst (nats ((List.range j).filter fun x => z'.testBit x))) ∧ Same H7 H8) ⟨upd_same, sD⟩ (fun j H8 _ _ => trivial) ?_ ?_
              · rintro j v H8 H9 hj ⟨h8, s8⟩ ⟨rfl, hv⟩
                have hv : v = V.int ((j : Nat) : Int) := by
                  rw [hv]
                  show V.int (0 + _) = _
                  rw [Int.zero_add]
                subst hv
                have et : ((j : Int) ≠ 0 ∨ True) := .inr trivial
                have ed : ((z' : Nat) : Int) / 2 ^ j = ((z' / 2 ^ j : Nat) : Int) := by
                  rw [Int.natCast_ediv, Int.natCast_pow]
                  rfl
                have eb : (((z' / 2 ^ j % 2 : Nat) : Int) != 0) = z'.testBit j := by
                  rw [Nat.testBit_eq_decide_div_mod_eq]
                  rcases Nat.mod_two_eq_zero_or_one (z' / 2 ^ j) with h | h <;> rw [h] <;> rfl
                refine ⟨rfl, _, rfl, _, rfl, _, j, rfl, rfl, z' / 2 ^ j, congrArg V.int ed, rfl, _, rfl, ?_⟩
                rw [eb, List.range_succ, List.filter_append]
                cases hb : z'.testBit j with
                | false =>
                  rw [List.filter_cons_of_neg (by rw [hb]; decide), List.filter_nil, List.append_nil]
                  exact iteF ⟨h8, s8⟩
                | true =>
                  rw [List.filter_cons_of_pos (by exact hb), List.filter_nil]
                  have lf := List.length_filter_le (fun x => z'.testBit x) (List.range j)
                  rw [List.length_range] at lf
                  refine iteT ⟨_, rfl, _, h8, by rw [show (nats _).length = _ from List.length_map _]; exact Nat.lt_of_lt_of_le (by omega : _ < 5000) (by decide), ?_, fun b o e => ?_⟩
                  · rw [upd_same, nats_app]
                    rfl
                  · rw [upd_ne (ne_of_none e hD)]
                    exact s8 _ _ e
              · rintro H8 ⟨h8, s8⟩
                refine .inl ⟨D, _, rfl, SqL.of h8, fun r hr => ?_⟩
                have S9 := (S5.keep s8).keep (Same.new (o := .tup (nats ((List.range n).filter fun x => z'.testBit x))) hr)
                unfold tNil
                have lt := S9.len
                have li := (List.getElem?_eq_some_iff.mp hc).1
                have lm := asc_len (mkL_asc n st ws) fun x hx => (mem_mkL.mp hx).1
                refine ⟨to, _, _, rfl, rfl, S9.hto, by rw [show (refs _).length = _ from List.length_map _]; exact Nat.lt_of_lt_of_le (by omega : _ < 5000) (by decide), ?_⟩
                have ed := dueX_take (bOf n st o R ws) hc
                have e2 := stepX_yes (bOf n st o R ws) (T := (dueX (bOf n st o R ws) ((mkL n st ws).take i)).2) D0.ind hg
                have kt : ∀ b xs, (upd H8 r (.tup (nats ((List.range n).filter fun x => z'.testBit x)))) b = some (.tup xs) → upd (upd H8 r (.tup (nats ((List.range n).filter fun x => z'.testBit x)))) to (.lst (refs ts ++ [.ref r])) b = some (.tup xs) := fun b xs e => by
                  rw [upd_ne fun z => by rw [z, S9.hto] at e; cases e]
                  exact e
                refine ⟨es, ts ++ [r], _, _, _, _, _, rfl, fun b o e => ?_, ?_, ?_, ?_, ?_, ?_, ?_, ?_⟩
                · rw [upd_ne (ne_of_none e Hto)]
                  exact S9.same _ _ e
                · rw [upd_ne (Ne.symm htd)]
                  exact S9.hd
                · rw [upd_ne hft]
                  exact S9.hfr
                · rw [upd_same, refs_app]
                  rfl
                · rw [ed, e2]
                  refine (S9.rs.mono kt).add (kt _ _ ?_)
                  rw [upd_same, hset]
                · rw [ed, e2]
                  intro e he
                  obtain ⟨o2, z2, g1, g2⟩ := S9.en e he
                  exact ⟨o2, z2, kt _ _ g1, g2⟩
                · rw [ed, e2]
                  exact S9.ks
                · exact Nat.le_succ_of_le S9.le
            · rw [show decide (V.int ((o' : Nat) : Int) = V.int 0) = false from decide_eq_false fun z => h0 (by have := V.int.inj z; omega)]
              obtain ⟨w1, w2, w3⟩ := W.no _ h0 hcF S5.ks hk
              refine iteF ⟨_, rfl, _, rfl, by show 2 ≤ sizeLine; decide, fun r hr => ?_⟩
              have S9 := S5.keep (Same.new (o := .tup [V.int (o' : Nat), V.int (z' : Nat)]) hr)
              have le := S9.le
              have li := (List.getElem?_eq_some_iff.mp hc).1
              have lm := asc_len (mkL_asc n st ws) fun x hx => (mem_mkL.mp hx).1
              refine ⟨_, rfl, _, rfl, _, rfl, fr, _, rfl, by
                rw [bits_nat]
                exact DPut.k (k := Sum.inl ((bl o' : Nat) : Int)) S9.hfr (by rw [show (frK es).length = _ from List.length_map _]; exact Nat.lt_of_lt_of_le (by omega : _ < 5000) (by decide)), ?_⟩
              have ed := dueX_take (bOf n st o R ws) hc
              have e2 := stepX_no (bOf n st o R ws) (T := (dueX (bOf n st o R ws) ((mkL n st ws).take i)).2) w1
              rw [frK_put hk]
              have kt : ∀ b xs, (upd H7 r (.tup [V.int (o' : Nat), V.int (z' : Nat)])) b = some (.tup xs) → upd (upd H7 r (.tup [V.int (o' : Nat), V.int (z' : Nat)])) fr (.dK (frK (es ++ [(bl o', r)]))) b = some (.tup xs) := fun b xs e => by
                rw [upd_ne fun z => by rw [z, S9.hfr] at e; cases e]
                exact e
              refine ⟨es ++ [(bl o', r)], ts, _, _, _, _, _, rfl, fun b o e => ?_, ?_, ?_, ?_, ?_, ?_, ?_, ?_⟩
              · rw [upd_ne (ne_of_none e Hfr)]
                exact S9.same _ _ e
              · rw [upd_ne (Ne.symm hfd)]
                exact S9.hd
              · exact upd_same
              · rw [upd_ne (Ne.symm hft)]
                exact S9.hto
              · rw [ed, e2]
                exact S9.rs.mono kt
              · rw [ed, e2]
                intro e he
                rcases List.mem_append.mp he with h | h
                · obtain ⟨o2, z2, g1, g2, g3, g4⟩ := S9.en e h
                  exact ⟨o2, z2, kt _ _ g1, g2, g3, g4.up _ hcF⟩
                · rw [List.mem_singleton.mp h]
                  exact ⟨o', z', kt _ _ upd_same, rfl, h0, w3⟩
              · rw [ed, e2, List.map_append]
                exact w2
              · rw [List.length_append]
                exact Nat.succ_le_succ S9.le
      · rintro σ H4 ⟨es, ts, v4, v5, v6, v7, v8, rfl, S⟩
        have e : (mkL n st ws).take (sqK (bOf n st o R ws) (mkL n st ws)).length = mkL n st ws := List.take_of_length_le (Nat.le_of_eq (List.length_map _).symm)
        refine ⟨_, rfl, .inl ⟨to, _, rfl, SqL.of S.hto, fun r hr => ?_⟩⟩
        have sr := Same.new (o := .tup (refs ts)) hr
        have hrs := S.rs
        rw [e] at hrs
        exact k _ r ts (S.same.trans sr) upd_same (hrs.mono (sameT sr))
theorem ok_rb {f fN : Addr} {fd fdN : FuncData} (F : Fun K "rounds_by" "rounds_by" sRb f fd) (T : TB mg) (No : Cal K mg "noughts" fN fdN ["table", "setting"]) (GN : FnOk P w K mg base CX0 7 fN fdN ["table", "setting"] spNo) :
    FnOk P w K mg base CX0 8 f fd ["table", "setting"] spRb := by
  refine F.ok scRb (fun vs H Q E h => ?_) (fun cdv A outer s H vs Q E hr h => ?_)
  · obtain ⟨t, u, n, s, o, R, ws, rfl, _⟩ := h
    rfl
  · obtain ⟨t, u, n, st, o, R, ws, rfl, hT, hu, hW, k⟩ := h
    have nd := scRb.nd
    refine ⟨_, pss_one (ps_ret (pe_op op_add (pe_callB call_len_seq (by rfl) T.len PySem.boot_len (pa_cons (pe_call GN hr rfl No.g No.kp No.b .nil pass0 (pa_cons (pv 0) (pa_cons (pv 1) pa_nil))) pa_nil)) pe_int)), ?_⟩
    refine ⟨_, rfl, _, rfl, t, u, n, st, o, R, ws, rfl, hT, hu, hW, fun H' r ts s' hr' hR => ?_⟩
    unfold tNil
    refine ⟨r, _, rfl, .inr (SqT.of hr'), _, _, rfl, rfl, ?_⟩
    have e : (((refs ts).length : Nat) : Int) = (((dueX (bOf n st o R ws) (mkL n st ws)).2.length : Nat) : Int) := by
      rw [show (refs ts).length = ts.length from List.length_map _, hR.1]
    show Q (.int (((refs ts).length : Nat) + 1)) H'
    rw [e]
    exact k _ s'
end
end One
end P_WB

section P_G1
set_option linter.all false
set_option maxRecDepth 100000
set_option maxHeartbeats 4000000
namespace One
open PySem PySem.Spec PyProof.Rows L2
/-! ### promises for runs in which nothing is being shown -/
structure FnG (P : Program) (w : World) (K : PySem.W.Frag) (mg : Str → Option Value) (base : Heap) (CX : CXT) (k : Nat) (f : Addr) (fd : FuncData) (ps : List Str) (sp : Sp) : Prop where
  len : ∀ vs H Q E, sp vs H Q E → vs.length = ps.length
  go : ∀ (A : Around) (outer : List Env) (s : Shared) (H : Hp) (args : Args) (us : List Value) (vs : List V) (Q : VK) (E : XK), A.guards = some [] → Room k A → Env0 P w K mg base A outer s H →
    BindsTo s fd args (ps.zip us) → Vals vs us → sp vs H Q E → codeAny (model P w) A (.call (.ref f) args) (CR CX outer P w H s Q E) s
theorem FnG.of {P : Program} {w : World} {K : PySem.W.Frag} {mg : Str → Option Value} {base : Heap} {CX : CXT} {k : Nat} {f : Addr} {fd : FuncData} {ps : List Str} {sp : Sp} (F : FnOk P w K mg base CX k f fd ps sp) : FnG P w K mg base CX k f fd ps sp :=
  ⟨F.len, fun A outer s H args us vs Q E _ => F.run A outer s H args us vs Q E⟩
theorem FnG.mono {P : Program} {w : World} {K : PySem.W.Frag} {mg : Str → Option Value} {base : Heap} {CX : CXT} {j k : Nat} {f : Addr} {fd : FuncData} {ps : List Str} {sp : Sp} (F : FnG P w K mg base CX j f fd ps sp) (h : j ≤ k) : FnG P w K mg base CX k f fd ps sp :=
  ⟨F.len, fun A outer s H args us vs Q E hg hr => F.go A outer s H args us vs Q E hg (hr.mono h)⟩
section
variable {P : Program} {w : World} {K : PySem.W.Frag} {mg : Str → Option Value} {base : Heap}
/-- a def by its body -/
theorem okG {CX : CXT} {x qual : Str} {st : Stmt} {f : Addr} {fd : FuncData} {N ps : List Str} {k : Nat} {sp : Sp} (F : Fun K x qual st f fd) (S : FnScope N ps (defScope st)) (len : ∀ vs H Q E, sp vs H Q E → vs.length = ps.length)
    (body : ∀ (cdv : Value) (A : Around) (outer : List Env) (s : Shared) (H : Hp) (vs : List V) (Q : VK) (E : XK), A.guards = some [] → Room k (A.deeper (envOfC qual (defScope st) s.heap.objs.size f cdv)) → sp vs H Q E →
      ∃ t, PSs (cxOf CX P w K mg base N qual (defScope st) f cdv A outer s H E) (defBody st) t ∧ t { nx := fun _ H' => Q .non H', rt := Q } (start N vs) H) : FnG P w K mg base CX (k + 1) f fd ps sp := by
  obtain ⟨oc, od, kV, doc, pm, an, cdv, ct, osl, rfl, lk, hcd⟩ := F.ex
  exact ⟨len, fun A outer s H args us vs Q E hg hr e0 hb r hs => LamX.run_ofS lk hcd S hr e0 hb r (len _ _ _ _ hs) fun hr1 => body cdv A outer s H vs Q E hg hr1 hs⟩
/-- .. that lets nothing out -/
theorem okG0 {x qual : Str} {st : Stmt} {f : Addr} {fd : FuncData} {N ps : List Str} {k : Nat} {sp : Sp} (F : Fun K x qual st f fd) (S : FnScope N ps (defScope st)) (len : ∀ vs H Q E, sp vs H Q E → vs.length = ps.length)
    (body : ∀ (cdv : Value) (A : Around) (outer : List Env) (s : Shared) (H : Hp) (vs : List V) (Q : VK) (E : XK), A.guards = some [] → Room k (A.deeper (envOfC qual (defScope st) s.heap.objs.size f cdv)) → sp vs H Q E →
      ∃ t, PSs (cxOf CX0 P w K mg base N qual (defScope st) f cdv A outer s H E).nox (defBody st) t ∧ t { nx := fun _ H' => Q .non H', rt := Q } (start N vs) H) : FnG P w K mg base CX0 (k + 1) f fd ps sp :=
  okG F S len fun cdv A outer s H vs Q E hg hr hs => let ⟨t, h, q⟩ := body cdv A outer s H vs Q E hg hr hs; ⟨t, h.nox, q⟩
end
section
variable {X : Cx} {CX : CXT} {k : Nat} {f : Addr} {fd : FuncData} {ps : List Str} {sp : Sp} {dvs : List V} {ds : List Value} {E : XK} {x : Str} {p pos : Pos} {e : Expr} {es : List Expr} {t : TA}
theorem goG {pins : List (Addr × Obj)} {σ : L2.St} {H : Hp} {s : Shared} {Q : VK} {us : List Value} {vs : List V} (F : FnG X.prog X.w X.K X.mg X.base CX k f fd ps sp) (hgd : X.A.guards = some []) (hr : Room k X.A) (hb : Binds X.K fd ps ds) (hd : Vals dvs ds)
    (hx : Passes CX X E) (I : Inv X pins σ H s) (r : Vals vs us) (h : sp (vs ++ dvs) H Q E) : wpAny (model X.prog X.w) X.A (call (.ref f) us) (EP X pins σ Q) X.xe s := by
  have r2 := r.append hd
  have hl : (us ++ ds).length = ps.length := r2.length.symm.trans (F.len _ _ _ _ h)
  refine wpAny_call (codeAny_mono (F.go X.A X.stack s H ⟨us, []⟩ _ _ Q E hgd hr I.env0 (hb s us I.kIn hl) r2 h) fun r s' hq => ?_)
  match r, hq with
  | .error e, hq => exact hx pins σ H s e s' I hq
  | .ok (.ret u), hq => exact I.after hq
  | .ok .next, hq => exact hq.elim
  | .ok .brk, hq => exact hq.elim
  | .ok .cont, hq => exact hq.elim
theorem pe_callG (F : FnG X.prog X.w X.K X.mg X.base CX k f fd ps sp) (hgd : X.A.guards = some []) (hr : Room k X.A) (hg : Gl X x) (hm : X.mg x = some (.ref f)) (hk : PySem.W.keepIn X.K (.ref f) = true) (hb : Binds X.K fd ps ds) (hd : Vals dvs ds) (hx : Passes CX X E)
    (ha : PA X (e :: es) t) (hdb : (x == ("__debug__" : Str)) = false := by decide) (he : starEach (e :: es) X.env = (false, eval e X.env) :: starEach es X.env := by rfl) (hpl : (backTo pos (starEach es X.env)).any (·.1) = false := by rfl) : PE X (.Call (.Name x p) (e :: es) [] pos) (tCall sp dvs E t) := by
  refine ⟨fun pins s σ H Q I h => wpAny_Call_Name_kw (ld_glob I hg hm ?_ hdb)⟩
  exact PySem.W.callWith_K (h₀ := X.base) I.ok.mod.kin hk (thn (ha.run pos pins s σ H _ I h) fun us s1 ⟨vs, H1, I1, r, q⟩ => ⟨I1.kIn, goG F hgd hr hb hd hx I1 r q⟩) he hpl
/-- repr(..) of a list or a tuple, at any depth -/
theorem call_repr_data (hgd : X.A.guards = some []) (hu : X.A.units + 64 < cLine) : CallR X (.builtin "repr") (fun xs H Q => ∃ (a : Addr) (d : PyData), xs = [.ref a] ∧ Dp X.K H (.ref a) d ∧ d.showable = true ∧ d.hasDict = false ∧ d.depth ≤ 16 ∧ d.shown.length ≤ sizeLine ∧ Q (.str d.shown) H) := by
  intro pins s σ H xs us Q I r h
  obtain ⟨a, d, rfl, hd, h1, h2, h3, h4, q⟩ := h
  obtain ⟨u, rfl, e⟩ := vals1 r
  cases e
  obtain ⟨as, hR⟩ := Dp.reads I d _ _ hd rfl
  exact repr_of_reads' hR h1 (fun z => Bool.noConfusion (h2.symm.trans z)) hgd (by omega) (fun _ _ e => e) (fun h' u tk hk => ⟨.str d.shown, H, I.kept hk, ⟨_, rfl⟩, q⟩) h4
end
end One
end P_G1

section P_G2
set_option linter.all false
set_option maxRecDepth 100000
set_option maxHeartbeats 4000000
namespace One
open PySem PySem.Spec PyProof.Rows L2
/-! ### a tuple of pairs, as data -/
def prD (p : Nat × Nat) : PyData := .tuple [.int (p.1 : Nat), .int (p.2 : Nat)]
def yd (ps : List (Nat × Nat)) : PyData := .tuple (ps.map prD)
theorem dp_pair {K : PySem.W.Frag} {H : Hp} {a : Addr} {p : Nat × Nat} (h : PAt H a p) : Dp K H (.ref a) (prD p) := .tup (SqT.of h) (.cons (.int _) (.cons (.int _) .nil))
theorem dp_pairs {K : PySem.W.Frag} {H : Hp} {as : List Addr} {ps : List (Nat × Nat)} (h : PL H as ps) : DpAll K H (refs as) (ps.map prD) := by
  induction h with
  | nil => exact .nil
  | cons h1 _ ih => exact .cons (dp_pair h1) ih
theorem dp_yd {K : PySem.W.Frag} {H : Hp} {t : Addr} {as : List Addr} {ps : List (Nat × Nat)} (ht : H t = some (.tup (refs as))) (h : PL H as ps) : Dp K H (.ref t) (yd ps) := .tup (SqT.of ht) (dp_pairs h)
theorem int_short : ∀ n : Nat, n < 1000 → (PyData.shown (.int (n : Nat))).length ≤ 8 := by
  have h : ∀ n : Fin 1000, (PyData.shown (.int ((n : Nat) : Int))).length ≤ 8 := by decide +kernel
  exact fun n hn => h ⟨n, hn⟩
theorem log_small {n : Nat} (h : n < 1000) : n.log2 < 1920 := by
  by_cases h0 : n = 0
  · subst h0; decide
  · exact (Nat.log2_lt h0).mpr (Nat.lt_of_lt_of_le h (Nat.le_trans (by decide : 1000 ≤ 2 ^ 10) (Nat.pow_le_pow_right (by decide) (by decide))))
theorem yd_all : ∀ ps : List (Nat × Nat), (∀ p ∈ ps, p.1 < 1000 ∧ p.2 < 1000) → PyData.showableAll (ps.map prD) = true ∧ PyData.hasDictAll (ps.map prD) = false ∧ PyData.depthAll (ps.map prD) ≤ 1 ∧ PyData.leavesShortAll 8 (ps.map prD) = true ∧ PyData.bulkAll (ps.map prD) = 3 * ps.length
  | [], _ => ⟨rfl, rfl, Nat.zero_le _, rfl, rfl⟩
  | p :: r, h => by
    obtain ⟨h1, h2, h3, h4, h5⟩ := yd_all r fun q m => h q (List.mem_cons_of_mem _ m)
    obtain ⟨q1, q2⟩ := h p (List.mem_cons_self ..)
    have a1 : PyData.showable (prD p) = true := by
      show (decide (((p.1 : Nat) : Int).natAbs.log2 < 1920) && (decide (((p.2 : Nat) : Int).natAbs.log2 < 1920) && true)) = true
      simp only [Int.natAbs_natCast, Bool.and_eq_true, decide_eq_true_eq, and_true]
      exact ⟨log_small q1, log_small q2⟩
    have a4 : PyData.leavesShort 8 (prD p) = true := by
      show (decide (_ ≤ 8) && (decide (_ ≤ 8) && true)) = true
      simp only [Bool.and_eq_true, decide_eq_true_eq, and_true]
      exact ⟨int_short _ q1, int_short _ q2⟩
    refine ⟨?_, ?_, ?_, ?_, ?_⟩
    · show (PyData.showable (prD p) && PyData.showableAll _) = true
      rw [a1, h1]; rfl
    · show (PyData.hasDict (prD p) || PyData.hasDictAll _) = false
      rw [h2]; rfl
    · show max (PyData.depth (prD p)) (PyData.depthAll _) ≤ 1
      exact Nat.max_le.mpr ⟨Nat.le_refl 1, h3⟩
    · show (PyData.leavesShort 8 (prD p) && PyData.leavesShortAll 8 _) = true
      rw [a4, h4]; rfl
    · show PyData.bulk (prD p) + 1 + PyData.bulkAll _ = _
      rw [h5]
      show 0 + 1 + (0 + 1 + 0) + 1 + 3 * r.length = 3 * (r.length + 1)
      omega
theorem yd_fine {ps : List (Nat × Nat)} (h : ∀ p ∈ ps, p.1 < 1000 ∧ p.2 < 1000) (hl : ps.length ≤ 1000) : (yd ps).showable = true ∧ (yd ps).hasDict = false ∧ (yd ps).depth ≤ 16 ∧ (yd ps).shown.length ≤ sizeLine := by
  obtain ⟨h1, h2, h3, h4, h5⟩ := yd_all ps h
  refine ⟨h1, h2, ?_, ?_⟩
  · show PyData.depthAll _ + 1 ≤ 16
    omega
  · have q := PyData.shown_le_bulk 8 (Nat.le_refl _) (yd ps) h4
    have e : (yd ps).bulk = 3 * ps.length := h5
    rw [e] at q
    have : (40000 : Nat) ≤ sizeLine := by decide
    omega
def rRepr (K : PySem.W.Frag) : List V → Hp → VK → Prop := fun xs H Q => ∃ (a : Addr) (d : PyData), xs = [.ref a] ∧ Dp K H (.ref a) d ∧ d.showable = true ∧ d.hasDict = false ∧ d.depth ≤ 16 ∧ d.shown.length ≤ sizeLine ∧ Q (.str d.shown) H
/-- repr(..) of a tuple of pairs -/
theorem repr_yd {K : PySem.W.Frag} {H : Hp} {t : Addr} {as : List Addr} {ps : List (Nat × Nat)} {Q : VK} (ht : H t = some (.tup (refs as))) (hp : PL H as ps) (h : ∀ p ∈ ps, p.1 < 1000 ∧ p.2 < 1000) (hl : ps.length ≤ 1000) (q : Q (.str (yd ps).shown) H) : rRepr K [.ref t] H Q := by
  obtain ⟨h1, h2, h3, h4⟩ := yd_fine h hl
  exact ⟨t, _, rfl, dp_yd ht hp, h1, h2, h3, h4, q⟩
theorem cr_repr {X : Cx} (hgd : X.A.guards = some []) (hu : X.A.units + 64 < cLine) : CallR X (.builtin "repr") (rRepr X.K) := call_repr_data hgd hu
end One
end P_G2

section P_WD
set_option linter.all false
set_option maxRecDepth 100000
set_option maxHeartbeats 16000000
namespace One
open PySem PySem.Spec PyProof.Rows L2
/-! ### a tuple of small numbers, as data -/
def nsD (rs : List Nat) : PyData := .tuple (rs.map fun x => PyData.int (x : Nat))
theorem dp_ns {K : PySem.W.Frag} {H : Hp} : ∀ rs : List Nat, DpAll K H (nats rs) (rs.map fun x => PyData.int (x : Nat))
  | [] => .nil
  | _ :: r => .cons (.int _) (dp_ns r)
theorem dp_nsD {K : PySem.W.Frag} {H : Hp} {u : Addr} {rs : List Nat} (h : H u = some (.tup (nats rs))) : Dp K H (.ref u) (nsD rs) := .tup (SqT.of h) (dp_ns rs)
theorem ns_all : ∀ rs : List Nat, (∀ x ∈ rs, x < 1000) → PyData.showableAll (rs.map fun x => PyData.int (x : Nat)) = true ∧ PyData.hasDictAll (rs.map fun x => PyData.int (x : Nat)) = false ∧ PyData.depthAll (rs.map fun x => PyData.int (x : Nat)) ≤ 1 ∧ PyData.leavesShortAll 8 (rs.map fun x => PyData.int (x : Nat)) = true ∧ PyData.bulkAll (rs.map fun x => PyData.int (x : Nat)) = rs.length
  | [], _ => ⟨rfl, rfl, Nat.zero_le _, rfl, rfl⟩
  | x :: r, h => by
    obtain ⟨h1, h2, h3, h4, h5⟩ := ns_all r fun q m => h q (List.mem_cons_of_mem _ m)
    have q1 := h x (List.mem_cons_self ..)
    have a1 : PyData.showable (.int (x : Nat)) = true := by
      show decide (((x : Nat) : Int).natAbs.log2 < 1920) = true
      simp only [Int.natAbs_natCast, decide_eq_true_eq]
      exact log_small q1
    have a4 : PyData.leavesShort 8 (.int (x : Nat)) = true := by
      show decide (_ ≤ 8) = true
      simp only [decide_eq_true_eq]
      exact int_short _ q1
    refine ⟨?_, ?_, ?_, ?_, ?_⟩
    · show (PyData.showable (.int (x : Nat)) && PyData.showableAll _) = true
      rw [a1, h1]; rfl
    · show (false || PyData.hasDictAll _) = false
      rw [h2]; rfl
    · show max 0 (PyData.depthAll _) ≤ 1
      exact Nat.max_le.mpr ⟨Nat.zero_le 1, h3⟩
    · show (PyData.leavesShort 8 (.int (x : Nat)) && PyData.leavesShortAll 8 _) = true
      rw [a4, h4]; rfl
    · show 0 + 1 + PyData.bulkAll _ = _
      rw [h5]
      show 0 + 1 + r.length = r.length + 1
      omega
theorem ns_fine {rs : List Nat} (h : ∀ x ∈ rs, x < 1000) (hl : rs.length ≤ 1000) : (nsD rs).showable = true ∧ (nsD rs).hasDict = false ∧ (nsD rs).depth ≤ 16 ∧ (nsD rs).shown.length ≤ sizeLine := by
  obtain ⟨h1, h2, h3, h4, h5⟩ := ns_all rs h
  refine ⟨h1, h2, ?_, ?_⟩
  · show PyData.depthAll _ + 1 ≤ 16
    omega
  · have q := PyData.shown_le_bulk 8 (Nat.le_refl _) (nsD rs) h4
    have e : (nsD rs).bulk = rs.length := h5
    rw [e] at q
    have : (40000 : Nat) ≤ sizeLine := by decide
    omega
theorem repr_ns {K : PySem.W.Frag} {H : Hp} {u : Addr} {rs : List Nat} {Q : VK} (hu : H u = some (.tup (nats rs))) (h : ∀ x ∈ rs, x < 1000) (hl : rs.length ≤ 1000) (q : Q (.str (nsD rs).shown) H) : rRepr K [.ref u] H Q := by
  obtain ⟨h1, h2, h3, h4⟩ := ns_fine h hl
  exact ⟨u, _, rfl, dp_nsD hu, h1, h2, h3, h4, q⟩
theorem ns_lay : ∀ rs : List Nat, PyData.canLayAll0 (rs.map fun x => PyData.int (x : Nat)) = true
  | [] => by simp [PyData.canLayAll0]
  | x :: r => by
    show (PyData.canLay0 (.int (x : Nat)) && PyData.canLayAll0 (r.map fun x => PyData.int (x : Nat))) = true
    rw [ns_lay r]
    rfl
theorem ns_depth : ∀ rs : List Nat, PyData.depthAll (rs.map fun x => PyData.int (x : Nat)) = 0
  | [] => rfl
  | x :: r => by
    show max (PyData.depth (.int (x : Nat))) (PyData.depthAll (r.map fun x => PyData.int (x : Nat))) = 0
    rw [ns_depth r]
    rfl
theorem nsD_depth (rs : List Nat) : (nsD rs).depth = 1 := by
  show PyData.depthAll _ + 1 = 1
  rw [ns_depth]
theorem nsD_lay (rs : List Nat) : (nsD rs).canLay0 = true := ns_lay rs
theorem nsD_shaped (rs : List Nat) : SeqAt.shaped (nsD rs) = true := by
  show ((nsD rs).canLay0 && decide ((nsD rs).depth ≤ 64)) = true
  rw [nsD_lay, nsD_depth]
  rfl
theorem ns_eqv : ∀ xs ys : List Nat, PyData.eqvAll (xs.map fun x => PyData.int (x : Nat)) (ys.map fun x => PyData.int (x : Nat)) = decide (xs = ys)
  | [], [] => by simp [PyData.eqvAll]
  | [], y :: ys => by simp [PyData.eqvAll]
  | x :: xs, [] => by simp [PyData.eqvAll]
  | x :: xs, y :: ys => by
    show PyData.eqvAll (.int (x : Nat) :: xs.map fun x => PyData.int (x : Nat)) (.int (y : Nat) :: ys.map fun x => PyData.int (x : Nat)) = _
    rw [PyData.eqvAll, ns_eqv xs ys, PyData.eqv]
    by_cases h : x = y
    · subst h
      by_cases k : xs = ys <;> simp [k]
    · have : ¬ ((x : Nat) : Int) = ((y : Nat) : Int) := by omega
      simp [h, this]
/-! ### a list against an empty one -/
section
variable {X : Cx}
def rNil (K : PySem.W.Frag) (f : Bool → Bool) : R2 := fun x y H Q => ∃ l m xs, x = .ref l ∧ y = .ref m ∧ SqL K H l xs ∧ H m = some (.lst []) ∧ Q (.bl (f (decide (xs.length = 0)))) H
theorem op_eqNil (hu : X.A.units + 64 < cLine) : OpR X (compareOp .Eq) (rNil X.K id) := by
  intro pins s σ H x y v u Q I rx ry h
  obtain ⟨l, m, xs, rfl, rfl, hl, hm, q⟩ := h
  cases rx
  cases ry
  obtain ⟨its, r, ⟨o, n, ho, hc, ex, hd⟩, _⟩ := I.list hl
  obtain ⟨z2, its2, n2, r2, hl2, e2⟩ := I.lstM hm
  have e0 : its2 = [] := by
    cases r2
    rfl
  subst e0
  have i1 : s.heap.IsList l its.toArray := ⟨_, ho, hc, n, hd⟩
  have i2 : s.heap.IsList m #[] := ⟨_, e2, rfl, _, rfl⟩
  have hlen := r.length
  by_cases h0 : xs.length = 0
  · rw [decide_eq_true h0] at q
    exact SeqAt.RcAt.lists (e := fun _ => true) i1 i2 (by rw [List.size_toArray]; show its.length = 0; omega) (by omega) (fun j _ h2 => absurd h2 (by simp)) X.prog X.w X.xe _ ⟨.bl _, H, I, rfl, by
      have e : (List.range its.toArray.size).all (fun _ => true) = true := List.all_eq_true.mpr fun _ _ => rfl
      rw [e]
      exact q⟩
  · rw [decide_eq_false h0] at q
    exact SeqAt.RcAt.lists_lengths i1 i2 (by
      rw [List.size_toArray]
      show (its.length != 0) = true
      simp
      intro e
      rw [e] at hlen
      exact h0 hlen) (by omega) X.prog X.w X.xe _ ⟨.bl _, H, I, rfl, q⟩
end
/-! ### tuples of such, as data -/
def rsL (L : List (List Nat)) : PyData := .tuple (L.map nsD)
theorem dp_rsL {K : PySem.W.Frag} {H : Hp} : ∀ {ts : List Addr} {L : List (List Nat)}, RsA H ts L → DpAll K H (refs ts) (L.map nsD)
  | [], [], _ => .nil
  | [], _ :: _, h => by cases h.1
  | _ :: _, [], h => by cases h.1
  | t :: ts, l :: L, h => .cons (dp_nsD (h.2 0 t l rfl rfl)) (dp_rsL ⟨Nat.succ.inj h.1, fun j a m e1 e2 => h.2 (j + 1) a m e1 e2⟩)
theorem rsL_all : ∀ L : List (List Nat), (∀ l ∈ L, l.length ≤ 50 ∧ ∀ x ∈ l, x < 1000) → PyData.showableAll (L.map nsD) = true ∧ PyData.hasDictAll (L.map nsD) = false ∧ PyData.depthAll (L.map nsD) ≤ 2 ∧ PyData.leavesShortAll 8 (L.map nsD) = true ∧ PyData.bulkAll (L.map nsD) ≤ 51 * L.length
  | [], _ => ⟨rfl, rfl, Nat.zero_le _, rfl, Nat.zero_le _⟩
  | l :: r, h => by
    obtain ⟨h1, h2, h3, h4, h5⟩ := rsL_all r fun q m => h q (List.mem_cons_of_mem _ m)
    obtain ⟨b1, b2⟩ := h l (List.mem_cons_self ..)
    obtain ⟨g1, g2, g3, g4, g5⟩ := ns_all l b2
    refine ⟨?_, ?_, ?_, ?_, ?_⟩
    · show (PyData.showableAll _ && PyData.showableAll _) = true
      rw [g1, h1]; rfl
    · show (PyData.hasDictAll _ || PyData.hasDictAll _) = false
      rw [g2, h2]; rfl
    · show max (PyData.depthAll _ + 1) (PyData.depthAll _) ≤ 2
      exact Nat.max_le.mpr ⟨by omega, h3⟩
    · show (PyData.leavesShortAll 8 _ && PyData.leavesShortAll 8 _) = true
      rw [g4, h4]; rfl
    · show PyData.bulkAll _ + 1 + PyData.bulkAll _ ≤ 51 * (r.length + 1)
      rw [g5]
      omega
theorem repr_rsL {K : PySem.W.Frag} {H : Hp} {r : Addr} {ts : List Addr} {L : List (List Nat)} {Q : VK} (hr : H r = some (.tup (refs ts))) (hR : RsA H ts L) (h : ∀ l ∈ L, l.length ≤ 50 ∧ ∀ x ∈ l, x < 1000) (hl : L.length ≤ 100) (q : Q (.str (rsL L).shown) H) : rRepr K [.ref r] H Q := by
  obtain ⟨h1, h2, h3, h4, h5⟩ := rsL_all L h
  refine ⟨r, rsL L, rfl, .tup (SqT.of hr) (dp_rsL hR), h1, h2, ?_, ?_, q⟩
  · show PyData.depthAll _ + 1 ≤ 16
    omega
  · have q := PyData.shown_le_bulk 8 (Nat.le_refl _) (rsL L) h4
    have e : (rsL L).bulk ≤ 51 * L.length := h5
    have : (300000 : Nat) ≤ sizeLine := by decide
    omega
/-! ### a list of numbers against another -/
theorem ns_shaped (xs : List Nat) : SeqAt.shaped (.list (xs.map fun x => PyData.int (x : Nat))) = true := by
  show (PyData.canLayAll0 _ && decide (PyData.depthAll _ + 1 ≤ 64)) = true
  rw [ns_lay, ns_depth]
  rfl
theorem nsl_eqv (xs ys : List Nat) : PyData.eqv (.list (xs.map fun x => PyData.int (x : Nat))) (.list (ys.map fun x => PyData.int (x : Nat))) = decide (xs = ys) := by
  rw [PyData.eqv]
  exact ns_eqv xs ys
end One
end P_WD

section P_N1
set_option linter.all false
set_option maxRecDepth 100000
set_option maxHeartbeats 8000000
/-! The draws of the later laws: a dict of the script, a place, what is left. -/
namespace One
open PySem PySem.Spec PyProof.Rows L2
abbrev kS : Key := Sum.inr ("script" : Str)
abbrev kA : Key := Sum.inr ("at" : Str)
abbrev kL : Key := Sum.inr ("left" : Str)
def mk3 (a : Addr) (k l : Int) : List (Key × V) := [(kS, .ref a), (kA, .int k), (kL, .int l)]
theorem nSA : ¬ (kS = kA) := by decide +kernel
theorem nSL : ¬ (kS = kL) := by decide +kernel
theorem nAL : ¬ (kA = kL) := by decide +kernel
section
variable (a : Addr) (k l : Int)
theorem mk3_S : valV (mk3 a k l) kS = some (.ref a) := valV_pos rfl
theorem mk3_A : valV (mk3 a k l) kA = some (.int k) := (valV_neg nSA).trans (valV_pos rfl)
theorem mk3_L : valV (mk3 a k l) kL = some (.int l) := (valV_neg nSL).trans ((valV_neg nAL).trans (valV_pos rfl))
theorem put_atK (p : List (Key × V)) (k : Key) (v : V) (h : (p.any fun kv => decide (kv.1 = k)) = true) : putK p k v = p.map (fun kv => if kv.1 = k then (kv.1, v) else kv) := by
  unfold putK
  rw [if_pos h]
theorem mk3_putA (b : Int) : putK (mk3 a k l) kA (.int b) = mk3 a b l := by
  rw [put_atK _ _ _ (by rw [valV_any, mk3_A]; rfl)]
  simp only [mk3, List.map_cons, List.map_nil, if_neg nSA, if_neg (Ne.symm nAL), if_true]
theorem mk3_putL (b : Int) : putK (mk3 a k l) kL (.int b) = mk3 a k b := by
  rw [put_atK _ _ _ (by rw [valV_any, mk3_L]; rfl)]
  simp only [mk3, List.map_cons, List.map_nil, if_neg nSL, if_neg nAL, if_true]
theorem mk3_make : mergeK [] [(kS, V.ref a), (kA, .int k), (kL, .int l)] = mk3 a k l := by
  have e1 : putK ([] : List (Key × V)) kS (.ref a) = [(kS, .ref a)] := putK_new _ valV_nil
  have e2 : putK [(kS, V.ref a)] kA (.int k) = [(kS, .ref a), (kA, .int k)] := putK_new _ (by rw [valV_neg nSA]; rfl)
  have e3 : putK [(kS, V.ref a), (kA, V.int k)] kL (.int l) = [(kS, .ref a), (kA, .int k), (kL, .int l)] := putK_new _ (by rw [valV_neg nSL, valV_neg nAL]; rfl)
  simp only [mergeK, List.foldl_cons, List.foldl_nil]
  rw [e1, e2, e3]
  rfl
end
/-- the draws' dict at p, of the script at a, with at most n draws so far -/
structure MT (K : PySem.W.Frag) (H : Hp) (p a : Addr) (n : Nat) : Prop where
  ex : ∃ (ns : List Int) (k l : Int), H p = some (.dK (mk3 a k l)) ∧ SqL K H a (ns.map V.int) ∧ ns.length ≤ 63 ∧ 0 ≤ k ∧ k ≤ (n : Int) ∧ 0 ≤ l
  nn : n ≤ 1000000
theorem MT.dict {K : PySem.W.Frag} {H : Hp} {p a : Addr} {n : Nat} (M : MT K H p a n) : DictAt H p := by
  obtain ⟨ns, k, l, h, _⟩ := M.ex
  exact ⟨_, h⟩
theorem MT.lt {K : PySem.W.Frag} {H : Hp} {p a : Addr} {n k : Nat} (M : MT K H p a n) (h : n ≤ k) (hk : k ≤ 1000000) : MT K H p a k := by
  obtain ⟨ns, q, l, h1, h2, h3, h4, h5, h6⟩ := M.ex
  exact ⟨⟨ns, q, l, h1, h2, h3, h4, by omega, h6⟩, hk⟩
theorem MT.keep {K : PySem.W.Frag} {H H' : Hp} {p a : Addr} {n : Nat} (M : MT K H p a n) (e : Same H H') : MT K H' p a n := by
  obtain ⟨ns, q, l, h1, h2, r⟩ := M.ex
  exact ⟨⟨ns, q, l, e _ _ h1, e.seq h2, r⟩, M.nn⟩
/-- nothing but p is written -/
theorem seq_but {K : PySem.W.Frag} {H H' : Hp} {p a : Addr} {xs : List V} {kvs : List (Key × V)} (hp : H p = some (.dK kvs)) (e : But p H H') (h : SqL K H a xs) : SqL K H' a xs := by
  rcases h with (h | ⟨ob, h⟩) | h
  · exact .inl (.inl ((e a (ne_of h hp (by intro z; cases z))).trans h))
  · exact .inl (.inr ⟨ob, (e a (ne_of h hp (by intro z; cases z))).trans h⟩)
  · exact .inr h
theorem seq_ext {K : PySem.W.Frag} {H H' : Hp} {p a : Addr} {xs : List V} {kvs : List (Key × V)} (hp : H p = some (.dK kvs)) (e : Ext p H H') (h : SqL K H a xs) : SqL K H' a xs := by
  rcases h with (h | ⟨ob, h⟩) | h
  · exact .inl (.inl (e a _ (ne_of h hp (by intro z; cases z)) h))
  · exact .inl (.inr ⟨ob, e a _ (ne_of h hp (by intro z; cases z)) h⟩)
  · exact .inr h
/-- a list made since is written -/
theorem MT.wrN {K : PySem.W.Frag} {H0 H : Hp} {p a q : Addr} {n0 n : Nat} {xs : List V} {o : HO} (M0 : MT K H0 p a n0) (h0 : H0 q = none) (e : Ext p H0 H) (M : MT K H p a n) (hq : H q = some (.lst xs)) : MT K (upd H q o) p a n := by
  have hp := M.dict.neL hq
  obtain ⟨ns, k, l, h1, _, _, r⟩ := M.ex
  obtain ⟨ns0, k0, l0, g1, g2, g3, _⟩ := M0.ex
  refine ⟨⟨ns0, k, l, by rw [upd_ne (Ne.symm hp)]; exact h1, ?_, g3, r⟩, M.nn⟩
  rcases g2 with (h | ⟨ob, h⟩) | h
  · exact .inl (.inl (by rw [upd_ne (ne_of_none h h0)]; exact e a _ (ne_of h g1 (by intro z; cases z)) h))
  · exact .inl (.inr ⟨ob, by rw [upd_ne (ne_of_none h h0)]; exact e a _ (ne_of h g1 (by intro z; cases z)) h⟩)
  · exact .inr h
theorem Ext.upd {p : Addr} {H H' : Hp} {o : HO} (h : Ext p H H') : Ext p H (upd H' p o) := fun b u hb e => (upd_ne hb).trans (h b u hb e)
theorem dp_ints {K : PySem.W.Frag} {H : Hp} : ∀ ns : List Int, DpAll K H (ns.map V.int) (ns.map PyData.int)
  | [] => .nil
  | x :: r => .cons (.int x) (dp_ints r)
theorem ints_depth : ∀ ns : List Int, PyData.depthAll (ns.map PyData.int) = 0
  | [] => rfl
  | x :: r => by
    show max 0 (PyData.depthAll (r.map PyData.int)) = 0
    rw [ints_depth r]
    rfl
theorem ints_lay : ∀ ns : List Int, PyData.canLayAll0 (ns.map PyData.int) = true
  | [] => rfl
  | x :: r => by
    show (PyData.canLay0 (.int x) && PyData.canLayAll0 (r.map PyData.int)) = true
    rw [ints_lay r]
    rfl
theorem ints_shaped (ns : List Int) : SeqAt.shaped (.list (ns.map PyData.int)) = true := by
  unfold SeqAt.shaped
  have h1 : PyData.canLay0 (.list (ns.map PyData.int)) = true := ints_lay ns
  have h2 : PyData.depth (.list (ns.map PyData.int)) ≤ 64 := by
    show PyData.depthAll (ns.map PyData.int) + 1 ≤ 64
    rw [ints_depth]
    decide
  rw [h1, decide_eq_true h2]
  rfl
abbrev sBegun : Stmt := top 23
abbrev sNext : Stmt := top 24
abbrev sOf : Stmt := top 25
theorem scBegun : FnScope ["script"] ["script"] (defScope sBegun) := ⟨rfl, rfl, rfl, by decide +kernel, rfl, by decide +kernel, by decide +kernel⟩
theorem scNext : FnScope ["m", "total", "found", "k", "cell", "number"] ["m", "total"] (defScope sNext) := ⟨rfl, rfl, rfl, by decide +kernel, rfl, by decide +kernel, by decide +kernel⟩
def spBegun (K : PySem.W.Frag) : Sp := fun vs H Q _ => ∃ (a : Addr) (ns : List Int), vs = [.ref a] ∧ SqL K H a (ns.map V.int) ∧ ns.length ≤ 63 ∧
  ∀ (H' : Hp) (p : Addr), Same H H' → H p = none → MT K H' p a 0 → Q (.ref p) H'
def spNext (K : PySem.W.Frag) : Sp := fun vs H Q _ => ∃ (p a : Addr) (n : Nat) (many : Int), vs = [.ref p, .int many] ∧ MT K H p a n ∧ n < 1000000 ∧ 0 < many ∧ many < 1073741824 ∧
  ∀ (H' : Hp) (f : Int), MT K H' p a (n + 1) → Ext p H H' → 0 ≤ f → f < many → Q (.int f) H'
theorem gS3 {H : Hp} {p a : Addr} {k l : Int} (h : H p = some (.dK (mk3 a k l))) : DGet H p (.str ("script" : Str)) (some (.ref a)) := by
  have q := DGet.k (k := kS) h
  rw [mk3_S] at q
  exact q
theorem gA3 {H : Hp} {p a : Addr} {k l : Int} (h : H p = some (.dK (mk3 a k l))) : DGet H p (.str ("at" : Str)) (some (.int k)) := by
  have q := DGet.k (k := kA) h
  rw [mk3_A] at q
  exact q
theorem gL3 {H : Hp} {p a : Addr} {k l : Int} (h : H p = some (.dK (mk3 a k l))) : DGet H p (.str ("left" : Str)) (some (.int l)) := by
  have q := DGet.k (k := kL) h
  rw [mk3_L] at q
  exact q
theorem len3 (a : Addr) (k l : Int) : (mk3 a k l).length < sizeLine := by
  show 3 < sizeLine
  decide
theorem pA3 {H : Hp} {p a : Addr} {k l b : Int} (h : H p = some (.dK (mk3 a k l))) : DPut H p (.str ("at" : Str)) (.int b) (upd H p (.dK (mk3 a b l))) := by
  have q := DPut.k (k := kA) (v := .int b) h (len3 _ _ _)
  rw [mk3_putA] at q
  exact q
theorem pL3 {H : Hp} {p a : Addr} {k l b : Int} (h : H p = some (.dK (mk3 a k l))) : DPut H p (.str ("left" : Str)) (.int b) (upd H p (.dK (mk3 a k b))) := by
  have q := DPut.k (k := kL) (v := .int b) h (len3 _ _ _)
  rw [mk3_putL] at q
  exact q
section
variable {P : Program} {w : World} {K : PySem.W.Frag} {mg : Str → Option Value} {base : Heap}
theorem ok_begun {f : Addr} {fd : FuncData} (F : Fun K "_law_begun" "_law_begun" sBegun f fd) : FnOk P w K mg base CX0 1 f fd ["script"] (spBegun K) := by
  refine F.ok scBegun (fun vs H Q E h => ?_) (fun cdv A outer s H vs Q E hr h => ?_)
  · obtain ⟨a, ns, rfl, _⟩ := h
    rfl
  · obtain ⟨a, ns, rfl, hS, hl, k⟩ := h
    refine ⟨_, pss_one (ps_ret (pe_disp (pps_cons pe_str (pv 0) (pps_cons pe_str pe_int (pps_cons pe_str pe_int pps_nil))) (by rfl) (by rfl) (fun z => by cases z) (by decide))), ?_⟩
    intro p hp
    have s0 : Same H (upd H p (.dK [])) := Same.new hp
    refine ⟨_, rfl, upd_same, [(kS, .ref a), (kA, .int 0), (kL, .int 0)], rfl, by show 3 ≤ 15; decide, ?_⟩
    have s1 : Same H (upd (upd H p (.dK [])) p (.dK (mergeK [] [(kS, V.ref a), (kA, .int 0), (kL, .int 0)]))) := fun b o e => by
      rw [upd_ne (ne_of_none e hp)]
      exact s0 _ _ e
    exact k _ p s1 hp ⟨⟨ns, 0, 0, by rw [upd_same, mk3_make], s1.seq hS, hl, Int.le_refl _, Int.le_refl _, Int.le_refl _⟩, by decide⟩
end
end One
end P_N1

section P_N2
set_option linter.all false
set_option maxRecDepth 100000
set_option maxHeartbeats 8000000
namespace One
open PySem PySem.Spec PyProof.Rows L2
theorem num_bound {z k : Int} (h0 : 0 ≤ k) (h1 : k ≤ 1000000) : -(2 ^ 64) < 7919 * k ∧ 7919 * k < 2 ^ 64 := ⟨by omega, by omega⟩
section
variable {P : Program} {w : World} {K : PySem.W.Frag} {mg : Str → Option Value} {base : Heap}
theorem ok_next {f : Addr} {fd : FuncData} (F : Fun K "_law_next" "_law_next" sNext f fd) (T : TB mg) : FnOk P w K mg base CX0 1 f fd ["m", "total"] (spNext K) := by
  refine F.ok scNext (fun vs H Q E h => ?_) (fun cdv A outer s H vs Q E hr h => ?_)
  · obtain ⟨p, a, n, many, rfl, _⟩ := h
    rfl
  · obtain ⟨p, a, n, many, rfl, M, hn, h0, h1, kk⟩ := h
    obtain ⟨ns, k, l, hm, hS, h63, hk0, hkn, hl⟩ := M.ex
    have nd := scNext.nd
    have hu := hu_of hr
    have hu2 : (A.deeper (envOfC "_law_next" (defScope sNext) s.heap.objs.size f cdv)).units + 64 < cLine := hr.units
    refine ⟨_, pss_cons (ps_if (pt_cmpR op_gt (pe_dget hu (pv 0) pe_str (fun _ _ => rfl)) pe_int (nomark _))
        (pss_cons (ps_set (i := 2) nd rfl (Or.inl rfl) (pe_op op_mod (pe_dget hu (pv 0) pe_str (fun _ _ => rfl)) (pv 1)))
        (pss_cons (ps_dput hu (pv 0) pe_str (pe_op op_fdiv (pe_dget hu (pv 0) pe_str (fun _ _ => rfl)) (pv 1)) rfl)
        (pss_one (ps_ret (pv 2))))) pss_nil)
      (pss_cons (ps_set (i := 3) nd rfl (Or.inl rfl) (pe_dget hu (pv 0) pe_str (fun _ _ => rfl)))
      (pss_cons (ps_dput hu (pv 0) pe_str (pe_op op_add (pv 3) pe_int) rfl)
      (pss_cons (ps_set (i := 4) nd rfl (Or.inl rfl) (pe_mid (pe_ifExp (pt_cmpR (op_neD (by exact hu2)) (pe_dget hu (pv 0) pe_str (fun _ _ => rfl)) (pe_lst pa_nil) (nomark _)) (pe_ix ix_list (pe_dget hu (pv 0) pe_str (fun _ _ => rfl)) (pe_op op_mod (pv 3) (pe_callB call_len_seq (by rfl) T.len PySem.boot_len (pa_cons (pe_dget hu (pv 0) pe_str (fun _ _ => rfl)) pa_nil))) (fun _ _ => rfl)) pe_int)))
      (pss_cons (ps_if (pt_mid (PW.pt (pw_and (pt_cmpR op_ge (pv 4) (pe_op op_pow pe_int pe_int) (nomark _)) (pw_and1 (pt_cmpR op_lt (pv 3) (pe_callB call_len_seq (by rfl) T.len PySem.boot_len (pa_cons (pe_dget hu (pv 0) pe_str (fun _ _ => rfl)) pa_nil)) (nomark _))))))
        (pss_cons (ps_dput hu (pv 0) pe_str (pe_op op_fdiv (pv 4) (pv 1)) rfl) (pss_one (ps_ret (pe_op op_mod (pv 4) (pv 1))))) pss_nil)
      (pss_cons (ps_set (i := 5) nd rfl (Or.inl rfl) (pe_op op_add (pe_op op_mul (pe_op op_mod (pv 4) pe_int) pe_int) (pe_op op_mod (pe_op op_fdiv (pv 4) pe_int) pe_int)))
      (pss_cons (ps_set (i := 5) nd rfl (Or.inl rfl) (pe_mid (pe_op op_mod (pe_op op_add (pe_op op_add (pe_op op_add (pv 5) (pe_op op_mul (pe_op op_mul pe_int (pv 3)) (pv 3))) (pe_op op_mul pe_int (pv 3))) pe_int) pe_int)))
      (pss_one (ps_ret (pe_op op_mod (pe_op op_fdiv (pe_op op_mod (pe_op op_mul (pe_op op_mod (pe_op op_mul (pv 5) (pv 5)) pe_int) pe_int) pe_int) pe_int) (pv 1)))))))))), ?_⟩
    have hk1 : k ≤ 1000000 := by omega
    have but1 : ∀ {b : Int}, Ext p H (upd H p (.dK (mk3 a k b))) := fun {b} => (Ext.refl p H).upd
    have fin : ∀ {H' : Hp} {k' l' : Int}, H' p = some (.dK (mk3 a k' l')) → Ext p H H' → 0 ≤ k' → k' ≤ (n : Int) + 1 → 0 ≤ l' → MT K H' p a (n + 1) := fun {H' k' l'} h b a1 a2 a3 => ⟨⟨ns, k', l', h, seq_ext hm b hS, h63, a1, by omega, a3⟩, by omega⟩
    refine ⟨_, rfl, p, _, rfl, gL3 hm, _, _, rfl, rfl, _, rfl, ?_⟩
    refine ite2 (fun hgt => ?_) (fun _ => ?_)
    · have hl0 : 0 < l := of_decide_eq_true hgt
      refine ⟨_, rfl, p, _, rfl, gL3 hm, _, rfl, _, _, rfl, rfl, h0, ?_⟩
      refine ⟨_, rfl, p, _, rfl, gL3 hm, _, rfl, _, _, rfl, rfl, ⟨h0, h1⟩, _, rfl, p, _, rfl, pL3 hm, ?_⟩
      exact ⟨_, rfl, kk _ _ (fin upd_same but1 hk0 (by omega) (Int.ediv_nonneg hl (Int.le_of_lt h0))) but1 (Int.emod_nonneg _ (by omega)) (Int.emod_lt_of_pos _ h0)⟩
    · refine ⟨_, rfl, p, _, rfl, gA3 hm, ?_⟩
      refine ⟨_, rfl, _, _, rfl, rfl, _, rfl, p, _, rfl, pA3 hm, ?_⟩
      have hm1 : (upd H p (.dK (mk3 a (k + 1) l))) p = some (.dK (mk3 a (k + 1) l)) := upd_same
      have b1 : Ext p H (upd H p (.dK (mk3 a (k + 1) l))) := (Ext.refl p H).upd
      have hS1 := seq_ext hm b1 hS
      have nl : (ns.map V.int).length = ns.length := List.length_map _
      generalize upd H p (.dK (mk3 a (k + 1) l)) = H1 at hm1 b1 hS1
      refine ⟨fun v H2 => (∃ z : Int, v = .int z) ∧ H2 p = some (.dK (mk3 a (k + 1) l)) ∧ Ext p H H2 ∧ SqL K H2 a (ns.map V.int), ?_, ?_⟩
      · refine ⟨_, rfl, p, _, rfl, gS3 hm1, Nat.zero_le _, fun l0 hl0 => ?_⟩
        have s0 := Same.new (o := .lst []) hl0
        have hm2 := s0 _ _ hm1
        have b2 := b1.trans (Ext.same s0)
        have hS2 := s0.seq hS1
        refine ⟨.list (ns.map PyData.int), .list [], .lst hS2 (dp_ints ns), .lst (SqL.of upd_same) .nil, ints_shaped ns, rfl, _, rfl, ?_⟩
        cases ns with
        | nil => exact iteF ⟨⟨_, rfl⟩, hm2, b2, hS2⟩
        | cons x r =>
          have hpos : (0 : Int) < (((x :: r).map V.int).length : Nat) := by
            rw [nl]
            show (0 : Int) < ((r.length + 1 : Nat) : Int)
            omega
          have hmod0 : 0 ≤ k % (((x :: r).length : Nat) : Int) := Int.emod_nonneg _ (by rw [← nl]; omega)
          have hmod1 : k % (((x :: r).length : Nat) : Int) < (((x :: r).length : Nat) : Int) := Int.emod_lt_of_pos _ (by rw [← nl]; exact hpos)
          obtain ⟨z, hz⟩ := get_cell (cells := x :: r) hmod0 hmod1
          refine iteT ⟨_, rfl, p, _, rfl, gS3 hm2, _, rfl, _, rfl, p, _, rfl, gS3 hm2, a, _, rfl, .inl hS2, _, _, rfl, rfl, hpos, a, _, _, _, rfl, rfl, hS2, (by rw [nl]; exact hz), ⟨_, rfl⟩, hm2, b2, hS2⟩
      · rintro v H2 ⟨⟨z, rfl⟩, hm2, b2, hS2⟩
        refine ⟨fun b H3 => H3 = H2 ∧ (b = true → 10 ^ 18 ≤ z), ?_, ?_⟩
        · refine ⟨_, rfl, _, _, rfl, rfl, ⟨by decide, by decide, by decide⟩, _, _, rfl, rfl, _, rfl, ?_⟩
          refine ite2 (fun hc18 => ?_) (fun _ => ⟨rfl, fun z => nomatch z⟩)
          exact ⟨_, rfl, _, rfl, p, _, rfl, gS3 hm2, a, _, rfl, .inl hS2, _, _, rfl, rfl, _, rfl, rfl, fun _ => of_decide_eq_true hc18⟩
        · rintro b H3 ⟨rfl, hb⟩
          refine ite2 (fun e => ?_) (fun _ => ?_)
          · have hz18 : 0 ≤ z := Int.le_trans (by decide) (hb e)
            refine ⟨_, rfl, _, rfl, _, _, rfl, rfl, ⟨h0, h1⟩, _, rfl, p, _, rfl, pL3 hm2, ?_⟩
            refine ⟨_, rfl, _, rfl, _, _, rfl, rfl, h0, ?_⟩
            have b3 := b2.upd (o := .dK (mk3 a (k + 1) (z / many)))
            exact kk _ _ (fin upd_same b3 (by omega) (by omega) (Int.ediv_nonneg hz18 (Int.le_of_lt h0))) b3 (Int.emod_nonneg _ (by omega)) (Int.emod_lt_of_pos _ h0)
          · have z0 := Int.emod_nonneg z (b := 1000003) (by decide)
            have z1 := Int.emod_lt_of_pos z (b := 1000003) (by decide)
            refine ⟨_, rfl, _, _, rfl, rfl, (by show (0 : Int) < 1000003; decide), _, _, rfl, rfl, .inr ⟨by decide, by decide⟩, _, rfl, _, _, rfl, rfl, ⟨by decide, by decide⟩, _, _, rfl, rfl, (by show (0 : Int) < 1000003; decide), _, _, rfl, rfl, ?_⟩
            refine ⟨fun v H4 => H4 = H3 ∧ ∃ N : Int, v = .int N ∧ 0 ≤ N ∧ N < 2147483647, ⟨_, rfl, _, rfl, _, _, rfl, rfl, .inl ⟨by decide, by decide⟩, _, rfl, _, _, rfl, rfl, .inl ⟨by omega, by omega⟩, _, _, rfl, rfl, _, rfl, _, _, rfl, rfl, .inl ⟨by decide, by decide⟩, _, _, rfl, rfl, _, _, rfl, rfl, _, _, rfl, rfl, (by show (0 : Int) < 2147483647; decide),
              rfl, _, rfl, Int.emod_nonneg _ (by decide), Int.emod_lt_of_pos _ (by decide)⟩, ?_⟩
            rintro v H4 ⟨rfl, N, rfl, hN0, hN1⟩
            have hr0 := Int.emod_nonneg (N * N) (b := 2147483629) (by decide)
            have hr1 := Int.emod_lt_of_pos (N * N) (b := 2147483629) (by decide)
            refine ⟨_, rfl, _, rfl, _, _, rfl, rfl, .inl ⟨by omega, by omega⟩, _, _, rfl, rfl, (by show (0 : Int) < 2147483629; decide), _, _, rfl, rfl, .inr ⟨by decide, by decide⟩, _, _, rfl, rfl, (by show (0 : Int) < 2147483587; decide), _, _, rfl, rfl, ⟨by decide, by decide⟩, _, rfl, _, _, rfl, rfl, h0, ?_⟩
            exact kk _ _ (fin hm2 b2 (by omega) (by omega) hl) b2 (Int.emod_nonneg _ (by omega)) (Int.emod_lt_of_pos _ h0)
end
end One
end P_N2

section P_N3
set_option linter.all false
set_option maxRecDepth 100000
set_option maxHeartbeats 8000000
namespace One
open PySem PySem.Spec PyProof.Rows L2
theorem scOf : FnScope ["m", "some"] ["m", "some"] (defScope sOf) := ⟨rfl, rfl, rfl, by decide +kernel, rfl, by decide +kernel, by decide +kernel⟩
abbrev sTurned : Stmt := top 26
theorem scTurned : FnScope ["m", "some", "left", "found"] ["m", "some"] (defScope sTurned) := ⟨rfl, rfl, rfl, by decide +kernel, rfl, by decide +kernel, by decide +kernel⟩
def spOf (K : PySem.W.Frag) : Sp := fun vs H Q _ => ∃ (p a l : Addr) (n : Nat) (xs : List V), vs = [.ref p, .ref l] ∧ MT K H p a n ∧ n < 1000000 ∧ SqL K H l xs ∧ 0 < xs.length ∧ xs.length < 1000000 ∧
  ∀ (H' : Hp) (i : Nat) (v : V), MT K H' p a (n + 1) → Ext p H H' → xs[i]? = some v → Q v H'
def spTurned (K : PySem.W.Frag) : Sp := fun vs H Q _ => ∃ (p a l : Addr) (n : Nat) (ns : List Nat), vs = [.ref p, .ref l] ∧ MT K H p a n ∧ SqL K H l (nats ns) ∧ ns.length ≤ 1000 ∧ n + ns.length ≤ 1000000 ∧
  ∀ (H' : Hp) (b : Addr) (ms : List Nat), MT K H' p a (n + ns.length) → Ext p H H' → H b = none → H' b = some (.lst (nats ms)) → ms.Perm ns → Q (.ref b) H'
theorem nats_ints (ns : List Nat) : nats ns = (ns.map fun x => ((x : Nat) : Int)).map V.int := by
  rw [List.map_map]
  rfl
theorem nats_ne (ns : List Nat) : PyData.eqv (.list ((ns.map fun x => ((x : Nat) : Int)).map PyData.int)) (.list []) = ns.isEmpty := by
  cases ns <;> rfl
section
variable {P : Program} {w : World} {K : PySem.W.Frag} {mg : Str → Option Value} {base : Heap}
theorem ok_of {f fN : Addr} {fd fdN : FuncData} (F : Fun K "_law_of" "_law_of" sOf f fd) (T : TB mg) (N : Cal K mg "_law_next" fN fdN ["m", "total"]) (GN : FnOk P w K mg base CX0 1 fN fdN ["m", "total"] (spNext K)) : FnOk P w K mg base CX0 2 f fd ["m", "some"] (spOf K) := by
  refine F.ok scOf (fun vs H Q E h => ?_) (fun cdv A outer s H vs Q E hr h => ?_)
  · obtain ⟨p, a, l, n, xs, rfl, _⟩ := h
    rfl
  · obtain ⟨p, a, l, n, xs, rfl, M, hn, hl, h0, h1, k⟩ := h
    refine ⟨_, pss_one (ps_ret (pe_ix ix_list (pv 1) (pe_call GN hr rfl N.g N.kp N.b .nil pass0 (pa_cons (pv 0) (pa_cons (pe_callB call_len_seq (by rfl) T.len PySem.boot_len (pa_cons (pv 1) pa_nil)) pa_nil))) (fun _ _ => rfl))), ?_⟩
    refine ⟨_, rfl, _, rfl, _, rfl, l, _, rfl, .inl hl, p, a, n, _, rfl, M, hn, by omega, by omega, fun H1 r M1 e1 r0 r1 => ?_⟩
    obtain ⟨j, rfl⟩ : ∃ j : Nat, r = (j : Nat) := ⟨r.toNat, by omega⟩
    obtain ⟨kvs, hp⟩ := M.dict
    have hj : j < xs.length := by omega
    exact ⟨l, _, _, xs[j], rfl, rfl, seq_ext hp e1 hl, at_of (j := j) rfl (List.getElem?_eq_getElem hj), k _ j _ M1 e1 (List.getElem?_eq_getElem hj)⟩
theorem ok_turned {f fN : Addr} {fd fdN : FuncData} (F : Fun K "_law_turned_about" "_law_turned_about" sTurned f fd) (T : TB mg) (N : Cal K mg "_law_next" fN fdN ["m", "total"]) (GN : FnOk P w K mg base CX0 1 fN fdN ["m", "total"] (spNext K)) : FnOk P w K mg base CX0 2 f fd ["m", "some"] (spTurned K) := by
  refine F.ok scTurned (fun vs H Q E h => ?_) (fun cdv A outer s H vs Q E hr h => ?_)
  · obtain ⟨p, a, l, n, ns, rfl, _⟩ := h
    rfl
  · obtain ⟨p, a, l, n, ns, rfl, M, hl, h1000, hn, k⟩ := h
    have nd := scTurned.nd
    have hu2 : (A.deeper (envOfC "_law_turned_about" (defScope sTurned) s.heap.objs.size f cdv)).units + 64 < cLine := hr.units
    refine ⟨_, C8.pss_cut (ps_par (i := 2) (j := 3) (by rfl) nd rfl rfl (by decide) rfl rfl (pa_cons (pe_callTy call_list_of (by rfl) T.list (by decide +kernel) (pa_cons (pv 1) pa_nil) (by decide)) (pa_cons (pe_lst pa_nil) pa_nil)) (by rfl))
      (pss_cons (ps_while PassesOwn.never (pt_cmpR (op_neD (by exact hu2)) (pv 2) (pe_lst pa_nil) (nomark _))
        (pss_one (ps_expr (pe_bm PySem.F.plainAttrs_list PySem.F.slot_list_append PySem.F.type_list_append mt_append (pv 3) (pa_cons (pe_bm PySem.F.plainAttrs_list PySem.F.slot_list_pop PySem.F.type_list_pop mt_popAt (pv 2) (pa_cons (pe_call GN hr rfl N.g N.kp N.b .nil pass0 (pa_cons (pv 0) (pa_cons (pe_callB call_len_seq (by rfl) T.len PySem.boot_len (pa_cons (pv 2) pa_nil)) pa_nil))) pa_nil)) pa_nil)))))
      (pss_one (ps_ret (pv 3)))), ?_⟩
    obtain ⟨ns0, k0, l0, hm0, hS0, _⟩ := M.ex
    refine ⟨fun σ H2 => ∃ (b c : Addr) (left done : List Nat) (n' : Nat), σ = [some (.ref p), some (.ref l), some (.ref b), some (.ref c)] ∧ H b = none ∧ H c = none ∧ b ≠ c ∧ H2 b = some (.lst (nats left)) ∧ H2 c = some (.lst (nats done)) ∧ (left ++ done).Perm ns ∧ MT K H2 p a n' ∧ n' + left.length = n + ns.length ∧ Ext p H H2, ?_, ?_⟩
    · refine ⟨_, rfl, l, _, rfl, .inl hl, fun b hb => ⟨Nat.zero_le _, fun c hc => ⟨_, _, rfl, ?_⟩⟩⟩
      have s1 := Same.new (o := .lst (nats ns)) hb
      have s2 := Same.new (o := .lst []) hc
      have hbc : b ≠ c := ne_of_none upd_same hc
      exact ⟨b, c, ns, [], n, rfl, hb, s1.free hc, hbc, s2 _ _ upd_same, upd_same, by rw [List.append_nil], M.keep (s1.trans s2), rfl, Ext.same (s1.trans s2)⟩
    · rintro σ0 H0 ⟨b, c, left0, done0, n0, rfl, hb, hc, hbc, hb0, hc0, hp0, M0, hn0, e0⟩
      unfold tSeq
      refine while_by (fun σ H2 => ∃ (left done : List Nat) (n' : Nat), σ = [some (.ref p), some (.ref l), some (.ref b), some (.ref c)] ∧ H2 b = some (.lst (nats left)) ∧ H2 c = some (.lst (nats done)) ∧ (left ++ done).Perm ns ∧ MT K H2 p a n' ∧ n' + left.length = n + ns.length ∧ Ext p H H2)
        (fun σ H2 => match H2 b with
          | some (.lst xs) => xs.length
          | _ => 0) ⟨left0, done0, n0, rfl, hb0, hc0, hp0, M0, hn0, e0⟩ ?_ ?_
      · rintro σ H2 ⟨left, done, n', rfl, hb2, hc2, hp2, M2, hn2, e2⟩
        refine ⟨_, rfl, Nat.zero_le _, fun z hz => ?_⟩
        have sz := Same.new (o := .lst []) hz
        have hb3 := sz _ _ hb2
        have hc3 := sz _ _ hc2
        have M3 := M2.keep sz
        have e3 := e2.trans (Ext.same sz)
        have ll : (left ++ done).length = ns.length := hp2.length_eq
        rw [List.length_append] at ll
        refine ⟨.list ((left.map fun x => ((x : Nat) : Int)).map PyData.int), .list [], (by
          refine .lst (SqL.of hb3) ?_
          rw [nats_ints]
          exact dp_ints _), .lst (SqL.of upd_same) .nil, ints_shaped _, rfl, _, rfl, ?_⟩
        rw [nats_ne]
        generalize hH3 : upd H2 z (.lst []) = H3 at hb3 hc3 M3 e3
        have mu : (match H2 b with
          | some (.lst xs) => xs.length
          | _ => 0) = left.length := by
          rw [hb2]
          exact List.length_map _
        cases left with
        | nil =>
          refine iteF ⟨_, rfl, k _ c done (M3.lt (by
            have : n' + ([] : List Nat).length = n + ns.length := hn2
            rw [List.length_nil] at this
            omega) (by omega)) e3 hc hc3 hp2⟩
        | cons x0 r0 =>
          have nlen : (nats (x0 :: r0)).length = (x0 :: r0).length := List.length_map _
          have hpos : 0 < (x0 :: r0).length := Nat.succ_pos _
          have nn : n' + (x0 :: r0).length = n + ns.length := hn2
          refine iteT ⟨_, rfl, .inl ⟨rfl, _, SqL.of hc3⟩, _, rfl, .inl ⟨rfl, _, SqL.of hb3⟩, _, rfl, _, rfl, b, _, rfl, .inl (SqL.of hb3), p, a, n', _, rfl, M3, by omega, by omega, by omega, fun H4 r M4 e4 q0 q1 => ?_⟩
          obtain ⟨j, rfl⟩ : ∃ j : Nat, r = (j : Nat) := ⟨r.toNat, by omega⟩
          rw [nlen] at q1
          have hj : j < (x0 :: r0).length := by omega
          have nb := M3.dict.neL hb3
          have nc := M3.dict.neL hc3
          have hb4 := e4 _ _ nb hb3
          have hc4 := e4 _ _ nc hc3
          obtain ⟨x, hx⟩ : ∃ x, (x0 :: r0)[j]? = some x := ⟨_, List.getElem?_eq_getElem hj⟩
          have hj' : seqIndex? ((j : Nat) : Int) (nats (x0 :: r0)).length = some j := seq_ix (by rw [nlen]; exact hj)
          refine ⟨b, _, _, j, _, rfl, rfl, hb4, by omega, by omega, hj', nats_at hx, ?_⟩
          rw [nats_erase]
          have M5 : MT K (upd H4 b (.lst (nats ((x0 :: r0).eraseIdx j)))) p a (n' + 1) := MT.wrN M hb (e3.trans e4) M4 hb4
          have hc5 : (upd H4 b (.lst (nats ((x0 :: r0).eraseIdx j)))) c = some (.lst (nats done)) := (upd_ne (Ne.symm hbc)).trans hc4
          have e5 : Ext p H (upd H4 b (.lst (nats ((x0 :: r0).eraseIdx j)))) := (e3.trans e4).wr hb
          have hb5 : (upd H4 b (.lst (nats ((x0 :: r0).eraseIdx j)))) b = some (.lst (nats ((x0 :: r0).eraseIdx j))) := upd_same
          generalize upd H4 b (.lst (nats ((x0 :: r0).eraseIdx j))) = H5 at M5 hc5 e5 hb5
          refine ⟨c, _, _, rfl, rfl, hc5, small1000 (by rw [List.length_map]; omega), ?_⟩
          have hper := erase_perm hx
          have hle : ((x0 :: r0).eraseIdx j).length + 1 = (x0 :: r0).length := by
            have : (x0 :: r0).length = ((x0 :: r0).eraseIdx j).length + 1 := hper.length_eq
            omega
          refine ⟨⟨(x0 :: r0).eraseIdx j, done ++ [x], n' + 1, rfl, (upd_ne hbc).trans hb5, ?_, ?_, MT.wrN M hc e5 M5 hc5, by omega, e5.wr hc⟩, ?_⟩
          · rw [upd_same, nats_app]
            rfl
          · refine List.Perm.trans ?_ hp2
            refine List.Perm.trans ?_ (List.Perm.append_right _ hper.symm)
            show ((x0 :: r0).eraseIdx j ++ (done ++ [x])).Perm (x :: ((x0 :: r0).eraseIdx j ++ done))
            rw [← List.append_assoc]
            exact List.perm_append_comm
          · rw [mu]
            show (match (upd H5 c (.lst (nats done ++ [V.int (x : Nat)]))) b with
              | some (.lst xs) => xs.length
              | _ => 0) < _
            rw [upd_ne hbc, hb5]
            show (nats ((x0 :: r0).eraseIdx j)).length < _
            rw [List.length_map]
            omega
      · intro σ H1 Q1 Q2 hq h
        obtain ⟨v, e1, e2, h⟩ := h
        refine ⟨v, e1, e2, fun z hz => ?_⟩
        obtain ⟨d, e, h1, h2, h3, h4, kk, h5, q⟩ := h z hz
        exact ⟨d, e, h1, h2, h3, h4, kk, h5, hq _ _ q⟩
end
end One
end P_N3

section P_WC
set_option linter.all false
set_option maxRecDepth 100000
set_option maxHeartbeats 16000000
namespace One
open PySem PySem.Spec PyProof.Rows L2
def rInt1 : List V → Hp → VK → Prop := fun xs H Q => (∃ i, xs = [.int i] ∧ Q (.int i) H) ∨ ∃ k, xs = [.bl k] ∧ Q (.int (if k = true then 1 else 0)) H
/-! ### lists of numbers by crossings, as a dict -/
def sdK (mk : List Nat) (as : List Addr) : List (Key × V) := List.zipWith (fun c a => (Sum.inl ((c : Nat) : Int), V.ref a)) mk as
theorem sdK_none : ∀ {mk : List Nat} {as : List Addr} {c : Nat}, c ∉ mk → valV (sdK mk as) (Sum.inl ((c : Nat) : Int)) = none
  | [], _, c, _ => valV_nil
  | _ :: _, [], c, _ => valV_nil
  | x :: ms, a :: as, c, h => (valV_neg (p := ((Sum.inl ((x : Nat) : Int) : Key), V.ref a)) fun z => h (by
      have := Sum.inl.inj z
      rw [show c = x by omega]
      exact List.mem_cons_self)).trans (sdK_none fun m => h (List.mem_cons_of_mem _ m))
theorem sdK_at : ∀ {mk : List Nat} {as : List Addr} {c : Nat} {a : Addr} {j : Nat}, mk.Nodup → mk[j]? = some c → as[j]? = some a → valV (sdK mk as) (Sum.inl ((c : Nat) : Int)) = some (.ref a)
  | [], _, c, a, j, _, h, _ => by simp at h
  | x :: ms, [], c, a, j, _, _, k => by simp at k
  | x :: ms, b :: as, c, a, 0, _, h, k => by
    cases h
    cases k
    exact valV_pos rfl
  | x :: ms, b :: as, c, a, j + 1, nd, h, k => by
    obtain ⟨n1, n2⟩ := List.nodup_cons.mp nd
    have hm : c ∈ ms := List.mem_of_getElem? h
    exact (valV_neg (p := ((Sum.inl ((x : Nat) : Int) : Key), V.ref b)) fun z => n1 (by
      have := Sum.inl.inj z
      rw [show x = c by omega]
      exact hm)).trans (sdK_at n2 h k)
theorem sdK_app {mk : List Nat} {as : List Addr} {c : Nat} {a : Addr} (hl : mk.length = as.length) : sdK (mk ++ [c]) (as ++ [a]) = sdK mk as ++ [(Sum.inl ((c : Nat) : Int), V.ref a)] := by
  unfold sdK
  rw [List.zipWith_append hl]
  rfl
/-- lists of numbers at these addresses -/
def LsA (H : Hp) (as : List Addr) (mk : List Nat) (f : Nat → List Nat) : Prop := as.length = mk.length ∧ ∀ (j : Nat) (a : Addr) (c : Nat), as[j]? = some a → mk[j]? = some c → H a = some (.lst (nats (f c)))
theorem LsA.mono {H H' : Hp} {as : List Addr} {mk : List Nat} {f : Nat → List Nat} (h : LsA H as mk f) (k : ∀ b xs, H b = some (.lst xs) → H' b = some (.lst xs)) : LsA H' as mk f := ⟨h.1, fun j a c e1 e2 => k _ _ (h.2 j a c e1 e2)⟩
theorem LsA.add {H : Hp} {as : List Addr} {mk : List Nat} {f : Nat → List Nat} (h : LsA H as mk f) {a : Addr} {c : Nat} (ha : H a = some (.lst (nats (f c)))) : LsA H (as ++ [a]) (mk ++ [c]) f := by
  refine ⟨by rw [List.length_append, List.length_append, h.1]; rfl, fun j b m e1 e2 => ?_⟩
  rcases Nat.lt_or_ge j as.length with q | q
  · rw [List.getElem?_append_left q] at e1
    rw [List.getElem?_append_left (h.1 ▸ q)] at e2
    exact h.2 j b m e1 e2
  · rw [List.getElem?_append_right q] at e1
    rw [List.getElem?_append_right (h.1 ▸ q)] at e2
    rw [← h.1] at e2
    cases hj : j - as.length with
    | zero =>
      rw [hj] at e1 e2
      cases e1
      cases e2
      exact ha
    | succ z =>
      rw [hj] at e1
      simp at e1
/-! ### the law's own square, sums, and looks at all sums -/
abbrev sLsq : Stmt := top 29
abbrev sLs : Stmt := top 30
abbrev sLsb : Stmt := top 31
abbrev sLd : Stmt := top 32
abbrev sLr : Stmt := top 33
abbrev nLsq : List Str := ["table", "ways", "marked", "found", "crossing", "own", "is_outer", "one"]
abbrev nLs : List Str := ["square_v", "some", "found", "column", "one"]
abbrev nLsb : List Str := ["some", "found", "one", "own"]
abbrev nLd : List Str := ["square_v", "free", "found", "crossing", "some", "own"]
abbrev nLr : List Str := ["table", "ways", "due"]
theorem scLsq : FnScope nLsq ["table", "ways"] (defScope sLsq) := ⟨rfl, rfl, rfl, by decide +kernel, rfl, by decide +kernel, by decide +kernel⟩
theorem scLs : FnScope nLs ["square_v", "some"] (defScope sLs) := ⟨rfl, rfl, rfl, by decide +kernel, rfl, by decide +kernel, by decide +kernel⟩
theorem scLsb : FnScope nLsb ["some"] (defScope sLsb) := ⟨rfl, rfl, rfl, by decide +kernel, rfl, by decide +kernel, by decide +kernel⟩
theorem scLd : FnScope nLd ["square_v"] (defScope sLd) := ⟨rfl, rfl, rfl, by decide +kernel, rfl, by decide +kernel, by decide +kernel⟩
theorem scLr : FnScope nLr ["table", "ways"] (defScope sLr) := ⟨rfl, rfl, rfl, by decide +kernel, rfl, by decide +kernel, by decide +kernel⟩
theorem ints_sorted {l m : List Nat} {zs : List Int} (hl : l.Pairwise (· < ·)) (hm : m.Perm l) (hp : zs.Perm (m.map fun x => ((x : Nat) : Int))) (hs : zs.Pairwise (· ≤ ·)) : zs = l.map fun x => ((x : Nat) : Int) := by
  refine List.Perm.eq_of_pairwise (le := (· ≤ ·)) (fun a b _ _ h k => Int.le_antisymm h k) hs ?_ (hp.trans (hm.map _))
  rw [List.pairwise_map]
  exact hl.imp fun {a b} h => by omega
theorem own_perm {n : Nat} {s o : List Nat} {R : Nat → List Nat} (Tb : Tb n s o R) {ws : List Nat} {c : Nat} (hc : c < n) (hm : isMk s ws c = true) (ho : isOut o ws c = false) :
    (((mkL n s ws).filter fun x => decide (x ∈ R c)) ++ [c]).Perm (rowL n s o R ws c) := by
  have nd1 : ((mkL n s ws).filter fun x => decide (x ∈ R c)).Nodup := ((mkL_asc n s ws).filter _).imp fun {a b} h => (Nat.ne_of_lt h : a ≠ b)
  have nd2 : (rowL n s o R ws c).Nodup := (rowL_asc n s o R ws c).imp fun {a b} h => (Nat.ne_of_lt h : a ≠ b)
  have nc : c ∉ (mkL n s ws).filter fun x => decide (x ∈ R c) := fun h => (Tb.sub c hc c (of_decide_eq_true (List.mem_filter.mp h).2)).2.1 rfl
  refine (List.perm_ext_iff_of_nodup (nodup_app nd1 nc) nd2).mpr fun x => ?_
  unfold rowL
  rw [List.mem_append, List.mem_filter, List.mem_filter, List.mem_singleton, Bool.or_eq_true, Bool.and_eq_true, decide_eq_true_eq, decide_eq_true_eq, ho]
  constructor
  · rintro (⟨a, b⟩ | rfl)
    · exact ⟨a, .inl b⟩
    · exact ⟨mem_mkL.mpr ⟨hc, hm⟩, .inr ⟨rfl, rfl⟩⟩
  · rintro ⟨a, b | ⟨b, _⟩⟩
    · exact .inl ⟨a, b⟩
    · exact .inr b
theorem rd_catA {K : PySem.W.Frag} {H : Hp} {a b : Addr} {xs ys : List V} {Q : VK} (ha : H a = some (.tup xs)) (hb : H b = some (.tup ys)) (hl : xs.length + ys.length ≤ sizeLine) (k : ∀ (H' : Hp) (p : Addr), Same H H' → H' p = some (.tup (xs ++ ys)) → Q (.ref p) H') : rCatA K (.ref a) (.ref b) H Q :=
  ⟨a, b, xs, ys, rfl, rfl, SqT.of ha, SqT.of hb, hl, fun e => k H b (Same.refl H) (by rw [e]; exact hb), fun _ e => k H a (Same.refl H) (by rw [e, List.append_nil]; exact ha), fun _ _ p hp => k _ p (Same.new hp) upd_same⟩
theorem mem_subs_len : ∀ (n : Nat) (F : List Nat), F.length = n → ∀ o ∈ subsX F, ∃ g : Nat, o.length + g = n := by
  intro n
  induction n with
  | zero =>
    intro F h o ho
    obtain rfl := List.eq_nil_of_length_eq_zero h
    exact ⟨0, by rw [List.mem_singleton.mp ho]; rfl⟩
  | succ n ih =>
    intro F h o ho
    rcases List.eq_nil_or_concat F with rfl | ⟨l, c, rfl⟩
    · cases h
    · rw [List.concat_eq_append] at h ho
      have hl : l.length = n := by simpa using h
      rw [subsX_app] at ho
      rcases List.mem_append.mp ho with z | z
      · obtain ⟨g, hg⟩ := ih l hl o z
        exact ⟨g + 1, by omega⟩
      · obtain ⟨p, hp, rfl⟩ := List.mem_map.mp z
        obtain ⟨g, hg⟩ := ih l hl p hp
        exact ⟨g, by rw [List.length_append]; show p.length + 1 + g = n + 1; omega⟩
theorem RsA.app {H : Hp} {ts us : List Addr} {L M : List (List Nat)} (h : RsA H ts L) (k : RsA H us M) : RsA H (ts ++ us) (L ++ M) := by
  refine ⟨by rw [List.length_append, List.length_append, h.1, k.1], fun j b m e1 e2 => ?_⟩
  rcases Nat.lt_or_ge j ts.length with q | q
  · rw [List.getElem?_append_left q] at e1
    rw [List.getElem?_append_left (h.1 ▸ q)] at e2
    exact h.2 j b m e1 e2
  · rw [List.getElem?_append_right q] at e1
    rw [List.getElem?_append_right (h.1 ▸ q)] at e2
    rw [← h.1] at e2
    exact k.2 _ b m e1 e2
def spLsq : Sp := fun vs H Q _ => ∃ (t u : Addr) (n : Nat) (s o : List Nat) (R : Nat → List Nat) (ws : List Nat), vs = [.ref t, .ref u] ∧ TbAt H t n s o R ∧ H u = some (.tup (nats ws)) ∧ WsN n ws ∧
  ∀ (H' : Hp) (d : Addr) (as : List Addr), Same H H' → H d = none → H' d = some (.dK (sdK (mkL n s ws) as)) → LsA H' as (mkL n s ws) (rowL n s o R ws) → Q (.ref d) H'
def oddL (f : Nat → List Nat) (own : List Nat) (j : Nat) : Bool := decide ((own.map fun c => if j ∈ f c then (1 : Int) else 0).sum % 2 = 1)
def spLs (K : PySem.W.Frag) : Sp := fun vs H Q _ => ∃ (d u : Addr) (od : Obj) (mk : List Nat) (as : List Addr) (f : Nat → List Nat) (own : List Nat), vs = [.ref d, .ref u] ∧ H d = some (.frz od (.dK (sdK mk as))) ∧ LsA H as mk f ∧ mk.Nodup ∧ mk.length ≤ 40 ∧ H u = some (.tup (nats own)) ∧ (∀ x ∈ own, x ∈ mk) ∧ own.length ≤ 40 ∧
  ∀ (H' : Hp) (l : Addr), Same H H' → H' l = some (.lst (nats (mk.filter (oddL f own)))) → Q (.ref l) H'
def spLsb : Sp := fun vs H Q _ => ∃ (l : Addr) (F : List Nat), vs = [.ref l] ∧ H l = some (.lst (nats F)) ∧ F.length ≤ 7 ∧
  ∀ (H' : Hp) (r : Addr) (ts : List Addr), Same H H' → H' r = some (.lst (refs ts)) → RsA H' ts (subsX F) → Q (.ref r) H'
section
variable {P : Program} {w : World} {K : PySem.W.Frag} {mg : Str → Option Value} {base : Heap}
theorem ok_lsq {f : Addr} {fd : FuncData} (F : Fun K "_law_square" "_law_square" sLsq f fd) (T : TB mg) : FnOk P w K mg base CX0 1 f fd ["table", "ways"] spLsq := by
  refine F.ok scLsq (fun vs H Q E h => ?_) (fun cdv A outer s H vs Q E hr h => ?_)
  · obtain ⟨t, u, n, s, o, R, ws, rfl, _⟩ := h
    rfl
  · obtain ⟨t, u, n, st, o, R, ws, rfl, hT, hu, hW, k⟩ := h
    have nd := scLsq.nd
    have hu1 := hu_of hr
    obtain ⟨a, b, c, rs, h1, h2, h3, h4, h5, h6⟩ := hT.ex
    have Tb := hT.tb
    have h40 := Tb.n2
    refine ⟨_, C8.pss_cut (ps_setLc (i := 2) (own := [("crossing", 4)]) (g := (gName 4)) (tt := (tTest (tOp rNe (tOp (rIxT K) (tVar 1) (tVar 4)) (tOp (rIxT K) (tOp (rIxT K) (tVar 0) (tC (.int 0))) (tVar 4))))) (te := (tVar 4)) rfl nd rfl rfl (sw_true rfl rfl rfl (by decide +kernel)) (pi_range1 (by rfl) T.range (pa_cons (pe_callB call_len_seq (by rfl) T.len PySem.boot_len (pa_cons (pv 1) pa_nil)) pa_nil)) (blkOk_by (N := nLsq) (sc := defScope sLsq) (by decide +kernel)) (fun _ _ _ _ _ => pg_name (i := 4) nd rfl (Or.inl rfl)) (fun _ _ _ _ _ => pts_one (pt_cmpR op_ne (pe_ix ix_tup (pv 1) (pv 4) (fun _ _ => rfl)) (pe_ix ix_tup (pe_ix ix_tup (pv 0) pe_int (fun _ _ => rfl)) (pv 4) (fun _ _ => rfl)) (nomark _))) (fun _ _ _ _ _ => by exact (pv 4)))
      (C8.pss_cut (ps_set (i := 3) nd rfl (Or.inl rfl) pe_dnewK)
      (pss_cons (ps_for PassesOwn.never rfl (pi_list (pv 2)) (pg_name (i := 4) nd rfl (Or.inr rfl))
        (C8.pss_cut (ps_setLc (i := 5) (own := [("one", 7)]) (g := (gName 7)) (tt := (tTest (tOp (rIn K false) (tVar 7) (tOp (rIxT K) (tOp (rIxT K) (tVar 0) (tC (.int 2))) (tVar 4))))) (te := (tVar 7)) rfl nd rfl rfl (sw_true rfl rfl rfl (by decide +kernel)) (pi_list (pv 2)) (blkOk_by (N := nLsq) (sc := defScope sLsq) (by decide +kernel)) (fun _ _ _ _ _ => pg_name (i := 7) nd rfl (Or.inl rfl)) (fun _ _ _ _ _ => pts_one (pt_cmpR op_in_seq (pv 7) (pe_ix ix_tup (pe_ix ix_tup (pv 0) pe_int (fun _ _ => rfl)) (pv 4) (fun _ _ => rfl)) (by rfl))) (fun _ _ _ _ _ => by exact (pv 7)))
      (C8.pss_cut (ps_set (i := 6) nd rfl (Or.inl rfl) (pe_cmpR op_eq (pe_ix ix_tup (pv 1) (pv 4) (fun _ _ => rfl)) (pe_ix ix_tup (pe_ix ix_tup (pv 0) pe_int (fun _ _ => rfl)) (pv 4) (fun _ _ => rfl)) (nomark _)))
      (pss_one (ps_dput hu1 (pv 3) (pv 4) (pe_ifExp (pt_val (pv 6)) (pv 5) (pe_callB cr_sorted (by rfl) T.sorted boot_sorted (pa_cons (pe_op op_catS (pv 5) (pe_lst (pa_cons (pv 4) pa_nil))) pa_nil))) rfl)))))
      (pss_one (ps_ret (pv 3))))), ?_⟩
    have ln : (nats ws).length = n := (List.length_map _).trans hW.len
    have lm := asc_len (mkL_asc n st ws) fun x hx => (mem_mkL.mp hx).1
    refine ⟨fun σ H2 => ∃ ml : Addr, σ = [some (.ref t), some (.ref u), some (.ref ml), none, none, none, none, none] ∧ Same H H2 ∧ H2 ml = some (.lst (nats (mkL n st ws))), ?_, ?_⟩
    · refine ⟨_, rfl, u, _, rfl, .inr (SqT.of hu), n, by rw [ln], by omega, by omega, fun D hD => ?_⟩
      rw [show ((n : Nat) : Int).toNat = n by omega]
      have sD := Same.new (o := .lst []) hD
      refine lc_it (walk_range (lo := 0) (n := n)) (fun j H6 => H6 D = some (.lst (nats (mkL j st ws))) ∧ Same H H6) ⟨upd_same, sD⟩ (fun j H6 _ _ => trivial) ?_ ?_
      · rintro j v H6 H7 hj ⟨h7, s7⟩ ⟨rfl, hv⟩
        have hv : v = V.int ((j : Nat) : Int) := by
          rw [hv]
          show V.int (0 + _) = _
          rw [Int.zero_add]
        subst hv
        obtain ⟨wx, hwx⟩ : ∃ y, ws[j]? = some y := ⟨_, List.getElem?_eq_getElem (by rw [hW.len]; exact hj)⟩
        obtain ⟨sx, hsx⟩ : ∃ y, st[j]? = some y := ⟨_, List.getElem?_eq_getElem (by rw [Tb.ls]; exact hj)⟩
        have ex : (!decide (V.int ((wx : Nat) : Int) = V.int ((sx : Nat) : Int))) = isMk st ws j := by
          unfold isMk
          rw [List.getD_eq_getElem?_getD, hwx, List.getD_eq_getElem?_getD, hsx]
          show _ = decide (wx ≠ sx)
          by_cases h : wx = sx
          · rw [h, decide_eq_true rfl, decide_eq_false fun z => z rfl]
            rfl
          · rw [decide_eq_false fun z => h (by have := V.int.inj z; omega), decide_eq_true h]
            rfl
        refine ⟨rfl, _, rfl, _, rfl, u, _, _, _, rfl, rfl, SqT.of (s7 _ _ hu), nat_ix hwx, _, rfl, t, _, _, _, rfl, rfl, SqT.of (s7 _ _ h1), rfl, _, rfl, a, _, _, _, rfl, rfl, SqT.of (s7 _ _ h2), nat_ix hsx, rfl, _, rfl, ?_⟩
        rw [ex]
        cases hmx : isMk st ws j with
        | false => exact iteF ⟨by
            rw [mkL_succ, hmx, if_neg (by decide), List.append_nil]
            exact h7, s7⟩
        | true =>
          have lj := asc_len (mkL_asc j st ws) fun x hx => (mem_mkL.mp hx).1
          refine iteT ⟨_, rfl, _, h7, by rw [show (nats _).length = _ from List.length_map _]; exact Nat.lt_of_lt_of_le (by omega : _ < 5000) (by decide), ?_, fun b o e => ?_⟩
          · rw [upd_same, mkL_succ, hmx, if_pos rfl, nats_app]
            rfl
          · rw [upd_ne (ne_of_none e hD)]
            exact s7 _ _ e
      · rintro H6 ⟨h7, s7⟩
        exact ⟨D, rfl, s7, h7⟩
    · rintro σ H2 ⟨ml, rfl, s2, hml⟩
      refine ⟨fun σ H3 => ∃ d, σ = [some (.ref t), some (.ref u), some (.ref ml), some (.ref d), none, none, none, none] ∧ Same H H3 ∧ H3 ml = some (.lst (nats (mkL n st ws))) ∧ H d = none ∧ ml ≠ d ∧ H3 d = some (.dK []), ?_, ?_⟩
      · exact fun d hd => ⟨d, rfl, s2.trans (Same.new hd), (Same.new hd) _ _ hml, s2.free hd, ne_of_none hml hd, upd_same⟩
      · rintro σ H3 ⟨d, rfl, s3, hml3, hd, hmd, hd3⟩
        refine ⟨_, rfl, ml, rfl, ⟨_, SqL.of hml3⟩, for_it (walk_list (K := K) (a := ml) (xs := nats (mkL n st ws))) (fun i σ H4 => ∃ (as : List Addr) (v4 v5 v6 : Option V), σ = [some (.ref t), some (.ref u), some (.ref ml), some (.ref d), v4, v5, v6, none] ∧ Same H H4 ∧ H4 ml = some (.lst (nats (mkL n st ws))) ∧ H4 d = some (.dK (sdK ((mkL n st ws).take i) as)) ∧ LsA H4 as ((mkL n st ws).take i) (rowL n st o R ws)) ⟨[], none, none, none, rfl, s3, hml3, hd3, ⟨rfl, fun j a c e => by simp at e⟩⟩ (fun i σ H4 _ ⟨_, _, _, _, _, _, s', _⟩ => SqL.of s') ?_ ?_⟩
        · rintro i x σ H4 H5 hi ⟨as, v4, v5, v6, rfl, s4, hml4, hd4, hL⟩ ⟨rfl, ex⟩
          obtain ⟨cr, hcr, rfl⟩ := nats_get ex
          have hm := mem_mkL.mp (List.mem_of_getElem? hcr)
          obtain ⟨wi, hwi⟩ : ∃ x, ws[cr]? = some x := ⟨_, List.getElem?_eq_getElem (by rw [hW.len]; exact hm.1)⟩
          obtain ⟨oi, hoi⟩ : ∃ x, o[cr]? = some x := ⟨_, List.getElem?_eq_getElem (by rw [Tb.lo]; exact hm.1)⟩
          obtain ⟨r, hr'⟩ : ∃ r, rs[cr]? = some r := ⟨_, List.getElem?_eq_getElem (by rw [h5]; exact hm.1)⟩
          have hR := h6 cr r hr'
          refine ⟨fun σ H6 => ∃ l : Addr, σ = [some (.ref t), some (.ref u), some (.ref ml), some (.ref d), some (.int (cr : Nat)), some (.ref l), v6, none] ∧ Same H5 H6 ∧ H5 l = none ∧ H6 l = some (.lst (nats ((mkL n st ws).filter fun x => decide (x ∈ R cr)))), ?_, ?_⟩
          · refine ⟨_, rfl, ml, rfl, ⟨_, SqL.of hml4⟩, fun D hD => ?_⟩
            have sD := Same.new (o := .lst []) hD
            refine lc_it (walk_list (K := K) (a := ml) (xs := nats (mkL n st ws))) (fun j H6 => H6 D = some (.lst (nats (((mkL n st ws).take j).filter fun x => decide (x ∈ R cr)))) ∧ Same H5 H6) ⟨upd_same, sD⟩ (fun j H6 _ ⟨_, s'⟩ => SqL.of (s' _ _ hml4)) ?_ ?_
            · rintro j v H6 H7 hj ⟨h7, s7⟩ ⟨rfl, ex2⟩
              obtain ⟨x, hx, rfl⟩ := nats_get ex2
              have sA := s4.trans s7
              refine ⟨rfl, _, rfl, _, rfl, t, _, _, _, rfl, rfl, SqT.of (sA _ _ h1), rfl, _, rfl, c, _, _, _, rfl, rfl, SqT.of (sA _ _ h4), ref_at hr', r, _, rfl, .inr (SqT.of (sA _ _ hR)), rfl, flat_nats _, _, rfl, ?_⟩
              rw [inV_nats, List.take_succ, hx, Option.toList_some, List.filter_append]
              have li := (List.getElem?_eq_some_iff.mp hx).1
              cases hmx : decide (x ∈ R cr) with
              | false =>
                rw [List.filter_cons_of_neg (by rw [hmx]; decide), List.filter_nil, List.append_nil]
                exact iteF ⟨h7, s7⟩
              | true =>
                rw [List.filter_cons_of_pos (p := fun x => decide (x ∈ R cr)) hmx, List.filter_nil]
                have lf := List.length_filter_le (fun x => decide (x ∈ R cr)) ((mkL n st ws).take j)
                rw [List.length_take] at lf
                refine iteT ⟨_, rfl, _, h7, by rw [show (nats _).length = _ from List.length_map _]; exact Nat.lt_of_lt_of_le (by omega : _ < 5000) (by decide), ?_, fun b o e => ?_⟩
                · rw [upd_same, nats_app]
                  rfl
                · rw [upd_ne (ne_of_none e hD)]
                  exact s7 _ _ e
            · rintro H6 ⟨h7, s7⟩
              rw [List.take_of_length_le (Nat.le_of_eq (List.length_map _).symm)] at h7
              exact ⟨D, rfl, s7, hD, h7⟩
          · rintro σ H6 ⟨l, rfl, s6, hl0, hl6⟩
            refine ⟨fun σ H7 => σ = [some (.ref t), some (.ref u), some (.ref ml), some (.ref d), some (.int (cr : Nat)), some (.ref l), some (.bl (isOut o ws cr)), none] ∧ H7 = H6, ?_, ?_⟩
            · have sA := s4.trans s6
              refine ⟨_, rfl, _, rfl, u, _, _, _, rfl, rfl, SqT.of (sA _ _ hu), nat_ix hwi, _, rfl, t, _, _, _, rfl, rfl, SqT.of (sA _ _ h1), rfl, _, rfl, b, _, _, _, rfl, rfl, SqT.of (sA _ _ h3), nat_ix hoi, rfl, ?_, rfl⟩
              have eo : decide (V.int ((wi : Nat) : Int) = V.int ((oi : Nat) : Int)) = isOut o ws cr := by
                unfold isOut
                rw [List.getD_eq_getElem?_getD, hwi, List.getD_eq_getElem?_getD, hoi]
                show _ = decide (wi = oi)
                by_cases h : wi = oi
                · rw [h, decide_eq_true rfl, decide_eq_true rfl]
                · rw [decide_eq_false fun z => h (by have := V.int.inj z; omega), decide_eq_false h]
              rw [← eo]
              rfl
            · rintro σ H7 ⟨rfl, rfl⟩
              have sA := s4.trans s6
              have Hl : H l = none := s4.free hl0
              have hld : l ≠ d := fun z => by rw [z] at hl0; rw [hd4] at hl0; cases hl0
              have hcn : cr ∉ (mkL n st ws).take i := fun z => by
                obtain ⟨q, hq, e⟩ := List.mem_take_iff_getElem.mp z
                obtain ⟨hi2, ec⟩ := List.getElem?_eq_some_iff.mp hcr
                have := List.pairwise_iff_getElem.mp (mkL_asc n st ws) q i (by omega) hi2 (by omega)
                omega
              have fin : ∀ (H8 : Hp) (x : Addr), Same H7 H8 → H8 x = some (.lst (nats (rowL n st o R ws cr))) → ∃ (a : Addr) (H9 : Hp), V.ref d = V.ref a ∧ DPut H8 a (V.int (cr : Nat)) (.ref x) H9 ∧ ∃ (as : List Addr) (v4 v5 v6' : Option V), [some (V.ref t), some (.ref u), some (.ref ml), some (.ref d), some (.int (cr : Nat)), some (.ref l), some (.bl (isOut o ws cr)), none] = [some (V.ref t), some (.ref u), some (.ref ml), some (.ref d), v4, v5, v6', none] ∧
                  Same H H9 ∧ H9 ml = some (.lst (nats (mkL n st ws))) ∧ H9 d = some (.dK (sdK ((mkL n st ws).take (i + 1)) as)) ∧ LsA H9 as ((mkL n st ws).take (i + 1)) (rowL n st o R ws) := by
                intro H8 x s8 hx
                have hd8 := s8 _ _ (s6 _ _ hd4)
                have sB := sA.trans s8
                have hL8 : LsA H8 as ((mkL n st ws).take i) (rowL n st o R ws) := hL.mono fun b xs e => s8 _ _ (s6 _ _ e)
                have kl : ∀ {v : HO} b xs, H8 b = some (.lst xs) → upd H8 d v b = some (.lst xs) := fun {v} b xs e => by
                  rw [upd_ne fun z => by rw [z, hd8] at e; cases e]
                  exact e
                have el : ((mkL n st ws).take i).length = as.length := hL.1.symm
                refine ⟨d, _, rfl, DPut.k (k := Sum.inl ((cr : Nat) : Int)) hd8 ?_, as ++ [x], _, _, _, rfl, fun b o e => ?_, ?_, ?_, ?_⟩
                · unfold sdK
                  rw [List.length_zipWith, List.length_take]
                  exact Nat.lt_of_lt_of_le (by omega : _ < 5000) (by decide)
                · rw [upd_ne (ne_of_none e hd)]
                  exact sB _ _ e
                · exact kl _ _ (s8 _ _ (s6 _ _ hml4))
                · rw [upd_same, putK_new _ (sdK_none hcn), ← sdK_app el, List.take_succ, hcr, Option.toList_some]
                · rw [List.take_succ, hcr, Option.toList_some]
                  exact (hL8.mono fun b xs e => kl b xs e).add (kl _ _ hx)
              cases ho : isOut o ws cr with
              | true =>
                rw [ho] at fin
                have er : rowL n st o R ws cr = (mkL n st ws).filter fun x => decide (x ∈ R cr) := List.filter_congr fun x _ => by
                  rw [ho]
                  show (decide (x ∈ R cr) || (decide (x = cr) && false)) = _
                  rw [Bool.and_false, Bool.or_false]
                rw [er] at fin
                exact ⟨_, rfl, _, rfl, iteT ⟨_, rfl, _, rfl, _, rfl, fin H7 l (Same.refl _) hl6⟩⟩
              | false =>
                rw [ho] at fin
                have lf := List.length_filter_le (fun x => decide (x ∈ R cr)) (mkL n st ws)
                refine ⟨_, rfl, _, rfl, iteF ⟨_, rfl, _, rfl, by show 1 ≤ sizeLine; decide, fun e he => ?_⟩⟩
                have se := Same.new (o := .lst [V.int (cr : Nat)]) he
                unfold tNil
                refine ⟨l, e, _, _, rfl, rfl, SqL.of (se _ _ hl6), upd_same, ?_, fun g hg => ?_⟩
                · rw [show (nats _).length = _ from List.length_map _]
                  exact Nat.le_trans (by show _ + 1 ≤ 5000; omega) (by decide)
                · have sg := Same.new (o := .lst (nats ((mkL n st ws).filter fun x => decide (x ∈ R cr)) ++ [V.int (cr : Nat)])) hg
                  refine ⟨g, (((mkL n st ws).filter fun x => decide (x ∈ R cr)) ++ [cr]).map fun x => ((x : Nat) : Int), rfl, SqL.of ?_, ?_, fun zs q hp hs hq => ?_⟩
                  · rw [← nats_ints, nats_app]
                    exact upd_same
                  · rw [List.length_map, List.length_append]
                    show _ + 1 < 64
                    omega
                  · have e := ints_sorted (rowL_asc n st o R ws cr) (own_perm Tb hm.1 hm.2 ho) hp hs
                    exact ⟨_, rfl, _, rfl, fin _ q ((se.trans sg).trans (Same.new hq)) (by rw [e, ← nats_ints]; exact upd_same)⟩
        · rintro σ H4 ⟨as, v4, v5, v6, rfl, s4, hml4, hd4, hL⟩
          have e : (mkL n st ws).take (nats (mkL n st ws)).length = mkL n st ws := List.take_of_length_le (Nat.le_of_eq (List.length_map _).symm)
          rw [e] at hd4 hL
          exact ⟨_, rfl, k _ d as s4 hd hd4 hL⟩
theorem ok_lsb {f : Addr} {fd : FuncData} (F : Fun K "_law_subsets" "_law_subsets" sLsb f fd) (T : TB mg) : FnOk P w K mg base CX0 1 f fd ["some"] spLsb := by
  refine F.ok scLsb (fun vs H Q E h => ?_) (fun cdv A outer s H vs Q E hr h => ?_)
  · obtain ⟨l, G, rfl, _⟩ := h
    rfl
  · obtain ⟨l, G, rfl, hl, h7, k⟩ := h
    have nd := scLsb.nd
    refine ⟨_, C8.pss_cut (ps_set (i := 1) nd rfl (Or.inl rfl) (pe_lst (pa_cons (pe_tup pa_nil) pa_nil)))
      (pss_cons (ps_for PassesOwn.never rfl (pi_list (pv 0)) (pg_name (i := 2) nd rfl (Or.inr rfl))
        (pss_one (ps_set (i := 1) nd rfl (Or.inl rfl) (pe_op op_catS (pv 1) (pe_lc (own := [("own", 3)]) (g := (gName 3)) (tt := tYes) (te := (tOp (rCatA K) (tVar 3) (tTup (tCons (tVar 2) tNil)))) rfl nd (pi_list (pv 1)) (blkOk_by (N := nLsb) (sc := defScope sLsb) (by decide +kernel)) (fun _ _ _ _ _ => pg_name (i := 3) nd rfl (Or.inl rfl)) (fun _ _ _ _ _ => pts_nil) (fun _ _ _ _ _ => by exact (pe_op op_catA (pv 3) (pe_tup (pa_cons (pv 2) pa_nil)))))))))
      (pss_one (ps_ret (pv 1)))), ?_⟩
    refine ⟨fun σ H2 => ∃ (r : Addr) (ts : List Addr), σ = [some (.ref l), some (.ref r), none, none] ∧ Same H H2 ∧ H2 r = some (.lst (refs ts)) ∧ RsA H2 ts (subsX []), ?_, ?_⟩
    · refine ⟨Nat.zero_le _, fun e he => ⟨by show 1 ≤ sizeLine; decide, fun b hb => ?_⟩⟩
      have s1 := Same.new (o := .tup []) he
      have s2 := Same.new (o := .lst [V.ref e]) hb
      exact ⟨b, [e], rfl, s1.trans s2, upd_same, (RsA.nil _).add (a := e) (l := []) (s2 _ _ upd_same)⟩
    · rintro σ H2 ⟨r, ts, rfl, s2, hr2, hR⟩
      refine ⟨_, rfl, l, rfl, ⟨_, SqL.of (s2 _ _ hl)⟩, for_it (walk_list (K := K) (a := l) (xs := nats G)) (fun i σ H3 => ∃ (r : Addr) (ts : List Addr) (v2 : Option V), σ = [some (.ref l), some (.ref r), v2, none] ∧ Same H H3 ∧ H3 r = some (.lst (refs ts)) ∧ RsA H3 ts (subsX (G.take i))) ⟨r, ts, none, rfl, s2, hr2, hR⟩ (fun i σ H3 _ ⟨_, _, _, _, s', _⟩ => SqL.of (s' _ _ hl)) ?_ ?_⟩
      · rintro i x σ H3 H4 hi ⟨r, ts, v2, rfl, s3, hr3, hR3⟩ ⟨rfl, ex⟩
        obtain ⟨c, hc, rfl⟩ := nats_get ex
        have li := (List.getElem?_eq_some_iff.mp hc).1
        have lt : ts.length = 2 ^ i := by
          rw [hR3.1]
          exact subsX_len i _ (by rw [List.length_take]; omega)
        have l2 : 2 ^ i ≤ 64 := Nat.le_trans (Nat.pow_le_pow_right (by decide) (by omega : i ≤ 6)) (by decide)
        refine ⟨_, rfl, _, rfl, r, rfl, ⟨_, SqL.of hr3⟩, fun D hD => ?_⟩
        have sD := Same.new (o := .lst []) hD
        refine lc_it (walk_list (K := K) (a := r) (xs := refs ts)) (fun j H6 => ∃ us : List Addr, H6 D = some (.lst (refs us)) ∧ RsA H6 us (((subsX (G.take i)).take j).map (· ++ [c])) ∧ Same H4 H6) ⟨[], upd_same, RsA.nil _, sD⟩ (fun j H6 _ ⟨_, _, _, s'⟩ => SqL.of (s' _ _ hr3)) ?_ ?_
        · rintro j v H6 H7 hj ⟨us, h7, hU, s7⟩ ⟨rfl, ex2⟩
          obtain ⟨a, ha, rfl⟩ := refs_get ex2
          have lj := (List.getElem?_eq_some_iff.mp ha).1
          obtain ⟨m, hm⟩ : ∃ m, (subsX (G.take i))[j]? = some m := ⟨_, List.getElem?_eq_getElem (by rw [← hR3.1]; exact lj)⟩
          have hA := s7 _ _ (hR3.2 j a m ha hm)
          refine ⟨rfl, yes ⟨_, rfl, _, rfl, by show 1 ≤ sizeLine; decide, fun e he => ?_⟩⟩
          have s5 := Same.new (o := .tup [V.int (c : Nat)]) he
          have h5 := upd_same (H := H7) (a := e) (o := .tup [V.int (c : Nat)])
          generalize upd H7 e (.tup [V.int (c : Nat)]) = H8 at s5 h5
          have lm : m.length ≤ 7 := by
            obtain ⟨g, hg⟩ := (mem_subs_len i (G.take i) (by rw [List.length_take]; omega) m (List.mem_of_getElem? hm))
            omega
          refine rd_catA (s5 _ _ hA) h5 (Nat.le_trans (m := 100) (by
            rw [show (nats m).length = m.length from List.length_map _]
            show m.length + 1 ≤ 100
            omega) (by decide)) fun H9 z s9 hz => ?_
          have sB := s5.trans s9
          have hD9 := sB _ _ h7
          have lu := hU.1
          rw [List.length_map, List.length_take] at lu
          refine ⟨_, hD9, by rw [show (refs us).length = us.length from List.length_map _]; exact Nat.lt_of_lt_of_le (by omega : _ < 5000) (by decide), us ++ [z], ?_, ?_, fun b o eo => ?_⟩
          · rw [upd_same, refs_app]
            rfl
          · have kt : ∀ b xs, H9 b = some (.tup xs) → upd H9 D (.lst (refs us ++ [V.ref z])) b = some (.tup xs) := fun b xs e => by
              rw [upd_ne fun q => by rw [q, hD9] at e; cases e]
              exact e
            rw [List.take_succ, hm, Option.toList_some, List.map_append]
            refine ((hU.mono (sameT sB)).mono kt).add (kt _ _ ?_)
            rw [nats_app]
            exact hz
          · rw [upd_ne (ne_of_none eo hD)]
            exact sB _ _ (s7 _ _ eo)
        · rintro H6 ⟨us, h7, hU, s7⟩
          have lu := hU.1
          rw [List.length_map, List.length_take] at lu
          refine ⟨r, D, _, _, rfl, rfl, SqL.of (s7 _ _ hr3), h7, ?_, fun g hg => ?_⟩
          · have e0 : (refs ts).length = ts.length := List.length_map _
            rw [e0] at lu
            rw [e0, show (refs us).length = us.length from List.length_map _]
            exact Nat.le_trans (by omega : _ ≤ 5000) (by decide)
          · have sg := Same.new (o := .lst (refs ts ++ refs us)) hg
            refine ⟨g, ts ++ us, _, rfl, s3.trans (s7.trans sg), ?_, ?_⟩
            · rw [upd_same, refs_app]
            · rw [List.take_succ, hc, Option.toList_some, subsX_app]
              rw [List.take_of_length_le (by rw [show (refs ts).length = ts.length from List.length_map _, hR3.1]; exact Nat.le_refl _)] at hU
              exact RsA.app (hR3.mono (sameT (s7.trans sg))) (hU.mono (sameT sg))
      · rintro σ H3 ⟨r, ts, v2, rfl, s3, hr3, hR3⟩
        have e : G.take (nats G).length = G := List.take_of_length_le (Nat.le_of_eq (List.length_map _).symm)
        rw [e] at hR3
        exact ⟨_, rfl, k _ r ts s3 hr3 hR3⟩
theorem ok_ls {f : Addr} {fd : FuncData} (F : Fun K "_law_sum" "_law_sum" sLs f fd) (T : TB mg) (hsum : mg "sum" = none) : FnOk P w K mg base CX0 1 f fd ["square_v", "some"] (spLs K) := by
  refine F.ok scLs (fun vs H Q E h => ?_) (fun cdv A outer s H vs Q E hr h => ?_)
  · obtain ⟨d, u, od, mk, as, f, own, rfl, _⟩ := h
    rfl
  · obtain ⟨d, u, od, ms, as, f, own, rfl, hd, hL, hnd, h40, hu, hown, ho40, k⟩ := h
    have nd := scLs.nd
    have hu1 := hu_of hr
    refine ⟨_, pss_cons (ps_set (i := 2) nd rfl (Or.inl rfl) (pe_lst pa_nil))
      (pss_cons (ps_for PassesOwn.never rfl (pi_keys (pv 0)) (pg_name (i := 3) nd rfl (Or.inr rfl))
        (pss_one (ps_if (pt_mid (pt_cmpR op_eq (pe_op op_mod (pe_callB (cr_sum rfl) (by rfl) hsum boot_sum (pa_cons (pe_lc (own := [("one", 4)]) (g := (gName 4)) (tt := tYes) (te := (tCB rInt1 (tCons (tOp (rIn K false) (tVar 3) (tDGet (tVar 0) (tVar 4))) tNil))) rfl nd (pi_tup (pv 1)) (blkOk_by (N := nLs) (sc := defScope sLs) (by decide +kernel)) (fun _ _ _ _ _ => pg_name (i := 4) nd rfl (Or.inl rfl)) (fun _ _ _ _ _ => pts_nil) (fun _ _ _ _ _ => by exact (pe_callTy call_int1 (by rfl) T.int PyProof.Rows.boot_int (pa_cons (pe_cmpR op_in_seq (pv 3) (pe_dget hu1 (pv 0) (pv 4) (fun _ _ => rfl)) (by rfl)) pa_nil) (by decide)))) pa_nil)) pe_int) pe_int (nomark _))) (pss_one (ps_expr (pe_bm PySem.F.plainAttrs_list PySem.F.slot_list_append PySem.F.type_list_append mt_append (pv 2) (pa_cons (pv 3) pa_nil)))) pss_nil)))
      (pss_one (ps_ret (pv 2)))), ?_⟩
    have lk : (sdK ms as).length = ms.length := by
      unfold sdK
      rw [List.length_zipWith, hL.1, Nat.min_self]
    refine ⟨Nat.zero_le _, fun L hL0 => ⟨_, rfl, d, od, rfl, .inl ⟨_, (Same.new hL0) _ _ hd, for_it (walk_keys (d := d) (o := od) (kvs := sdK ms as)) (fun i σ H2 => ∃ v3 : Option V, σ = [some (.ref d), some (.ref u), some (.ref L), v3, none] ∧ Same H H2 ∧ H2 L = some (.lst (nats ((ms.take i).filter (oddL f own))))) ⟨none, rfl, Same.new hL0, upd_same⟩ (fun i σ H2 _ ⟨_, _, s', _⟩ => s' _ _ hd) ?_ ?_⟩⟩⟩
    · rintro i x σ H2 H3 hi ⟨v3, rfl, s2, hL2⟩ ⟨rfl, kk, vv, ek, ex⟩
      rw [lk] at hi
      obtain ⟨c, hc⟩ : ∃ c, ms[i]? = some c := ⟨_, List.getElem?_eq_getElem hi⟩
      obtain ⟨a, ha⟩ : ∃ a, as[i]? = some a := ⟨_, List.getElem?_eq_getElem (by rw [hL.1]; exact hi)⟩
      have ek2 : (sdK ms as)[i]? = some (Sum.inl ((c : Nat) : Int), V.ref a) := by
        unfold sdK
        rw [List.getElem?_zipWith, hc, ha]
      rw [ek2] at ek
      cases ek
      subst ex
      refine ⟨fun b H4 => b = oddL f own c ∧ Same H3 H4, ?_, ?_⟩
      · refine ⟨_, rfl, u, rfl, ⟨_, SqT.of (s2 _ _ hu)⟩, fun D hD => ?_⟩
        have sD := Same.new (o := .lst []) hD
        refine lc_it (walk_tup (K := K) (a := u) (xs := nats own)) (fun j H6 => H6 D = some (.lst (((own.take j).map fun e => if c ∈ f e then (1 : Int) else 0).map V.int)) ∧ Same H3 H6) ⟨upd_same, sD⟩ (fun j H6 _ ⟨_, s'⟩ => SqT.of (s' _ _ (s2 _ _ hu))) ?_ ?_
        · rintro j v H6 H7 hj ⟨h7, s7⟩ ⟨rfl, ex2⟩
          obtain ⟨y, hy, rfl⟩ := nats_get ex2
          obtain ⟨q, hq⟩ := List.mem_iff_getElem?.mp (hown y (List.mem_of_getElem? hy))
          obtain ⟨b, hb⟩ : ∃ b, as[q]? = some b := ⟨_, List.getElem?_eq_getElem (by rw [hL.1]; exact (List.getElem?_eq_some_iff.mp hq).1)⟩
          have sA := s2.trans s7
          have hB := sA _ _ (hL.2 q b y hb hq)
          have lj := (List.getElem?_eq_some_iff.mp hy).1
          refine ⟨rfl, yes ⟨_, rfl, _, rfl, _, rfl, d, _, rfl, .inl ⟨_, Sum.inl ((y : Nat) : Int), .inr ⟨od, sA _ _ hd⟩, rfl, (sdK_at hnd hq hb).symm⟩, b, _, rfl, .inl (SqL.of hB), rfl, flat_nats _, ?_⟩⟩
          unfold tNil
          refine .inr ⟨_, rfl, ?_⟩
          refine ⟨_, h7, by rw [List.length_map, List.length_map, List.length_take]; exact Nat.lt_of_lt_of_le (by omega : _ < 5000) (by decide), ?_, fun b o e => ?_⟩
          · have ei : (if (if false = true then !inV (V.int ((c : Nat) : Int)) (nats (f y)) else inV (V.int ((c : Nat) : Int)) (nats (f y))) = true then (1 : Int) else 0) = if c ∈ f y then 1 else 0 := by
              show (if inV (V.int ((c : Nat) : Int)) (nats (f y)) = true then (1 : Int) else 0) = _
              rw [inV_nats]
              by_cases h : c ∈ f y
              · rw [decide_eq_true h, if_pos h, if_pos rfl]
              · rw [decide_eq_false h, if_neg h]
                rfl
            rw [upd_same, List.take_succ, hy, Option.toList_some, List.map_append, List.map_append]
            exact congrArg (fun z => some (HO.lst (((own.take j).map fun e => if c ∈ f e then (1 : Int) else 0).map V.int ++ [V.int z]))) ei
          · rw [upd_ne (ne_of_none e hD)]
            exact s7 _ _ e
        · rintro H6 ⟨h7, s7⟩
          rw [List.take_of_length_le (Nat.le_of_eq (List.length_map _).symm)] at h7
          unfold tNil
          refine ⟨D, _, rfl, SqL.of h7, _, _, rfl, rfl, (by show (0 : Int) < 2; decide), rfl, _, rfl, ?_, s7⟩
          unfold oddL
          show decide (V.int ((own.map fun e => if c ∈ f e then (1 : Int) else 0).sum % 2) = V.int 1) = _
          by_cases h : ((own.map fun e => if c ∈ f e then (1 : Int) else 0).sum % 2 = 1)
          · rw [decide_eq_true h, h]
            exact decide_eq_true rfl
          · rw [decide_eq_false h]
            exact decide_eq_false fun z => h (V.int.inj z)
      · rintro b H4 ⟨rfl, s4⟩
        have lf := List.length_filter_le (oddL f own) (ms.take i)
        rw [List.length_take] at lf
        have hL4 := s4 _ _ hL2
        cases ho : oddL f own c with
        | false =>
          refine iteF ⟨_, rfl, s2.trans s4, ?_⟩
          rw [List.take_succ, hc, Option.toList_some, List.filter_append, List.filter_cons_of_neg (by rw [ho]; decide), List.filter_nil, List.append_nil]
          exact hL4
        | true =>
          refine iteT ⟨_, rfl, .inl ⟨rfl, _, SqL.of hL4⟩, _, rfl, ?_⟩
          unfold tNil
          refine ⟨L, _, _, rfl, rfl, hL4, by rw [show (nats _).length = _ from List.length_map _]; exact Nat.lt_of_lt_of_le (by omega : _ < 5000) (by decide), _, rfl, fun b o e => ?_, ?_⟩
          · rw [upd_ne (ne_of_none e hL0)]
            exact s4 _ _ (s2 _ _ e)
          · rw [upd_same, List.take_succ, hc, Option.toList_some, List.filter_append, List.filter_cons_of_pos ho, List.filter_nil, nats_app]
            rfl
    · rintro σ H2 ⟨v3, rfl, s2, hL2⟩
      rw [lk, List.take_length] at hL2
      exact ⟨_, rfl, k _ L s2 hL2⟩
end
end One
end P_WC

section P_WE
set_option linter.all false
set_option maxRecDepth 100000
set_option maxHeartbeats 16000000
namespace One
open PySem PySem.Spec PyProof.Rows L2
theorem vx_out {b : Nat → Nat} {g : Nat → Bool} {j : Nat} : ∀ {F : List Nat}, (∀ c ∈ F, (b c).testBit j = false) → (vx b F g).testBit j = false
  | [], _ => Nat.zero_testBit j
  | c :: F, h => by
    rw [vx_cons, Nat.testBit_xor, vx_out fun x hx => h x (List.mem_cons_of_mem _ hx)]
    cases g c with
    | false => rw [if_neg (by decide), Nat.zero_testBit]; rfl
    | true => rw [if_pos rfl, h c List.mem_cons_self]; rfl
/-- rows: rising, of marked ones -/
structure Rws (mk : List Nat) (f : Nat → List Nat) : Prop where
  asc : mk.Pairwise (· < ·)
  row : ∀ c, f c = mk.filter fun j => decide (j ∈ f c)
theorem Rws.sub {mk : List Nat} {f : Nat → List Nat} (h : Rws mk f) {c x : Nat} (hx : x ∈ f c) : x ∈ mk := by
  rw [h.row c] at hx
  exact (List.mem_filter.mp hx).1
theorem Rws.rasc {mk : List Nat} {f : Nat → List Nat} (h : Rws mk f) (c : Nat) : (f c).Pairwise (· < ·) := by
  rw [h.row c]
  exact h.asc.filter _
theorem Rws.bit {mk : List Nat} {f : Nat → List Nat} (h : Rws mk f) (c j : Nat) : (bitsN (f c)).testBit j = decide (j ∈ f c) := bits_at (h.rasc c) j
theorem sum_is {mk : List Nat} {f : Nat → List Nat} (h : Rws mk f) {F : List Nat} {g : Nat → Bool} (c : Nat) : (mk.filter (oddL f (F.filter g)) = f c) ↔ bitsN (f c) = vx (fun c => bitsN (f c)) F g := by
  have e : ∀ j, oddL f (F.filter g) j = (vx (fun c => bitsN (f c)) F g).testBit j := fun j => by
    rw [← odd_vx]
    unfold oddL
    refine decide_eq_decide.mpr ?_
    have : ((F.filter g).map fun c => if j ∈ f c then (1 : Int) else 0) = (F.filter g).map fun c => if (bitsN (f c)).testBit j = true then (1 : Int) else 0 := List.map_congr_left fun x _ => by
      rw [h.bit]
      by_cases q : j ∈ f x
      · rw [if_pos q, decide_eq_true q, if_pos rfl]
      · rw [if_neg q, decide_eq_false q, if_neg (by decide)]
    rw [this]
  rw [List.filter_congr fun j _ => e j]
  constructor
  · intro q
    refine Nat.eq_of_testBit_eq fun j => ?_
    rw [h.bit]
    by_cases hj : j ∈ mk
    · have : j ∈ f c ↔ j ∈ mk.filter fun j => (vx (fun c => bitsN (f c)) F g).testBit j := by rw [q]
      rw [List.mem_filter] at this
      cases hb : (vx (fun c => bitsN (f c)) F g).testBit j with
      | true => exact decide_eq_true (this.mpr ⟨hj, hb⟩)
      | false => exact decide_eq_false fun z => Bool.false_ne_true (hb.symm.trans (this.mp z).2)
    · rw [vx_out fun x _ => by
        show (bitsN (f x)).testBit j = false
        rw [h.bit]
        exact decide_eq_false fun z => hj (h.sub z)]
      exact decide_eq_false fun z => hj (h.sub z)
  · intro q
    rw [← q, h.row c]
    refine List.filter_congr fun j _ => ?_
    rw [← h.row c, h.bit]
def spLd (K : PySem.W.Frag) : Sp := fun vs H Q _ => ∃ (d : Addr) (mk : List Nat) (as : List Addr) (f : Nat → List Nat), vs = [.ref d] ∧ H d = some (.dK (sdK mk as)) ∧ LsA H as mk f ∧ Rws mk f ∧ mk.length ≤ 7 ∧
  ∀ (H' : Hp) (r : Addr) (ts : List Addr), Same H H' → H' r = some (.tup (refs ts)) → RsA H' ts (dueX (fun c => bitsN (f c)) mk).2 → Q (.ref r) H'
section
variable {P : Program} {w : World} {K : PySem.W.Frag} {mg : Str → Option Value} {base : Heap}
theorem ok_ld {f fB fU : Addr} {fd fdB fdU : FuncData} (F : Fun K "_law_due" "_law_due" sLd f fd) (T : TB mg) (Sb : Cal K mg "_law_subsets" fB fdB ["some"]) (GS : FnOk P w K mg base CX0 1 fB fdB ["some"] spLsb)
    (Su : Cal K mg "_law_sum" fU fdU ["square_v", "some"]) (GU : FnOk P w K mg base CX0 1 fU fdU ["square_v", "some"] (spLs K)) : FnOk P w K mg base CX0 2 f fd ["square_v"] (spLd K) := by
  refine F.ok scLd (fun vs H Q E h => ?_) (fun cdv A outer s H vs Q E hr h => ?_)
  · obtain ⟨d, mk, as, f, rfl, _⟩ := h
    rfl
  · obtain ⟨d, ms, as, f, rfl, hd, hL, hW, h7, k⟩ := h
    have nd := scLd.nd
    have hu : (A.deeper (envOfC "_law_due" (defScope sLd) s.heap.objs.size _ cdv)).units + 64 < cLine := hr.units
    have hu1 := hu_of hr
    have hr1 : Room 1 _ := hr
    refine ⟨_, C8.pss_cut (ps_par (i := 1) (j := 2) (by rfl) nd rfl rfl (by decide) rfl rfl (pa_cons (pe_lst pa_nil) (pa_cons (pe_lst pa_nil) pa_nil)) (by rfl))
      (pss_cons (ps_lock (ps_for PassesOwn.never rfl (pi_keys (pv 0)) (pg_name (i := 3) nd rfl (Or.inr rfl))
        (C8.pss_cut (ps_setLc (i := 4) (own := [("own", 5)]) (g := (gName 5)) (tt := (tTest (tOp (rEqD K) (tCall (spLs K) [] E0 (tCons (tVar 0) (tCons (tVar 5) tNil))) (tDGet (tVar 0) (tVar 3))))) (te := (tVar 5)) rfl nd rfl rfl (sw_true rfl rfl rfl (by decide +kernel)) (pi_list (pe_call GS hr1 rfl Sb.g Sb.kp Sb.b .nil pass0 (pa_cons (pv 1) pa_nil))) (blkOk_by (N := nLd) (sc := defScope sLd) (by decide +kernel)) (fun _ _ _ _ _ => pg_name (i := 5) nd rfl (Or.inl rfl)) (fun _ _ _ _ _ => pts_one (pt_cmpR (op_eqD (by exact hu)) (pe_call GU hr1 rfl Su.g Su.kp Su.b .nil pass0 (pa_cons (pv 0) (pa_cons (pv 5) pa_nil))) (pe_dget hu1 (pv 0) (pv 3) (fun _ _ => rfl)) (nomark _))) (fun _ _ _ _ _ => by exact (pv 5)))
      (pss_one (ps_if (pt_cmpR (op_eqNil (by exact hu)) (pv 4) (pe_lst pa_nil) (nomark _)) (pss_one (ps_expr (pe_bm PySem.F.plainAttrs_list PySem.F.slot_list_append PySem.F.type_list_append mt_append (pv 1) (pa_cons (pv 3) pa_nil)))) (pss_one (ps_expr (pe_bm PySem.F.plainAttrs_list PySem.F.slot_list_append PySem.F.type_list_append mt_append (pv 2) (pa_cons (pe_op op_catA (pe_ix ix_list (pv 4) pe_int (fun _ _ => rfl)) (pe_tup (pa_cons (pv 3) pa_nil))) pa_nil)))))))))
      (pss_one (ps_ret (pe_tupleOf (by rfl) T.tuple (pv 2))))), ?_⟩
    have hnd : ms.Nodup := hW.asc.imp fun {a b} h => (Nat.ne_of_lt h : a ≠ b)
    have lk : (sdK ms as).length = ms.length := by
      unfold sdK
      rw [List.length_zipWith, hL.1, Nat.min_self]
    refine ⟨fun σ H2 => ∃ fr fo : Addr, σ = [some (.ref d), some (.ref fr), some (.ref fo), none, none, none] ∧ Same H H2 ∧ H fr = none ∧ H fo = none ∧ fr ≠ fo ∧ H2 fr = some (.lst []) ∧ H2 fo = some (.lst []), ?_, ?_⟩
    · refine ⟨Nat.zero_le _, fun fr hfr => ⟨Nat.zero_le _, fun fo hfo => ⟨_, _, rfl, ?_⟩⟩⟩
      have s1 := Same.new (o := .lst []) hfr
      have s2 := Same.new (o := .lst []) hfo
      exact ⟨fr, fo, rfl, s1.trans s2, hfr, s1.free hfo, ne_of_none upd_same hfo, s2 _ _ upd_same, upd_same⟩
    · rintro σ H2 ⟨fr, fo, rfl, s2, hfr, hfo, hff, hfr2, hfo2⟩
      have hdr : fr ≠ d := fun z => by rw [z, hd] at hfr; cases hfr
      have hdo : fo ≠ d := fun z => by rw [z, hd] at hfo; cases hfo
      refine ⟨d, _, s2 _ _ hd, trivial, fun od => ?_⟩
      have hH3 : ∀ b o, b ≠ d → H2 b = some o → upd H2 d (.frz od (.dK (sdK ms as))) b = some o := fun b o hb e => by
        rw [upd_ne hb]
        exact e
      have hd3 : upd H2 d (.frz od (.dK (sdK ms as))) d = some (.frz od (.dK (sdK ms as))) := upd_same
      have hfr3 := hH3 _ _ hdr hfr2
      have hfo3 := hH3 _ _ hdo hfo2
      have hL3 : LsA (upd H2 d (.frz od (.dK (sdK ms as)))) as ms f := (hL.mono fun b xs e => s2 _ _ e).mono fun b xs e => hH3 _ _ (fun z => by rw [z, s2 _ _ hd] at e; cases e) e
      refine ⟨_, rfl, d, od, rfl, .inl ⟨_, hd3, for_it (walk_keys (d := d) (o := od) (kvs := sdK ms as)) (fun i σ H4 => ∃ (ts : List Addr) (v3 v4 : Option V), σ = [some (.ref d), some (.ref fr), some (.ref fo), v3, v4, none] ∧ (∀ b o, b ≠ fr → b ≠ fo → upd H2 d (.frz od (.dK (sdK ms as))) b = some o → H4 b = some o) ∧
          H4 fr = some (.lst (nats (dueX (fun c => bitsN (f c)) (ms.take i)).1)) ∧ H4 fo = some (.lst (refs ts)) ∧ RsA H4 ts (dueX (fun c => bitsN (f c)) (ms.take i)).2) ⟨[], none, none, rfl, fun b o _ _ e => e, hfr3, hfo3, RsA.nil _⟩ (fun i σ H4 _ ⟨_, _, _, _, s', _⟩ => s' _ _ (Ne.symm hdr) (Ne.symm hdo) hd3) ?_ ?_⟩⟩
      · rintro i x σ H4 H5 hi ⟨ts, v3, v4, rfl, s4, hfr4, hfo4, hR4⟩ ⟨rfl, kk, vv, ek, ex⟩
        rw [lk] at hi
        obtain ⟨c, hc⟩ : ∃ c, ms[i]? = some c := ⟨_, List.getElem?_eq_getElem hi⟩
        obtain ⟨a, ha⟩ : ∃ a, as[i]? = some a := ⟨_, List.getElem?_eq_getElem (by rw [hL.1]; exact hi)⟩
        have ek2 : (sdK ms as)[i]? = some (Sum.inl ((c : Nat) : Int), V.ref a) := by
          unfold sdK
          rw [List.getElem?_zipWith, hc, ha]
        rw [ek2] at ek
        cases ek
        subst ex
        have D0 := due_ok (fun c => bitsN (f c)) _ (ms.take i) rfl
        have lF : (dueX (fun c => bitsN (f c)) (ms.take i)).1.length ≤ i := by
          have := D0.sub.length_le
          rw [List.length_take] at this
          omega
        have ndF : (dueX (fun c => bitsN (f c)) (ms.take i)).1.Nodup := (hnd.sublist (List.take_sublist i ms)).sublist D0.sub
        have subF : ∀ x ∈ (dueX (fun c => bitsN (f c)) (ms.take i)).1, x ∈ ms := fun x hx => List.mem_of_mem_take (D0.sub.subset hx)
        have ed := dueX_take (fun c => bitsN (f c)) hc
        refine ⟨fun σ H6 => ∃ (so : Addr) (us : List Addr), σ = [some (.ref d), some (.ref fr), some (.ref fo), some (.int (c : Nat)), some (.ref so), none] ∧ Same H5 H6 ∧ H6 so = some (.lst (refs us)) ∧ RsA H6 us ((subsX (dueX (fun c => bitsN (f c)) (ms.take i)).1).filter fun m => decide (ms.filter (oddL f m) = f c)), ?_, ?_⟩
        · refine ⟨_, rfl, fr, _, rfl, hfr4, by omega, fun H6 r vs s6 hr6 hV => ⟨r, rfl, ⟨_, SqL.of hr6⟩, fun D hD => ?_⟩⟩
          have sD := Same.new (o := .lst []) hD
          have lV : vs.length ≤ 64 := by
            rw [hV.1, subsX_len _ _ rfl]
            exact Nat.le_trans (Nat.pow_le_pow_right (by decide) (by omega : _ ≤ 6)) (by decide)
          refine lc_it (walk_list (K := K) (a := r) (xs := refs vs)) (fun j H7 => ∃ us : List Addr, H7 D = some (.lst (refs us)) ∧ RsA H7 us (((subsX (dueX (fun c => bitsN (f c)) (ms.take i)).1).take j).filter fun m => decide (ms.filter (oddL f m) = f c)) ∧ Same H6 H7) ⟨[], upd_same, RsA.nil _, sD⟩ (fun j H7 _ ⟨_, _, _, s'⟩ => SqL.of (s' _ _ hr6)) ?_ ?_
          · rintro j v H7 H8 hj ⟨us, h7', hU, s7⟩ ⟨rfl, ex2⟩
            obtain ⟨e, he, rfl⟩ := refs_get ex2
            have lj := (List.getElem?_eq_some_iff.mp he).1
            obtain ⟨m, hm⟩ : ∃ m, (subsX (dueX (fun c => bitsN (f c)) (ms.take i)).1)[j]? = some m := ⟨_, List.getElem?_eq_getElem (by rw [← hV.1]; exact lj)⟩
            have hE := s7 _ _ (hV.2 j e m he hm)
            obtain ⟨g, hg⟩ := (mem_subs _ _ rfl ndF m).mp (List.mem_of_getElem? hm)
            have sA := s6.trans s7
            have kA : ∀ b o, b ≠ fr → b ≠ fo → upd H2 d (.frz od (.dK (sdK ms as))) b = some o → H8 b = some o := fun b o h1 h2 e => sA _ _ (s4 b o h1 h2 e)
            have hd8 := kA d _ (Ne.symm hdr) (Ne.symm hdo) hd3
            have hLx : LsA H8 as ms f := ⟨hL.1, fun j' a' c' e1 e2 => kA a' _ (fun z => by
              have := hL.2 j' a' c' e1 e2
              rw [z, hfr] at this
              cases this) (fun z => by
              have := hL.2 j' a' c' e1 e2
              rw [z, hfo] at this
              cases this) (hL3.2 j' a' c' e1 e2)⟩
            have lm : m.length ≤ 7 := by
              obtain ⟨q, hq⟩ := mem_subs_len _ _ rfl m (List.mem_of_getElem? hm)
              omega
            refine ⟨rfl, _, rfl, _, rfl, d, e, od, ms, as, f, m, rfl, hd8, hLx, hnd, by omega, hE, fun x hx => subF x (by rw [hg] at hx; exact (List.mem_filter.mp hx).1), by omega, fun H9 l s9 hl9 => ?_⟩
            have ha9 := s9 _ _ (hLx.2 i a c ha hc)
            refine ⟨_, rfl, _, rfl, d, _, rfl, .inl ⟨_, Sum.inl ((c : Nat) : Int), .inr ⟨od, s9 _ _ hd8⟩, rfl, (sdK_at hnd hc ha).symm⟩, ?_⟩
            refine ⟨.list ((ms.filter (oddL f m)).map fun x => PyData.int (x : Nat)), .list ((f c).map fun x => PyData.int (x : Nat)), .lst (SqL.of hl9) (dp_ns _), .lst (SqL.of ha9) (dp_ns _), ns_shaped _, ns_shaped _, _, rfl, ?_⟩
            rw [nsl_eqv, List.take_succ, hm, Option.toList_some, List.filter_append]
            have h9 := s9 _ _ h7'
            have U9 := hU.mono (sameT s9)
            have lu := hU.1
            have lf := List.length_filter_le (fun m => decide (ms.filter (oddL f m) = f c)) ((subsX (dueX (fun c => bitsN (f c)) (ms.take i)).1).take j)
            rw [List.length_take] at lf
            by_cases hq : ms.filter (oddL f m) = f c
            · rw [decide_eq_true hq, List.filter_cons_of_pos (p := fun m => decide (ms.filter (oddL f m) = f c)) (decide_eq_true hq), List.filter_nil]
              refine iteT ⟨_, rfl, _, h9, by rw [show (refs us).length = us.length from List.length_map _]; exact Nat.lt_of_lt_of_le (by omega : _ < 5000) (by decide), us ++ [e], ?_, ?_, fun b o eo => ?_⟩
              · rw [upd_same, refs_app]
                rfl
              · have kt : ∀ b xs, H9 b = some (.tup xs) → upd H9 D (.lst (refs us ++ [V.ref e])) b = some (.tup xs) := fun b xs z => by
                  rw [upd_ne fun q => by rw [q, h9] at z; cases z]
                  exact z
                exact (U9.mono kt).add (kt _ _ (s9 _ _ hE))
              · rw [upd_ne (ne_of_none eo hD)]
                exact s9 _ _ (s7 _ _ eo)
            · rw [decide_eq_false hq, List.filter_cons_of_neg (p := fun m => decide (ms.filter (oddL f m) = f c)) (by rw [decide_eq_false hq]; decide), List.filter_nil, List.append_nil]
              exact iteF ⟨us, h9, U9, s7.trans s9⟩
          · rintro H7 ⟨us, h7', hU, s7⟩
            rw [List.take_of_length_le (by rw [show (refs vs).length = vs.length from List.length_map _, hV.1]; exact Nat.le_refl _)] at hU
            exact ⟨D, us, rfl, s6.trans s7, h7', hU⟩
        · rintro σ H6 ⟨so, us, rfl, s6, hso, hU⟩
          refine ⟨_, rfl, Nat.zero_le _, fun z hz => ?_⟩
          have sz := Same.new (o := .lst []) hz
          have sB := s6.trans sz
          have hU7 := hU.mono (sameT sz)
          have hso7 := sz _ _ hso
          have hfr7 := sB _ _ hfr4
          have hfo7 := sB _ _ hfo4
          have hR7 := hR4.mono (sameT sB)
          have k7 : ∀ b o, b ≠ fr → b ≠ fo → upd H2 d (.frz od (.dK (sdK ms as))) b = some o → upd H6 z (.lst []) b = some o := fun b o h1 h2 e => sB _ _ (s4 b o h1 h2 e)
          refine ⟨so, z, _, rfl, rfl, SqL.of hso7, upd_same, _, rfl, ?_⟩
          generalize upd H6 z (.lst []) = H7 at hU7 hso7 hfr7 hfo7 hR7 k7
          have el : (refs us).length = us.length := List.length_map _
          rw [el]
          have lt := hR4.1
          have l2 := D0.len
          rw [List.length_take] at l2
          by_cases h0 : us.length = 0
          · rw [decide_eq_true h0]
            have no : ¬ ∃ g, bitsN (f c) = vx (fun c => bitsN (f c)) (dueX (fun c => bitsN (f c)) (ms.take i)).1 g := fun ⟨g, hg⟩ => by
              have m1 : (dueX (fun c => bitsN (f c)) (ms.take i)).1.filter g ∈ (subsX (dueX (fun c => bitsN (f c)) (ms.take i)).1).filter fun m => decide (ms.filter (oddL f m) = f c) :=
                List.mem_filter.mpr ⟨(mem_subs _ _ rfl ndF _).mpr ⟨g, rfl⟩, decide_eq_true ((sum_is hW c).mpr hg)⟩
              have := List.length_pos_of_mem m1
              rw [← hU.1] at this
              omega
            have e2 := stepX_no (fun c => bitsN (f c)) (F := (dueX (fun c => bitsN (f c)) (ms.take i)).1) (T := (dueX (fun c => bitsN (f c)) (ms.take i)).2) (c := c) no
            refine iteT ⟨_, rfl, .inl ⟨rfl, _, SqL.of hfr7⟩, _, rfl, ?_⟩
            unfold tNil
            refine ⟨fr, _, _, rfl, rfl, hfr7, by rw [show (nats _).length = _ from List.length_map _]; exact Nat.lt_of_lt_of_le (by omega : _ < 5000) (by decide), ts, _, _, rfl, fun b o h1 h2 e => ?_, ?_, ?_, ?_⟩
            · rw [upd_ne h1]
              exact k7 b o h1 h2 e
            · rw [upd_same, ed, e2, nats_app]
              rfl
            · rw [upd_ne (Ne.symm hff)]
              exact hfo7
            · rw [ed, e2]
              exact hR7.mono fun b xs e => by
                rw [upd_ne fun q => by rw [q, hfr7] at e; cases e]
                exact e
          · rw [decide_eq_false h0]
            obtain ⟨m, hm⟩ : ∃ m, ((subsX (dueX (fun c => bitsN (f c)) (ms.take i)).1).filter fun m => decide (ms.filter (oddL f m) = f c))[0]? = some m := ⟨_, List.getElem?_eq_getElem (by rw [← hU.1]; omega)⟩
            obtain ⟨e, he⟩ : ∃ e, us[0]? = some e := ⟨_, List.getElem?_eq_getElem (by omega)⟩
            have hE := hU7.2 0 e m he hm
            obtain ⟨m1, m2⟩ := List.mem_filter.mp (List.mem_of_getElem? hm)
            obtain ⟨g, hg⟩ := (mem_subs _ _ rfl ndF m).mp m1
            have hgb : bitsN (f c) = vx (fun c => bitsN (f c)) (dueX (fun c => bitsN (f c)) (ms.take i)).1 g := (sum_is hW c).mp (by rw [← hg]; exact of_decide_eq_true m2)
            have e2 := stepX_yes (fun c => bitsN (f c)) (T := (dueX (fun c => bitsN (f c)) (ms.take i)).2) (c := c) D0.ind hgb
            have lm : m.length ≤ 7 := by
              obtain ⟨q, hq⟩ := mem_subs_len _ _ rfl m m1
              omega
            refine iteF ⟨_, rfl, .inl ⟨rfl, _, SqL.of hfo7⟩, _, rfl, so, _, _, _, rfl, rfl, SqL.of hso7, ref_at he, _, rfl, by show 1 ≤ sizeLine; decide, fun y hy => ?_⟩
            have sy := Same.new (o := .tup [V.int (c : Nat)]) hy
            have h5 := upd_same (H := H7) (a := y) (o := .tup [V.int (c : Nat)])
            unfold tNil
            refine rd_catA (sy _ _ hE) h5 (Nat.le_trans (m := 100) (by
              rw [show (nats m).length = m.length from List.length_map _]
              show m.length + 1 ≤ 100
              omega) (by decide)) fun H9 q s9 hq => ?_
            have sC := sy.trans s9
            have hfo9 := sC _ _ hfo7
            have kt : ∀ b xs, H9 b = some (.tup xs) → upd H9 fo (.lst (refs ts ++ [V.ref q])) b = some (.tup xs) := fun b xs e => by
              rw [upd_ne fun q => by rw [q, hfo9] at e; cases e]
              exact e
            refine ⟨fo, _, _, rfl, rfl, hfo9, by rw [show (refs ts).length = ts.length from List.length_map _]; exact Nat.lt_of_lt_of_le (by omega : _ < 5000) (by decide), ts ++ [q], _, _, rfl, fun b o h1 h2 e => ?_, ?_, ?_, ?_⟩
            · rw [upd_ne h2]
              exact sC _ _ (k7 b o h1 h2 e)
            · rw [upd_ne hff, ed, e2]
              exact sC _ _ hfr7
            · rw [upd_same, refs_app]
              rfl
            · rw [ed, e2]
              refine ((hR7.mono (sameT sC)).mono kt).add (kt _ _ ?_)
              rw [← hg, nats_app]
              exact hq
      · rintro σ H4 ⟨ts, v3, v4, rfl, s4, hfr4, hfo4, hR4⟩
        rw [lk, List.take_length] at hR4
        refine ⟨s4 _ _ (Ne.symm hdr) (Ne.symm hdo) hd3, ?_⟩
        have hd4 := s4 _ _ (Ne.symm hdr) (Ne.symm hdo) hd3
        have sF : Same H (upd H4 d (.dK (sdK ms as))) := fun b o e => by
          by_cases hb : b = d
          · rw [hb, hd] at e
            rw [hb, upd_same]
            exact e
          · rw [upd_ne hb]
            exact s4 _ _ (ne_of_none e hfr) (ne_of_none e hfo) (hH3 _ _ hb (s2 _ _ e))
        refine ⟨_, rfl, .inl ⟨fo, _, rfl, SqL.of (by rw [upd_ne hdo]; exact hfo4), fun r hr => ?_⟩⟩
        have sr := Same.new (o := .tup (refs ts)) hr
        refine k _ r ts (sF.trans sr) upd_same ((hR4.mono fun b xs e => ?_).mono (sameT sr))
        rw [upd_ne fun q => by rw [q, hd4] at e; cases e]
        exact e
end
section
variable {P : Program} {w : World} {K : PySem.W.Frag} {mg : Str → Option Value} {base : Heap}
def spLr : Sp := fun vs H Q _ => ∃ (t u : Addr) (n : Nat) (s o : List Nat) (R : Nat → List Nat) (ws : List Nat), vs = [.ref t, .ref u] ∧ TbAt H t n s o R ∧ H u = some (.tup (nats ws)) ∧ WsN n ws ∧ (mkL n s ws).length ≤ 7 ∧
  ∀ H', Same H H' → Q (.bl true) H'
theorem rws_of {n : Nat} {s o : List Nat} {R : Nat → List Nat} {ws : List Nat} : Rws (mkL n s ws) (rowL n s o R ws) := ⟨mkL_asc n s ws, fun c => by
  have e : ∀ j ∈ mkL n s ws, (decide (j ∈ R c) || (decide (j = c) && !isOut o ws c)) = decide (j ∈ rowL n s o R ws c) := fun j hj => by
    unfold rowL
    cases q : (decide (j ∈ R c) || (decide (j = c) && !isOut o ws c)) with
    | true => exact (decide_eq_true (List.mem_filter.mpr ⟨hj, q⟩)).symm
    | false => exact (decide_eq_false fun z => Bool.false_ne_true (q.symm.trans (List.mem_filter (p := fun x => decide (x ∈ R c) || (decide (x = c) && !isOut o ws c)) |>.mp z).2)).symm
  exact List.filter_congr e⟩
theorem due_small {n : Nat} {s o : List Nat} {R : Nat → List Nat} {ws : List Nat} (hn : n ≤ 40) : ∀ (k : Nat) (mk : List Nat), mk.length = k → (∀ x ∈ mk, x < n) → mk.Nodup → ∀ l ∈ (dueX (bOf n s o R ws) mk).2, l.length ≤ 50 ∧ ∀ x ∈ l, x < 1000 := by
  intro k
  induction k with
  | zero =>
    intro mk h _ _ l hl
    obtain rfl := List.eq_nil_of_length_eq_zero h
    exact nomatch hl
  | succ k ih =>
    intro mk h hb nd l hl
    rcases List.eq_nil_or_concat mk with rfl | ⟨m, c, rfl⟩
    · cases h
    · rw [List.concat_eq_append] at h hb nd hl
      have e : dueX (bOf n s o R ws) (m ++ [c]) = stepX (bOf n s o R ws) (dueX (bOf n s o R ws) m) c := by
        unfold dueX
        rw [List.foldl_append]
        rfl
      have D := due_ok (bOf n s o R ws) m.length m rfl
      have I := ih m (by simpa using h) (fun x hx => hb x (List.mem_append_left _ hx)) (List.nodup_append.mp nd).1
      have hF : ∀ x ∈ (dueX (bOf n s o R ws) m).1, x < n := fun x hx => hb x (List.mem_append_left _ (D.sub.subset hx))
      rw [e] at hl
      by_cases hx : ∃ f, bOf n s o R ws c = vx (bOf n s o R ws) (dueX (bOf n s o R ws) m).1 f
      · obtain ⟨f, hf⟩ := hx
        have e2 := stepX_yes (bOf n s o R ws) (T := (dueX (bOf n s o R ws) m).2) D.ind hf
        rw [show dueX (bOf n s o R ws) m = ((dueX (bOf n s o R ws) m).1, (dueX (bOf n s o R ws) m).2) from rfl, e2] at hl
        rcases List.mem_append.mp hl with z | z
        · exact I l z
        · rw [List.mem_singleton.mp z]
          have nF : ((dueX (bOf n s o R ws) m).1.filter f).Nodup := ((List.nodup_append.mp nd).1.sublist D.sub).filter _
          have lF := nodup_len nF fun x hx => hF x (List.mem_filter.mp hx).1
          refine ⟨by rw [List.length_append]; show _ + 1 ≤ 50; omega, fun x hx => ?_⟩
          rcases List.mem_append.mp hx with y | y
          · have := hF x (List.mem_filter.mp y).1
            omega
          · have := hb c (List.mem_append_right _ List.mem_cons_self)
            rw [List.mem_singleton.mp y]
            omega
      · have e2 := stepX_no (bOf n s o R ws) (T := (dueX (bOf n s o R ws) m).2) hx
        rw [show dueX (bOf n s o R ws) m = ((dueX (bOf n s o R ws) m).1, (dueX (bOf n s o R ws) m).2) from rfl, e2] at hl
        exact I l hl
theorem ok_lr {f fQ fD fN fR : Addr} {fd fdQ fdD fdN fdR : FuncData} (F : Fun K "_law_right" "_law_right" sLr f fd) (T : TB mg) (Q : Cal K mg "_law_square" fQ fdQ ["table", "ways"]) (GQ : FnOk P w K mg base CX0 1 fQ fdQ ["table", "ways"] spLsq)
    (D : Cal K mg "_law_due" fD fdD ["square_v"]) (GD : FnOk P w K mg base CX0 2 fD fdD ["square_v"] (spLd K)) (No : Cal K mg "noughts" fN fdN ["table", "setting"]) (GN : FnOk P w K mg base CX0 7 fN fdN ["table", "setting"] spNo)
    (Rb : Cal K mg "rounds_by" fR fdR ["table", "setting"]) (GR : FnOk P w K mg base CX0 8 fR fdR ["table", "setting"] spRb) : FnG P w K mg base CX0 9 f fd ["table", "ways"] spLr := by
  refine okG0 F scLr (fun vs H Q E h => ?_) (fun cdv A outer s H vs Qx E hgd hr h => ?_)
  · obtain ⟨t, u, n, s, o, R, ws, rfl, _⟩ := h
    rfl
  · obtain ⟨t, u, n, st, o, R, ws, rfl, hT, hu, hW, h7, k⟩ := h
    have nd := scLr.nd
    have hu1 : (A.deeper (envOfC "_law_right" (defScope sLr) s.heap.objs.size _ cdv)).units + 64 < cLine := hr.units
    have hr1 : Room 1 _ := hr.mono (by decide)
    have hr2 : Room 2 _ := hr.mono (by decide)
    have hr7 : Room 7 _ := hr.mono (by decide)
    have rp : ∀ {X' : Cx}, X'.A = A.deeper (envOfC "_law_right" (defScope sLr) s.heap.objs.size f cdv) → CallR X' (.builtin "repr") (rRepr X'.K) := fun e => cr_repr (by rw [e]; exact hgd) (by rw [e]; exact hu1)
    have h40 := hT.tb.n2
    have sm := due_small (s := st) (o := o) (R := R) (ws := ws) h40 _ (mkL n st ws) rfl (fun x hx => (mem_mkL.mp hx).1) ((mkL_asc n st ws).imp fun {a b} h => (Nat.ne_of_lt h : a ≠ b))
    have lD : (dueX (bOf n st o R ws) (mkL n st ws)).2.length ≤ 7 := Nat.le_trans (due_ok (bOf n st o R ws) _ _ rfl).len h7
    refine ⟨_, pss_cons (ps_set (i := 2) nd rfl (Or.inl rfl) (pe_call GD hr2 rfl D.g D.kp D.b .nil pass0 (pa_cons (pe_call GQ hr1 rfl Q.g Q.kp Q.b .nil pass0 (pa_cons (pv 0) (pa_cons (pv 1) pa_nil))) pa_nil)))
      (pss_one (ps_ret (pe_and (pe_cmpR op_eq (pe_callB (rp rfl) (by rfl) T.repr boot_repr (pa_cons (pe_call GN hr7 rfl No.g No.kp No.b .nil pass0 (pa_cons (pv 0) (pa_cons (pv 1) pa_nil))) pa_nil)) (pe_callB (rp rfl) (by rfl) T.repr boot_repr (pa_cons (pv 2) pa_nil)) (nomark _)) (pe_one (pe_cmpR op_eq (pe_callB SkE.call_repr_int (by rfl) T.repr boot_repr (pa_cons (pe_call GR hr rfl Rb.g Rb.kp Rb.b .nil pass0 (pa_cons (pv 0) (pa_cons (pv 1) pa_nil))) pa_nil)) (pe_callB SkE.call_repr_int (by rfl) T.repr boot_repr (pa_cons (pe_op op_add pe_int (pe_callB call_len_seq (by rfl) T.len PySem.boot_len (pa_cons (pv 2) pa_nil))) pa_nil)) (nomark _)))))), ?_⟩
    refine ⟨_, rfl, _, rfl, t, u, n, st, o, R, ws, rfl, hT, hu, hW, fun H1 d as s1 hd hd1 hL1 => ?_⟩
    refine ⟨d, mkL n st ws, as, rowL n st o R ws, rfl, hd1, hL1, rws_of, h7, fun H2 r ts s2 hr2' hR2 => ?_⟩
    have s02 := s1.trans s2
    refine ⟨_, rfl, _, rfl, t, u, n, st, o, R, ws, rfl, hT.mono (sameT s02), s02 _ _ hu, hW, fun H3 q us s3 hq hR3 => ?_⟩
    unfold tNil
    refine repr_rsL hq hR3 sm (Nat.le_trans lD (by decide)) ?_
    refine ⟨_, rfl, ?_⟩
    refine repr_rsL (s3 _ _ hr2') (hR2.mono (sameT s3)) sm (Nat.le_trans lD (by decide)) ⟨rfl, _, rfl, ?_⟩
    have e1 : decide (V.str (rsL (dueX (bOf n st o R ws) (mkL n st ws)).2).shown = V.str (rsL (dueX (fun c => bitsN (rowL n st o R ws c)) (mkL n st ws)).2).shown) = true := decide_eq_true rfl
    rw [e1]
    have lg : (((((dueX (bOf n st o R ws) (mkL n st ws)).2.length : Nat) : Int) + 1)).natAbs.log2 < 1920 := by
      have := log_small (n := (dueX (bOf n st o R ws) (mkL n st ws)).2.length + 1) (by omega)
      rw [show (((dueX (bOf n st o R ws) (mkL n st ws)).2.length : Nat) : Int) + 1 = (((dueX (bOf n st o R ws) (mkL n st ws)).2.length + 1 : Nat) : Int) from rfl, Int.natAbs_natCast]
      exact this
    refine iteT ⟨_, rfl, _, rfl, t, u, n, st, o, R, ws, rfl, hT.mono (sameT (s02.trans s3)), (s02.trans s3) _ _ hu, hW, fun H4 s4 => ⟨_, rfl, lg, ?_⟩⟩
    have ll : (((refs ts).length : Nat) : Int) = (((dueX (bOf n st o R ws) (mkL n st ws)).2.length : Nat) : Int) := by
      rw [show (refs ts).length = ts.length from List.length_map _, hR2.1]
      rfl
    refine ⟨_, rfl, r, _, rfl, .inr (SqT.of (s4 _ _ (s3 _ _ hr2'))), _, _, rfl, rfl, ?_⟩
    rw [ll]
    refine ⟨_, rfl, ?_, rfl, ?_⟩
    · show (1 + (((dueX (bOf n st o R ws) (mkL n st ws)).2.length : Nat) : Int)).natAbs.log2 < 1920
      rw [Int.add_comm]
      exact lg
    · have e3 : decide (V.str (Str.ofString (toString ((((dueX (bOf n st o R ws) (mkL n st ws)).2.length : Nat) : Int) + 1))) = V.str (Str.ofString (toString (1 + (((dueX (bOf n st o R ws) (mkL n st ws)).2.length : Nat) : Int))))) = true := decide_eq_true (by rw [Int.add_comm])
      show Qx (.bl (decide (V.str (Str.ofString (toString ((((dueX (bOf n st o R ws) (mkL n st ws)).2.length : Nat) : Int) + 1))) = V.str (Str.ofString (toString (1 + (((dueX (bOf n st o R ws) (mkL n st ws)).2.length : Nat) : Int))))))) H4
      rw [e3]
      exact k _ ((s02.trans s3).trans s4)
end
end One
end P_WE

section P_WG
set_option linter.all false
set_option maxRecDepth 100000
set_option maxHeartbeats 16000000
namespace One
open PySem PySem.Spec PyProof.Rows L2
/-! ### lists by number, while draws go on -/
structure FSt (H0 H : Hp) (p B : Addr) (bl : List Addr) (f : Nat → List Nat) : Prop where
  ext : Ext p H0 H
  b : H B = some (.lst (refs bl))
  at_ : ∀ i a, bl[i]? = some a → H a = some (.lst (nats (f i)))
  new : ∀ a ∈ bl, H0 a = none
  nd : bl.Nodup
  nb : B ∉ bl
  bp : B ≠ p
  ap : ∀ a ∈ bl, a ≠ p
theorem FSt.keep {H0 H H' : Hp} {p B : Addr} {bl : List Addr} {f : Nat → List Nat} (s : FSt H0 H p B bl f) (k : Ext p H H') : FSt H0 H' p B bl f :=
  ⟨s.ext.trans k, k _ _ s.bp s.b, fun i a h => k _ _ (s.ap a (List.mem_of_getElem? h)) (s.at_ i a h), s.new, s.nd, s.nb, s.bp, s.ap⟩
theorem FSt.add {H0 H : Hp} {p B a : Addr} {bl : List Addr} {f : Nat → List Nat} {i x : Nat} (s : FSt H0 H p B bl f) (ha : bl[i]? = some a) : FSt H0 (upd H a (.lst (nats (f i) ++ [V.int (x : Nat)]))) p B bl (addTo f i x) := by
  have hm := List.mem_of_getElem? ha
  refine ⟨s.ext.wr (s.new a hm), by rw [upd_ne (fun z => s.nb (by rw [z]; exact hm))]; exact s.b, fun j c h => ?_, s.new, s.nd, s.nb, s.bp, s.ap⟩
  unfold addTo
  by_cases e : j = i
  · subst e
    rw [ha] at h
    cases h
    rw [if_pos rfl, upd_same, nats_app]
    rfl
  · rw [if_neg e, upd_ne (fun z => e (nd_ix s.nd h (by rw [z]; exact ha)))]
    exact s.at_ j c h
/-- rows on the way: the pairs (i', j') ahead of (i, j) are looked at -/
structure RwI (n i j : Nat) (f : Nat → List Nat) : Prop where
  asc : ∀ x, (f x).Pairwise (· < ·)
  sym : ∀ x y, y ∈ f x → x < n ∧ y < n ∧ x ≠ y ∧ x ∈ f y
  own : ∀ y ∈ f i, y < j
  aft : ∀ x, i < x → ∀ y ∈ f x, y < i ∨ (y = i ∧ x < j)
theorem asc_snoc {l : List Nat} {x : Nat} (h : l.Pairwise (· < ·)) (k : ∀ y ∈ l, y < x) : (l ++ [x]).Pairwise (· < ·) := List.pairwise_append.mpr ⟨h, List.pairwise_singleton _ _, fun a ha b hb => by
  rw [List.mem_singleton.mp hb]
  exact k a ha⟩
theorem RwI.skip {n i j : Nat} {f : Nat → List Nat} (h : RwI n i j f) : RwI n i (j + 1) f := ⟨h.asc, h.sym, fun y hy => Nat.lt_succ_of_lt (h.own y hy), fun x hx y hy => (h.aft x hx y hy).imp id fun ⟨a, b⟩ => ⟨a, Nat.lt_succ_of_lt b⟩⟩
theorem RwI.put {n i j : Nat} {f : Nat → List Nat} (h : RwI n i j f) (hij : i < j) (hj : j < n) : RwI n i (j + 1) (addTo (addTo f i j) j i) := by
  have ne : ¬ j = i := by omega
  have e1 : addTo (addTo f i j) j i i = f i ++ [j] := by
    unfold addTo
    rw [if_neg fun z => ne z.symm, if_pos rfl]
  have e2 : addTo (addTo f i j) j i j = f j ++ [i] := by
    unfold addTo
    rw [if_pos rfl, if_neg ne]
  have e3 : ∀ x, x ≠ i → x ≠ j → addTo (addTo f i j) j i x = f x := fun x h1 h2 => by
    unfold addTo
    rw [if_neg h2, if_neg h1]
  have up : ∀ x y, y ∈ f x → y ∈ addTo (addTo f i j) j i x := fun x y hy => mem_addTo.mpr (.inl (mem_addTo.mpr (.inl hy)))
  have fj : ∀ y ∈ f j, y < i := fun y hy => (h.aft j hij y hy).elim id fun ⟨_, b⟩ => absurd b (Nat.lt_irrefl _)
  refine ⟨fun x => ?_, fun x y hy => ?_, fun y hy => ?_, fun x hx y hy => ?_⟩
  · by_cases h1 : x = i
    · subst h1
      rw [e1]
      exact asc_snoc (h.asc _) h.own
    · by_cases h2 : x = j
      · subst h2
        rw [e2]
        exact asc_snoc (h.asc _) fj
      · rw [e3 x h1 h2]
        exact h.asc x
  · rcases mem_addTo.mp hy with z | ⟨rfl, rfl⟩
    · rcases mem_addTo.mp z with z | ⟨rfl, rfl⟩
      · obtain ⟨a, b, c, d⟩ := h.sym x y z
        exact ⟨a, b, c, up y x d⟩
      · exact ⟨by omega, hj, by omega, by rw [e2]; exact List.mem_append_right _ List.mem_cons_self⟩
    · exact ⟨hj, by omega, by omega, by rw [e1]; exact List.mem_append_right _ List.mem_cons_self⟩
  · rw [e1] at hy
    rcases List.mem_append.mp hy with z | z
    · exact Nat.lt_succ_of_lt (h.own y z)
    · rw [List.mem_singleton.mp z]
      exact Nat.lt_succ_self _
  · by_cases h2 : x = j
    · subst h2
      rw [e2] at hy
      rcases List.mem_append.mp hy with z | z
      · exact .inl (fj y z)
      · exact .inr ⟨List.mem_singleton.mp z, Nat.lt_succ_self _⟩
    · rw [e3 x (by omega) h2] at hy
      exact (h.aft x hx y hy).imp id fun ⟨a, b⟩ => ⟨a, Nat.lt_succ_of_lt b⟩
theorem RwI.next {n i : Nat} {f : Nat → List Nat} (h : RwI n i n f) : RwI n (i + 1) (i + 2) f := ⟨h.asc, h.sym, fun y hy => by
  rcases h.aft (i + 1) (Nat.lt_succ_self _) y hy with z | ⟨z, _⟩ <;> omega, fun x hx y hy => .inl (by
  rcases h.aft x (by omega) y hy with z | ⟨z, _⟩ <;> omega)⟩
abbrev sFo : Stmt := top 27
abbrev sOt : Stmt := top 28
abbrev nFo : List Str := ["m", "most", "many", "share", "ways", "outers", "rows", "one", "other", "crossing", "way", "some"]
abbrev nOt : List Str := ["m", "table", "ways", "share", "crossing", "outer"]
theorem scFo : FnScope nFo ["m", "most"] (defScope sFo) := ⟨rfl, rfl, rfl, by decide +kernel, rfl, by decide +kernel, by decide +kernel⟩
theorem scOt : FnScope nOt ["m", "table"] (defScope sOt) := ⟨rfl, rfl, rfl, by decide +kernel, rfl, by decide +kernel, by decide +kernel⟩
def spFo (K : PySem.W.Frag) : Sp := fun vs H Q _ => ∃ (p a : Addr) (n0 m : Nat), vs = [.ref p, .int (m : Nat)] ∧ MT K H p a n0 ∧ n0 + 2000 ≤ 1000000 ∧ 1 ≤ m ∧ m ≤ 40 ∧
  ∀ (H' : Hp) (t : Addr) (n : Nat) (s o : List Nat) (R : Nat → List Nat), TbAt H' t n s o R → MT K H' p a (n0 + 2000) → Ext p H H' → Q (.ref t) H'
section
variable {P : Program} {w : World} {K : PySem.W.Frag} {mg : Str → Option Value} {base : Heap}
theorem ok_fo {f fN fO : Addr} {fd fdN fdO : FuncData} (F : Fun K "_law_form" "_law_form" sFo f fd) (T : TB mg) (N : Cal K mg "_law_next" fN fdN ["m", "total"]) (GN : FnOk P w K mg base CX0 1 fN fdN ["m", "total"] (spNext K))
    (O : Cal K mg "_law_of" fO fdO ["m", "some"]) (GO : FnOk P w K mg base CX0 2 fO fdO ["m", "some"] (spOf K)) : FnOk P w K mg base CX0 3 f fd ["m", "most"] (spFo K) := by
  refine F.ok scFo (fun vs H Q E h => ?_) (fun cdv A outer s H vs Q E hr h => ?_)
  · obtain ⟨p, a, n0, m, rfl, _⟩ := h
    rfl
  · obtain ⟨p, a, n0, m, rfl, M, hn, hm1, hm2, k⟩ := h
    have nd := scFo.nd
    have hr1 : Room 1 _ := hr.mono (by decide)
    have hr2 : Room 2 _ := hr
    refine ⟨_, C8.pss_cut (ps_par (i := 2) (j := 3) (by rfl) nd rfl rfl (by decide) rfl rfl (pa_cons (pe_op op_add pe_int (pe_call GN hr1 rfl N.g N.kp N.b .nil pass0 (pa_cons (pv 0) (pa_cons (pv 1) pa_nil)))) (pa_cons (pe_call GO hr2 rfl O.g O.kp O.b .nil pass0 (pa_cons (pv 0) (pa_cons (pe_lst (pa_cons pe_int (pa_cons pe_int (pa_cons pe_int (pa_cons pe_int pa_nil))))) pa_nil))) pa_nil)) (by rfl))
      (C8.pss_cut (ps_set (i := 4) nd rfl (Or.inl rfl) (pe_tupleOf (by rfl) T.tuple (pe_lc (own := [("crossing", 9)]) (g := (gName 9)) (tt := tYes) (te := (tCall (spNext K) [] E0 (tCons (tVar 0) (tCons (tC (.int 3)) tNil)))) rfl nd (pi_range1 (by rfl) T.range (pa_cons (pv 2) pa_nil)) (blkOk_by (N := nFo) (sc := defScope sFo) (by decide +kernel)) (fun _ _ _ _ _ => pg_name (i := 9) nd rfl (Or.inl rfl)) (fun _ _ _ _ _ => pts_nil) (fun _ _ _ _ _ => by exact (pe_call GN hr1 rfl N.g N.kp N.b .nil pass0 (pa_cons (pv 0) (pa_cons pe_int pa_nil)))))))
      (C8.pss_cut (ps_set (i := 5) nd rfl (Or.inl rfl) (pe_tupleOf (by rfl) T.tuple (pe_lc (own := [("way", 10)]) (g := (gName 10)) (tt := tYes) (te := (tOp (rI (fun _ j => 0 < j) fun i j => .int (i % j)) (tOp (rI0 fun i j => .int (i + j)) (tOp (rI0 fun i j => .int (i + j)) (tVar 10) (tC (.int 1))) (tCall (spNext K) [] E0 (tCons (tVar 0) (tCons (tC (.int 2)) tNil)))) (tC (.int 3)))) rfl nd (pi_tup (pv 4)) (blkOk_by (N := nFo) (sc := defScope sFo) (by decide +kernel)) (fun _ _ _ _ _ => pg_name (i := 10) nd rfl (Or.inl rfl)) (fun _ _ _ _ _ => pts_nil) (fun _ _ _ _ _ => by exact (pe_op op_mod (pe_op op_add (pe_op op_add (pv 10) pe_int) (pe_call GN hr1 rfl N.g N.kp N.b .nil pass0 (pa_cons (pv 0) (pa_cons pe_int pa_nil)))) pe_int)))))
      (C8.pss_cut (ps_setLc (i := 6) (own := [("crossing", 9)]) (g := (gName 9)) (tt := tYes) (te := (tLst tNil)) rfl nd rfl rfl (sw_true rfl rfl rfl (by decide +kernel)) (pi_range1 (by rfl) T.range (pa_cons (pv 2) pa_nil)) (blkOk_by (N := nFo) (sc := defScope sFo) (by decide +kernel)) (fun _ _ _ _ _ => pg_name (i := 9) nd rfl (Or.inl rfl)) (fun _ _ _ _ _ => pts_nil) (fun _ _ _ _ _ => by exact (pe_lst pa_nil)))
      (C8.pss_cut (ps_for PassesOwn.never rfl (pi_range1 (by rfl) T.range (pa_cons (pv 2) pa_nil)) (pg_name (i := 7) nd rfl (Or.inl rfl))
        (pss_one (ps_for PassesOwn.never rfl (pi_range2 (by rfl) T.range (pa_cons (pe_op op_add (pv 7) pe_int) (pa_cons (pv 2) pa_nil))) (pg_name (i := 8) nd rfl (Or.inl rfl))
        (pss_one (ps_if (pt_mid (pt_cmpR op_eq (pe_call GN hr1 rfl N.g N.kp N.b .nil pass0 (pa_cons (pv 0) (pa_cons (pv 3) pa_nil))) pe_int (nomark _))) (pss_cons (ps_expr (pe_bm PySem.F.plainAttrs_list PySem.F.slot_list_append PySem.F.type_list_append mt_append (pe_ix ix_list (pv 6) (pv 7) (fun _ _ => rfl)) (pa_cons (pv 8) pa_nil)))
      (pss_one (ps_expr (pe_bm PySem.F.plainAttrs_list PySem.F.slot_list_append PySem.F.type_list_append mt_append (pe_ix ix_list (pv 6) (pv 8) (fun _ _ => rfl)) (pa_cons (pv 7) pa_nil))))) pss_nil)))))
      (pss_one (ps_ret (pe_tup (pa_cons (pv 4) (pa_cons (pv 5) (pa_cons (pe_tupleOf (by rfl) T.tuple (pe_lc (own := [("some", 11)]) (g := (gName 11)) (tt := tYes) (te := (tThen (tVar 11) (kTup K))) rfl nd (pi_list (pv 6)) (blkOk_by (N := nFo) (sc := defScope sFo) (by decide +kernel)) (fun _ _ _ _ _ => pg_name (i := 11) nd rfl (Or.inl rfl)) (fun _ _ _ _ _ => pts_nil) (fun _ _ _ _ _ => by exact (pe_tupleOf (by rfl) T.tuple (pv 11))))) pa_nil)))))))))), ?_⟩
    refine ⟨fun σ H1 => ∃ (n : Nat) (sh : Int), σ = [some (.ref p), some (.int (m : Nat)), some (.int (n : Nat)), some (.int sh), none, none, none, none, none, none, none, none] ∧ 1 ≤ n ∧ n ≤ 40 ∧ 1 ≤ sh ∧ sh ≤ 8 ∧ MT K H1 p a (n0 + 2) ∧ Ext p H H1, ?_, ?_⟩
    · refine ⟨_, rfl, _, rfl, p, a, n0, _, rfl, M, by omega, by omega, by omega, fun H1 r M1 e1 r0 r1 => ⟨_, _, rfl, rfl, ?_⟩⟩
      refine ⟨_, rfl, by show 4 ≤ sizeLine; decide, fun l hl => ?_⟩
      have sl := Same.new (o := .lst [V.int 2, V.int 2, V.int 3, V.int 8]) hl
      refine ⟨p, a, l, n0 + 1, _, rfl, M1.keep sl, by omega, SqL.of upd_same, by decide, by decide, fun H2 i v M2 e2 hv => ⟨_, _, rfl, ?_⟩⟩
      have hvs : ∃ sh : Int, v = V.int sh ∧ 1 ≤ sh ∧ sh ≤ 8 := by
        match i, hv with
        | 0, h => exact ⟨2, (Option.some.inj h).symm, by decide, by decide⟩
        | 1, h => exact ⟨2, (Option.some.inj h).symm, by decide, by decide⟩
        | 2, h => exact ⟨3, (Option.some.inj h).symm, by decide, by decide⟩
        | 3, h => exact ⟨8, (Option.some.inj h).symm, by decide, by decide⟩
        | i + 4, h => cases h
      obtain ⟨sh, rfl, s1, s2⟩ := hvs
      refine ⟨(1 + r).toNat, sh, ?_, by omega, by omega, s1, s2, M2, (e1.trans (Ext.same sl)).trans e2⟩
      have : (((1 + r).toNat : Nat) : Int) = 1 + r := by omega
      rw [this]
      rfl
    · rintro σ H1 ⟨n, sh, rfl, n1, n2, sh1, sh2, M1, e1⟩
      refine ⟨fun σ H2 => ∃ (u : Addr) (ws : List Nat), σ = [some (.ref p), some (.int (m : Nat)), some (.int (n : Nat)), some (.int sh), some (.ref u), none, none, none, none, none, none, none] ∧ H2 u = some (.tup (nats ws)) ∧ WsN n ws ∧ MT K H2 p a (n0 + 2 + n) ∧ Ext p H H2, ?_, ?_⟩
      · refine ⟨_, rfl, n, rfl, by omega, by omega, fun D hD => ?_⟩
        rw [show ((n : Nat) : Int).toNat = n by omega]
        have sD := Same.new (o := .lst []) hD
        refine lc_it (walk_range (lo := 0) (n := n)) (fun i H6 => ∃ ws : List Nat, H6 D = some (.lst (nats ws)) ∧ WsN i ws ∧ MT K H6 p a (n0 + 2 + i) ∧ Ext p H1 H6) ⟨[], upd_same, ⟨rfl, fun x h => nomatch h⟩, M1.keep sD, Ext.same sD⟩ (fun i H6 _ _ => trivial) ?_ ?_
        · rintro i v H6 H7 hi ⟨ws, h6, hW, M6, e6⟩ ⟨rfl, rfl⟩
          refine ⟨rfl, yes ⟨_, rfl, p, a, _, _, rfl, M6, by omega, by decide, by decide, fun H8 r M8 e8 r0 r1 => ?_⟩⟩
          have h8 := e8 _ _ (M6.dict.neL h6) h6
          have er : r = ((r.toNat : Nat) : Int) := by omega
          refine ⟨_, h8, by rw [show (nats ws).length = ws.length from List.length_map _, hW.len]; exact Nat.lt_of_lt_of_le (by omega : _ < 5000) (by decide), ws ++ [r.toNat], ?_, ⟨by rw [List.length_append, hW.len]; rfl, fun x hx => ?_⟩, MT.wrN M1 hD (e6.trans e8) M8 h8, (e6.trans e8).wr hD⟩
          · rw [upd_same, nats_app]
            conv => lhs; rw [er]
            rfl
          · rcases List.mem_append.mp hx with z | z
            · exact hW.lt x z
            · rw [List.mem_singleton.mp z]
              omega
        · rintro H6 ⟨ws, h6, hW, M6, e6⟩
          refine .inl ⟨D, _, rfl, SqL.of h6, fun u hu => ?_⟩
          have su := Same.new (o := .tup (nats ws)) hu
          exact ⟨u, ws, rfl, upd_same, hW, M6.keep su, (e1.trans e6).trans (Ext.same su)⟩
      · rintro σ H2 ⟨u, ws, rfl, hu, hW, M2, e2⟩
        refine ⟨fun σ H3 => ∃ (v : Addr) (os : List Nat), σ = [some (.ref p), some (.int (m : Nat)), some (.int (n : Nat)), some (.int sh), some (.ref u), some (.ref v), none, none, none, none, none, none] ∧ H3 u = some (.tup (nats ws)) ∧ H3 v = some (.tup (nats os)) ∧ WsN n os ∧ (∀ (i x y : Nat), ws[i]? = some x → os[i]? = some y → x ≠ y) ∧ MT K H3 p a (n0 + 2 + 2 * n) ∧ Ext p H H3, ?_, ?_⟩
        · refine ⟨_, rfl, u, rfl, ⟨_, SqT.of hu⟩, fun D hD => ?_⟩
          have sD := Same.new (o := .lst []) hD
          have ku : ∀ {H6 : Hp}, Ext p H2 H6 → H6 u = some (.tup (nats ws)) := fun e => tupD M2.dict e _ _ hu
          refine lc_it (walk_tup (K := K) (a := u) (xs := nats ws)) (fun i H6 => ∃ os : List Nat, H6 D = some (.lst (nats os)) ∧ WsN i os ∧ (∀ (j x y : Nat), ws[j]? = some x → os[j]? = some y → x ≠ y) ∧ MT K H6 p a (n0 + 2 + n + i) ∧ Ext p H2 H6) ⟨[], upd_same, ⟨rfl, fun x h => nomatch h⟩, fun j x y _ h => by simp at h, M2.keep sD, Ext.same sD⟩ (fun i H6 _ ⟨_, _, _, _, _, e'⟩ => SqT.of (ku e')) ?_ ?_
          · rintro i v H6 H7 hi ⟨os, h6, hO, hne, M6, e6⟩ ⟨rfl, ex⟩
            obtain ⟨x, hx, rfl⟩ := nats_get ex
            have hin : i < n := by rw [← hW.len]; exact (List.getElem?_eq_some_iff.mp hx).1
            have x3 := hW.lt x (List.mem_of_getElem? hx)
            refine ⟨rfl, yes ⟨_, rfl, _, _, rfl, rfl, _, rfl, p, a, _, _, rfl, M6, by omega, by decide, by decide, fun H8 r M8 e8 r0 r1 => ⟨_, _, rfl, rfl, _, _, rfl, rfl, (by show (0 : Int) < 3; decide), ?_⟩⟩⟩
            have h8 := e8 _ _ (M6.dict.neL h6) h6
            have ew : (((x : Nat) : Int) + 1 + r) % 3 = (((x + 1 + r.toNat) % 3 : Nat) : Int) := by omega
            refine ⟨_, h8, by rw [show (nats os).length = os.length from List.length_map _, hO.len]; exact Nat.lt_of_lt_of_le (by omega : _ < 5000) (by decide), os ++ [(x + 1 + r.toNat) % 3], ?_, ⟨by rw [List.length_append, hO.len]; rfl, fun y hy => ?_⟩, fun j x' y' h1 h2 => ?_, MT.wrN M2 hD (e6.trans e8) M8 h8, (e6.trans e8).wr hD⟩
            · rw [upd_same, nats_app]
              exact congrArg (fun z => some (HO.lst (nats os ++ [V.int z]))) ew
            · rcases List.mem_append.mp hy with z | z
              · exact hO.lt y z
              · rw [List.mem_singleton.mp z]
                omega
            · rcases Nat.lt_or_ge j os.length with q | q
              · rw [List.getElem?_append_left q] at h2
                exact hne j x' y' h1 h2
              · rw [List.getElem?_append_right q] at h2
                cases hj : j - os.length with
                | zero =>
                  rw [hj] at h2
                  have ej : j = i := by
                    have := hO.len
                    omega
                  rw [ej, hx] at h1
                  cases h1
                  have := Option.some.inj h2
                  omega
                | succ z =>
                  rw [hj] at h2
                  simp at h2
          · rintro H6 ⟨os, h6, hO, hne, M6, e6⟩
            have el : (nats ws).length = n := (List.length_map _).trans hW.len
            rw [el] at hO M6
            refine .inl ⟨D, _, rfl, SqL.of h6, fun v hv => ?_⟩
            have sv := Same.new (o := .tup (nats os)) hv
            exact ⟨v, os, rfl, sv _ _ (ku e6), upd_same, hO, hne, (M6.keep sv).lt (by omega) (by omega), (e2.trans e6).trans (Ext.same sv)⟩
        · rintro σ H3 ⟨v, os, rfl, hu3, hv3, hO, hne, M3, e3⟩
          refine ⟨fun σ H4 => ∃ (B : Addr) (bl : List Addr), σ = [some (.ref p), some (.int (m : Nat)), some (.int (n : Nat)), some (.int sh), some (.ref u), some (.ref v), some (.ref B), none, none, none, none, none] ∧ bl.length = n ∧ FSt H3 H4 p B bl (fun _ => []) ∧ MT K H4 p a (n0 + 2 + 2 * n), ?_, ?_⟩
          · refine ⟨_, rfl, n, rfl, by omega, by omega, fun D hD => ?_⟩
            rw [show ((n : Nat) : Int).toNat = n by omega]
            have sD := Same.new (o := .lst []) hD
            obtain ⟨kv3, hp3⟩ := M3.dict
            have hDp : D ≠ p := fun z => by rw [z, hp3] at hD; cases hD
            refine lc_it (walk_range (lo := 0) (n := n)) (fun i H6 => ∃ bl : List Addr, bl.length = i ∧ H6 D = some (.lst (refs bl)) ∧ (∀ a ∈ bl, H6 a = some (.lst []) ∧ H3 a = none ∧ a ≠ D) ∧ bl.Nodup ∧ Same H3 H6) ⟨[], rfl, upd_same, (fun a h => nomatch h), List.nodup_nil, sD⟩ (fun i H6 _ _ => trivial) ?_ ?_
            · rintro i v H6 H7 hi ⟨bl, lb, h6, hb, ndb, s6⟩ ⟨rfl, rfl⟩
              refine ⟨rfl, yes ⟨Nat.zero_le _, fun q hq => ?_⟩⟩
              have sq := Same.new (o := .lst []) hq
              have h7 := sq _ _ h6
              have hqD : D ≠ q := ne_of_none h6 hq
              have hqb : q ∉ bl := fun z => by
                have := (hb q z).1
                rw [hq] at this
                cases this
              refine ⟨_, h7, by rw [show (refs bl).length = bl.length from List.length_map _]; exact Nat.lt_of_lt_of_le (by omega : _ < 5000) (by decide), bl ++ [q], by rw [List.length_append, lb]; rfl, ?_, fun b hb' => ?_, nodup_app ndb hqb, fun b o e => ?_⟩
              · rw [upd_same, refs_app]
                rfl
              · rcases List.mem_append.mp hb' with z | z
                · obtain ⟨g1, g2, g3⟩ := hb b z
                  exact ⟨by rw [upd_ne g3]; exact sq _ _ g1, g2, g3⟩
                · rw [List.mem_singleton.mp z]
                  exact ⟨by rw [upd_ne (Ne.symm hqD)]; exact upd_same, s6.free hq, Ne.symm hqD⟩
              · rw [upd_ne (ne_of_none e hD)]
                exact sq _ _ (s6 _ _ e)
            · rintro H6 ⟨bl, lb, h6, hb, ndb, s6⟩
              refine ⟨D, bl, rfl, lb, ⟨Ext.same s6, h6, fun i b hb' => (hb b (List.mem_of_getElem? hb')).1, fun b hb' => (hb b hb').2.1, ndb, fun z => (hb D z).2.2 rfl, hDp, fun b hb' z => ?_⟩, M3.keep s6⟩
              have := (hb b hb').2.1
              rw [z, hp3] at this
              cases this
          · rintro σ H4 ⟨B, bl, rfl, lb, F4, M4⟩
            refine ⟨fun σ H5 => ∃ (v7 v8 : Option V) (f : Nat → List Nat), σ = [some (.ref p), some (.int (m : Nat)), some (.int (n : Nat)), some (.int sh), some (.ref u), some (.ref v), some (.ref B), v7, v8, none, none, none] ∧ FSt H3 H5 p B bl f ∧ RwI n n (n + 1) f ∧ MT K H5 p a (n0 + 2000), ?_, ?_⟩
            · refine ⟨_, rfl, n, rfl, by omega, by omega, ?_⟩
              rw [show ((n : Nat) : Int).toNat = n by omega]
              refine for_range (lo := 0) (n := n) (fun i σ H5 => ∃ (v7 v8 : Option V) (f : Nat → List Nat), σ = [some (.ref p), some (.int (m : Nat)), some (.int (n : Nat)), some (.int sh), some (.ref u), some (.ref v), some (.ref B), v7, v8, none, none, none] ∧ FSt H3 H5 p B bl f ∧ RwI n i (i + 1) f ∧ MT K H5 p a (n0 + 100 + i * 40)) ⟨_, _, _, rfl, F4, ⟨(fun x => List.Pairwise.nil), (fun x y h => nomatch h), (fun y h => nomatch h), (fun x _ y h => nomatch h)⟩, M4.lt (by omega) (by omega)⟩ ?_ ?_
              · rintro i σ H5 hi ⟨v7, v8, f, rfl, F5, I5, M5⟩
                rw [Int.zero_add]
                refine ⟨_, rfl, _, _, rfl, rfl, _, rfl, _, _, rfl, by omega, ?_⟩
                rw [show (((n : Nat) : Int) - (((i : Nat) : Int) + 1)).toNat = n - (i + 1) by omega]
                refine for_range (lo := ((i : Nat) : Int) + 1) (n := n - (i + 1)) (fun q σ H6 => ∃ (v8 : Option V) (f : Nat → List Nat), σ = [some (.ref p), some (.int (m : Nat)), some (.int (n : Nat)), some (.int sh), some (.ref u), some (.ref v), some (.ref B), some (.int (i : Nat)), v8, none, none, none] ∧ FSt H3 H6 p B bl f ∧ RwI n i (i + 1 + q) f ∧ MT K H6 p a (n0 + 100 + i * 40 + q)) ⟨_, f, rfl, F5, I5, M5⟩ ?_ ?_
                · rintro q σ H6 hq ⟨v8, f, rfl, F6, I6, M6⟩
                  show gName 8 (V.int ((i + 1 + q : Nat) : Int)) _ _ _
                  refine ⟨fun b H7 => FSt H3 H7 p B bl f ∧ MT K H7 p a (n0 + 100 + i * 40 + q + 1), ?_, ?_⟩
                  · exact ⟨_, rfl, _, rfl, p, a, _, _, rfl, M6, by omega, by omega, by omega, fun H7 r M7 e7 r0 r1 => ⟨rfl, _, rfl, F6.keep e7, M7⟩⟩
                  · rintro b H7 ⟨F7, M7⟩
                    cases b with
                    | false => exact ⟨_, f, rfl, F7, I6.skip, M7⟩
                    | true =>
                      obtain ⟨ai, hai⟩ : ∃ x, bl[i]? = some x := ⟨_, List.getElem?_eq_getElem (by omega)⟩
                      obtain ⟨aj, haj⟩ : ∃ x, bl[i + 1 + q]? = some x := ⟨_, List.getElem?_eq_getElem (by omega)⟩
                      have hL := F7.at_ i ai hai
                      have li := asc_len (I6.asc i) fun x hx => (I6.sym i x hx).2.1
                      have lj := asc_len (I6.asc (i + 1 + q)) fun x hx => (I6.sym _ x hx).2.1
                      have F8 := F7.add (x := i + 1 + q) hai
                      have M8 := MT.wrN (o := .lst (nats (f i) ++ [V.int ((i + 1 + q : Nat) : Int)])) M3 (F7.new ai (List.mem_of_getElem? hai)) F7.ext M7 hL
                      refine ⟨_, rfl, _, rfl, B, refs bl, _, _, rfl, rfl, SqL.of F7.b, ref_at hai, .inl ⟨rfl, _, SqL.of hL⟩, _, rfl, ?_⟩
                      unfold tNil
                      refine ⟨ai, _, _, rfl, rfl, hL, by rw [show (nats (f i)).length = (f i).length from List.length_map _]; exact Nat.lt_of_lt_of_le (by omega : _ < 5000) (by decide), ?_⟩
                      have hL2 := F8.at_ (i + 1 + q) aj haj
                      have ef : addTo f i (i + 1 + q) (i + 1 + q) = f (i + 1 + q) := by
                        unfold addTo
                        rw [if_neg (by omega)]
                      rw [ef] at hL2
                      have F9 := F8.add (x := i) haj
                      have M9 := MT.wrN (o := .lst (nats (addTo f i (i + 1 + q) (i + 1 + q)) ++ [V.int ((i : Nat) : Int)])) M3 (F8.new aj (List.mem_of_getElem? haj)) F8.ext M8 hL2
                      rw [ef] at F9 M9
                      refine ⟨_, rfl, _, rfl, B, refs bl, _, _, rfl, rfl, SqL.of F8.b, ref_at haj, .inl ⟨rfl, _, SqL.of hL2⟩, _, rfl, ?_⟩
                      refine ⟨aj, _, _, rfl, rfl, hL2, by rw [show (nats (f (i + 1 + q))).length = (f (i + 1 + q)).length from List.length_map _]; exact Nat.lt_of_lt_of_le (by omega : _ < 5000) (by decide), ?_⟩
                      exact ⟨_, _, rfl, F9, I6.put (by omega) (by omega), M9⟩
                · rintro σ H6 ⟨v8, f, rfl, F6, I6, M6⟩
                  have ei : i + 1 + (n - (i + 1)) = n := by omega
                  rw [ei] at I6
                  exact ⟨_, v8, f, rfl, F6, I6.next, M6.lt (by omega) (by omega)⟩
              · rintro σ H5 ⟨v7, v8, f, rfl, F5, I5, M5⟩
                have I5 : RwI n n (n + 1) f := I5
                exact ⟨v7, v8, f, rfl, F5, I5, M5.lt (by omega) (by omega)⟩
            · rintro σ H5 ⟨v7, v8, f, rfl, F5, I5, M5⟩
              have hu5 := tupD M3.dict F5.ext _ _ hu3
              have hv5 := tupD M3.dict F5.ext _ _ hv3
              refine ⟨_, rfl, _, rfl, _, rfl, B, rfl, ⟨_, SqL.of F5.b⟩, fun D hD => ?_⟩
              have sD := Same.new (o := .lst []) hD
              refine lc_it (walk_list (K := K) (a := B) (xs := refs bl)) (fun i H6 => ∃ rs : List Addr, H6 D = some (.lst (refs rs)) ∧ RsA H6 rs ((List.range i).map f) ∧ Same H5 H6) ⟨[], upd_same, RsA.nil _, sD⟩ (fun i H6 _ ⟨_, _, _, s'⟩ => SqL.of (s' _ _ F5.b)) ?_ ?_
              · rintro i x H6 H7 hi ⟨rs, h6, hR, s6⟩ ⟨rfl, ex⟩
                obtain ⟨b, hb, rfl⟩ := refs_get ex
                have hin : i < n := by rw [← lb]; exact (List.getElem?_eq_some_iff.mp hb).1
                have hB := s6 _ _ (F5.at_ i b hb)
                have lr := hR.1
                rw [List.length_map, List.length_range] at lr
                refine ⟨rfl, yes ⟨_, rfl, .inl ⟨b, _, rfl, SqL.of hB, fun q hq => ?_⟩⟩⟩
                have sq := Same.new (o := .tup (nats (f i))) hq
                have h7 := sq _ _ h6
                have kt : ∀ c xs, upd H7 q (.tup (nats (f i))) c = some (.tup xs) → upd (upd H7 q (.tup (nats (f i)))) D (.lst (refs rs ++ [V.ref q])) c = some (.tup xs) := fun c xs e => by
                  rw [upd_ne fun z => by rw [z, h7] at e; cases e]
                  exact e
                refine ⟨_, h7, by rw [show (refs rs).length = rs.length from List.length_map _]; exact Nat.lt_of_lt_of_le (by omega : _ < 5000) (by decide), rs ++ [q], ?_, ?_, fun b o e => ?_⟩
                · rw [upd_same, refs_app]
                  rfl
                · rw [List.range_succ, List.map_append]
                  exact ((hR.mono (sameT sq)).mono kt).add (kt _ _ upd_same)
                · rw [upd_ne (ne_of_none e hD)]
                  exact sq _ _ (s6 _ _ e)
              · rintro H6 ⟨rs, h6, hR, s6⟩
                rw [show (refs bl).length = n from (List.length_map _).trans lb] at hR
                have lr := hR.1
                rw [List.length_map, List.length_range] at lr
                refine .inl ⟨D, _, rfl, SqL.of h6, fun c hc => ?_⟩
                have sc := Same.new (o := .tup (refs rs)) hc
                unfold tNil
                refine ⟨by show 3 ≤ sizeLine; decide, fun t ht => ?_⟩
                have st := Same.new (o := .tup [V.ref u, V.ref v, V.ref c]) ht
                have sA := (s6.trans sc).trans st
                refine k _ t n ws os f ⟨⟨n1, n2, hW.len, hO.len, hW.lt, hO.lt, hne, fun i _ => I5.asc i, fun i _ x hx => ⟨(I5.sym i x hx).2.1, (I5.sym i x hx).2.2.1, (I5.sym i x hx).2.2.2⟩⟩, u, v, c, rs, upd_same, sA _ _ hu5, sA _ _ hv5, st _ _ upd_same, lr, fun i r hr => ?_⟩ (M5.keep sA) ((e3.trans F5.ext).trans (Ext.same sA))
                refine st _ _ (sc _ _ (hR.2 i r (f i) hr ?_))
                have hin : i < n := by rw [← lr]; exact (List.getElem?_eq_some_iff.mp hr).1
                rw [List.getElem?_map, List.getElem?_range hin]
                rfl
end
end One
end P_WG

section P_WH
set_option linter.all false
set_option maxRecDepth 100000
set_option maxHeartbeats 16000000
namespace One
open PySem PySem.Spec PyProof.Rows L2
def spOt (K : PySem.W.Frag) : Sp := fun vs H Q _ => ∃ (p a t : Addr) (n0 n : Nat) (s o : List Nat) (R : Nat → List Nat), vs = [.ref p, .ref t] ∧ TbAt H t n s o R ∧ MT K H p a n0 ∧ n0 + 100 ≤ 1000000 ∧
  ∀ (H' : Hp) (u : Addr) (ws : List Nat), H' u = some (.tup (nats ws)) → WsN n ws → (mkL n s ws).length ≤ 7 → MT K H' p a (n0 + 100) → Ext p H H' → Q (.ref u) H'
section
variable {P : Program} {w : World} {K : PySem.W.Frag} {mg : Str → Option Value} {base : Heap}
theorem ok_ot {f fN fO fT : Addr} {fd fdN fdO fdT : FuncData} (F : Fun K "_law_other" "_law_other" sOt f fd) (T : TB mg) (N : Cal K mg "_law_next" fN fdN ["m", "total"]) (GN : FnOk P w K mg base CX0 1 fN fdN ["m", "total"] (spNext K))
    (O : Cal K mg "_law_of" fO fdO ["m", "some"]) (GO : FnOk P w K mg base CX0 2 fO fdO ["m", "some"] (spOf K)) (Tu : Cal K mg "_law_turned_about" fT fdT ["m", "some"]) (GT : FnOk P w K mg base CX0 2 fT fdT ["m", "some"] (spTurned K)) : FnOk P w K mg base CX0 3 f fd ["m", "table"] (spOt K) := by
  refine F.ok scOt (fun vs H Q E h => ?_) (fun cdv A outer s H vs Q E hr h => ?_)
  · obtain ⟨p, a, t, n0, n, s, o, R, rfl, _⟩ := h
    rfl
  · obtain ⟨p, a, t, n0, n, st, o, R, rfl, hT, M, hn, k⟩ := h
    have nd := scOt.nd
    have hr1 : Room 1 _ := hr.mono (by decide)
    have hr2 : Room 2 _ := hr
    obtain ⟨a0, b0, c0, rs, h1, h2, h3, h4, h5, h6⟩ := hT.ex
    have Tb := hT.tb
    have h40 := Tb.n2
    refine ⟨_, C8.pss_cut (ps_par (i := 2) (j := 3) (by rfl) nd rfl rfl (by decide) rfl rfl (pa_cons (pe_callTy call_list_of (by rfl) T.list (by decide +kernel) (pa_cons (pe_ix ix_tup (pv 1) pe_int (fun _ _ => rfl)) pa_nil) (by decide)) (pa_cons (pe_call GO hr2 rfl O.g O.kp O.b .nil pass0 (pa_cons (pv 0) (pa_cons (pe_lst (pa_cons pe_int (pa_cons pe_int (pa_cons pe_int (pa_cons pe_int pa_nil))))) pa_nil))) pa_nil)) (by rfl))
      (pss_cons (ps_for PassesOwn.never rfl (pi_list (pe_slice sl_list (pe_call GT hr2 rfl Tu.g Tu.kp Tu.b .nil pass0 (pa_cons (pv 0) (pa_cons (pe_listRg (by rfl) (by rfl) T.list (prg_1 (by rfl) T.range (pe_callB call_len_seq (by rfl) T.len PySem.boot_len (pa_cons (pv 2) pa_nil)))) pa_nil))) po_none (po_some (pe_call GN hr1 rfl N.g N.kp N.b .nil pass0 (pa_cons (pv 0) (pa_cons pe_int pa_nil)))))) (pg_name (i := 4) nd rfl (Or.inl rfl))
        (pss_cons (ps_set (i := 5) nd rfl (Or.inl rfl) (pe_ix ix_tup (pe_ix ix_tup (pv 1) pe_int (fun _ _ => rfl)) (pv 4) (fun _ _ => rfl)))
      (pss_one (ps_asg (pe_ifExp (pt_mid (pt_cmpR op_gt (pe_call GN hr1 rfl N.g N.kp N.b .nil pass0 (pa_cons (pv 0) (pa_cons (pv 3) pa_nil))) pe_int (nomark _))) (pv 5) (pe_op op_sub (pe_op op_sub pe_int (pe_ix ix_tup (pe_ix ix_tup (pv 1) pe_int (fun _ _ => rfl)) (pv 4) (fun _ _ => rfl))) (pv 5))) (pg_sub (pv 2) (pv 4) set_list)))))
      (pss_one (ps_ret (pe_tupleOf (by rfl) T.tuple (pv 2))))), ?_⟩
    refine ⟨fun σ H1 => ∃ (L : Addr) (sh : Int), σ = [some (.ref p), some (.ref t), some (.ref L), some (.int sh), none, none] ∧ 1 ≤ sh ∧ sh ≤ 9 ∧ H1 L = some (.lst (nats st)) ∧ H L = none ∧ MT K H1 p a (n0 + 1) ∧ Ext p H H1, ?_, ?_⟩
    · refine ⟨_, rfl, t, _, _, _, rfl, rfl, SqT.of h1, rfl, ?_⟩
      unfold tNil
      refine ⟨a0, _, rfl, .inr (SqT.of h2), fun L hL => ⟨_, rfl, by show 4 ≤ sizeLine; decide, fun l hl => ?_⟩⟩
      have sL := Same.new (o := .lst (nats st)) hL
      have sl := Same.new (o := .lst [V.int 2, V.int 2, V.int 3, V.int 9]) hl
      have M0 := (M.keep sL).keep sl
      obtain ⟨kv0, hp0⟩ := M0.dict
      have hLl := sl _ _ (upd_same (H := H) (a := L) (o := .lst (nats st)))
      refine ⟨p, a, l, n0, _, rfl, M0, by omega, SqL.of upd_same, by decide, by decide, fun H2 i v M2 e2 hv => ⟨_, _, rfl, ?_⟩⟩
      have hvs : ∃ sh : Int, v = V.int sh ∧ 1 ≤ sh ∧ sh ≤ 9 := by
        match i, hv with
        | 0, h => exact ⟨2, (Option.some.inj h).symm, by decide, by decide⟩
        | 1, h => exact ⟨2, (Option.some.inj h).symm, by decide, by decide⟩
        | 2, h => exact ⟨3, (Option.some.inj h).symm, by decide, by decide⟩
        | 3, h => exact ⟨9, (Option.some.inj h).symm, by decide, by decide⟩
        | i + 4, h => cases h
      obtain ⟨sh, rfl, s1, s2⟩ := hvs
      exact ⟨L, sh, rfl, s1, s2, e2 _ _ (M0.dict.neL hLl) hLl, hL, M2, (Ext.same (sL.trans sl)).trans e2⟩
    · rintro σ H1 ⟨L, sh, rfl, sh1, sh2, hL, hL0, M1, e1⟩
      have hLp : L ≠ p := M1.dict.neL hL
      have ln : (nats st).length = n := (List.length_map _).trans Tb.ls
      have keepT : ∀ {H' : Hp}, Ext p H H' → TbAt H' t n st o R := fun e => hT.mono (tupD M.dict e)
      refine ⟨_, rfl, _, rfl, L, _, rfl, .inl (SqL.of hL), ?_⟩
      rw [ln]
      refine ⟨_, rfl, ⟨by omega, by omega⟩, fun q hq => ?_⟩
      rw [nats_range]
      have sq := Same.new (o := .lst (nats (List.range n))) hq
      unfold tNil
      refine ⟨p, a, q, n0 + 1, List.range n, rfl, M1.keep sq, SqL.of upd_same, by rw [List.length_range]; omega, by rw [List.length_range]; omega, fun H2 b ms M2 e2 hb0 hb hp => ?_⟩
      rw [List.length_range] at M2
      have e12 : Ext p H1 H2 := (Ext.same sq).trans e2
      refine ⟨_, rfl, p, a, _, _, rfl, M2, by omega, by decide, by decide, fun H3 r M3 e3 r0 r1 => ⟨_, rfl, ?_⟩⟩
      have hb3 := e3 _ _ (M2.dict.neL hb) hb
      have lms : (nats ms).length = n := (List.length_map _).trans (by rw [hp.length_eq, List.length_range])
      refine ⟨b, _, rfl, SqL.of hb3, fun l hl => ?_⟩
      have sl := Same.new (o := .lst (cutV (nats ms) none (some r))) hl
      have ecut : ∃ j : Nat, j ≤ 7 ∧ cutV (nats ms) none (some r) = nats (ms.take j) := by
        unfold cutV
        rw [HT.sIx_none, show r = ((r.toNat : Nat) : Int) by omega, HT.sIx_nat, List.drop_zero, Nat.sub_zero]
        exact ⟨min r.toNat (nats ms).length, by omega, (List.map_take ..).symm⟩
      obtain ⟨j, hj, ec⟩ := ecut
      rw [ec] at sl ⊢
      have M4 := M3.keep sl
      have e14 : Ext p H1 (upd H3 l (.lst (nats (ms.take j)))) := (e12.trans e3).trans (Ext.same sl)
      have hL4 := e14 _ _ hLp hL
      have hl4 : upd H3 l (.lst (nats (ms.take j))) l = some (.lst (nats (ms.take j))) := upd_same
      have hlp : l ≠ p := M4.dict.neL hl4
      have hlL : l ≠ L := fun z => by
        rw [z] at hl
        rw [e3 _ _ hLp (e12 _ _ hLp hL)] at hl
        cases hl
      have lmj : (ms.take j).length ≤ 7 := by rw [List.length_take]; omega
      generalize upd H3 l (.lst (nats (ms.take j))) = H4 at M4 e14 hL4 hl4
      refine ⟨l, rfl, ⟨_, SqL.of hl4⟩, for_it (walk_list (K := K) (a := l) (xs := nats (ms.take j))) (fun i σ H5 => ∃ (W : List Nat) (v4 v5 : Option V), σ = [some (.ref p), some (.ref t), some (.ref L), some (.int sh), v4, v5] ∧ H5 L = some (.lst (nats W)) ∧ H5 l = some (.lst (nats (ms.take j))) ∧ WsN n W ∧ (∀ x, x < n → W.getD x 0 ≠ st.getD x 0 → x ∈ (ms.take j).take i) ∧ MT K H5 p a (n0 + 50 + i) ∧ Ext p H H5)
        ⟨st, none, none, rfl, hL4, hl4, ⟨Tb.ls, Tb.s3⟩, fun x _ z => absurd rfl z, M4.lt (by omega) (by omega), e1.trans e14⟩ (fun i σ H5 _ ⟨_, _, _, _, _, s', _⟩ => SqL.of s') ?_ ?_⟩
      · rintro i x σ H5 H6 hi ⟨W, v4, v5, rfl, hL5, hl5, hW, hD, M5, e5⟩ ⟨rfl, ex⟩
        obtain ⟨c, hc, rfl⟩ := nats_get ex
        have hcn : c < n := List.mem_range.mp (hp.mem_iff.mp (List.mem_of_mem_take (List.mem_of_getElem? hc)))
        obtain ⟨sc, hsc⟩ : ∃ y, st[c]? = some y := ⟨_, List.getElem?_eq_getElem (by rw [Tb.ls]; exact hcn)⟩
        obtain ⟨oc, hoc⟩ : ∃ y, o[c]? = some y := ⟨_, List.getElem?_eq_getElem (by rw [Tb.lo]; exact hcn)⟩
        have li : i < 7 := by
          have := (List.getElem?_eq_some_iff.mp hc).1
          omega
        have s3 := Tb.s3 sc (List.mem_of_getElem? hsc)
        have o3 := Tb.o3 oc (List.mem_of_getElem? hoc)
        have hne := Tb.ne c sc oc hsc hoc
        have kt := tupD M.dict e5
        refine ⟨_, rfl, t, _, _, _, rfl, rfl, SqT.of (kt _ _ h1), rfl, _, rfl, b0, _, _, _, rfl, rfl, SqT.of (kt _ _ h3), nat_ix hoc, ?_⟩
        have done : ∀ (H7 : Hp) (v : Nat), v < 3 → H7 L = some (.lst (nats W)) → H7 l = some (.lst (nats (ms.take j))) → MT K H7 p a (n0 + 50 + i + 1) → Ext p H H7 → ∃ (W' : List Nat) (v4 v5 : Option V), [some (V.ref p), some (.ref t), some (.ref L), some (.int sh), some (.int (c : Nat)), some (.int (oc : Nat))] = [some (V.ref p), some (.ref t), some (.ref L), some (.int sh), v4, v5] ∧ upd H7 L (.lst ((nats W).set c (V.int (v : Nat)))) L = some (.lst (nats W')) ∧ upd H7 L (.lst ((nats W).set c (V.int (v : Nat)))) l = some (.lst (nats (ms.take j))) ∧ WsN n W' ∧
            (∀ x, x < n → W'.getD x 0 ≠ st.getD x 0 → x ∈ (ms.take j).take (i + 1)) ∧ MT K (upd H7 L (.lst ((nats W).set c (V.int (v : Nat))))) p a (n0 + 50 + (i + 1)) ∧ Ext p H (upd H7 L (.lst ((nats W).set c (V.int (v : Nat))))) := by
          intro H7 v hv hL7 hl7 M7 e7
          refine ⟨W.set c v, _, _, rfl, ?_, ?_, ⟨by rw [List.length_set]; exact hW.len, fun x hx => ?_⟩, fun x hx hz => ?_, MT.wrN M hL0 e7 M7 hL7, e7.wr hL0⟩
          · rw [upd_same]
            exact congrArg (fun z => some (HO.lst z)) (List.map_set ..).symm
          · rw [upd_ne hlL]
            exact hl7
          · rcases List.mem_or_eq_of_mem_set hx with z | z
            · exact hW.lt x z
            · omega
          · rw [List.take_succ, hc, Option.toList_some]
            by_cases hxc : x = c
            · exact List.mem_append_right _ (by rw [hxc]; exact List.mem_cons_self)
            · refine List.mem_append_left _ (hD x hx ?_)
              rw [List.getD_eq_getElem?_getD, List.getElem?_set_ne (fun z => hxc z.symm)] at hz
              rw [List.getD_eq_getElem?_getD]
              exact hz
        have hcW : c < (nats W).length := by
          rw [show (nats W).length = W.length from List.length_map _, hW.len]
          exact hcn
        refine ⟨fun b H7 => H7 L = some (.lst (nats W)) ∧ H7 l = some (.lst (nats (ms.take j))) ∧ MT K H7 p a (n0 + 50 + i + 1) ∧ Ext p H H7, ?_, ?_⟩
        · refine ⟨_, rfl, _, rfl, p, a, _, _, rfl, M5, by omega, by omega, by omega, fun H7 r M7 e7 r0 r1 => ?_⟩
          exact ⟨_, _, rfl, rfl, _, rfl, e7 _ _ hLp hL5, e7 _ _ hlp hl5, M7, e5.trans e7⟩
        · rintro b H7 ⟨hL7, hl7, M7, e7⟩
          cases b with
          | true =>
            exact iteT ⟨_, rfl, _, rfl, _, rfl, L, _, _, c, rfl, rfl, hL7, ix_nat hcW, done H7 oc o3 hL7 hl7 M7 e7⟩
          | false =>
            have kt7 := tupD M.dict e7
            have ev : (3 : Int) - (sc : Int) - (oc : Int) = ((3 - sc - oc : Nat) : Int) := by omega
            have d := done H7 (3 - sc - oc) (by omega) hL7 hl7 M7 e7
            rw [← ev] at d
            exact iteF ⟨_, rfl, t, _, _, _, rfl, rfl, SqT.of (kt7 _ _ h1), rfl, _, rfl, a0, _, _, _, rfl, rfl, SqT.of (kt7 _ _ h2), nat_ix hsc, _, _, rfl, rfl, _, rfl, _, _, rfl, rfl, _, rfl, _, rfl, L, _, _, c, rfl, rfl, hL7, ix_nat hcW, d⟩
      · rintro σ H5 ⟨W, v4, v5, rfl, hL5, hl5, hW, hD, M5, e5⟩
        refine ⟨_, rfl, .inl ⟨L, _, rfl, SqL.of hL5, fun u hu => ?_⟩⟩
        have su := Same.new (o := .tup (nats W)) hu
        refine k _ u W upd_same hW ?_ ((M5.keep su).lt (by rw [show (nats (ms.take j)).length = (ms.take j).length from List.length_map _]; omega) (by omega)) (e5.trans (Ext.same su))
        refine Nat.le_trans (nd_le ((mkL_asc n st W).imp fun {a b} h => (Nat.ne_of_lt h : a ≠ b)) fun x hx => ?_) lmj
        obtain ⟨x1, x2⟩ := mem_mkL.mp hx
        exact List.mem_of_mem_take (hD x x1 (of_decide_eq_true x2))
end
end One
end P_WH

section P_WI
set_option linter.all false
set_option maxRecDepth 100000
set_option maxHeartbeats 16000000
namespace One
open PySem PySem.Spec PyProof.Rows L2
/-! ### a table as data -/
def tbD (n : Nat) (s o : List Nat) (R : Nat → List Nat) : PyData := .tuple [nsD s, nsD o, rsL ((List.range n).map R)]
theorem dp_tb {K : PySem.W.Frag} {H : Hp} {t : Addr} {n : Nat} {s o : List Nat} {R : Nat → List Nat} (h : TbAt H t n s o R) : Dp K H (.ref t) (tbD n s o R) := by
  obtain ⟨a, b, c, rs, h1, h2, h3, h4, h5, h6⟩ := h.ex
  refine .tup (SqT.of h1) (.cons (dp_nsD h2) (.cons (dp_nsD h3) (.cons (.tup (SqT.of h4) (dp_rsL ⟨by rw [List.length_map, List.length_range]; exact h5, fun j r l e1 e2 => ?_⟩)) .nil)))
  rw [List.getElem?_map] at e2
  cases e : (List.range n)[j]? with
  | none =>
    rw [e] at e2
    cases e2
  | some x =>
    rw [e] at e2
    obtain ⟨hj, ex⟩ := List.getElem?_eq_some_iff.mp e
    rw [List.getElem_range] at ex
    have : l = R x := (Option.some.inj e2).symm
    rw [this, ← ex]
    exact h6 j r e1
theorem repr_tb {K : PySem.W.Frag} {H : Hp} {t : Addr} {n : Nat} {s o : List Nat} {R : Nat → List Nat} {Q : VK} (h : TbAt H t n s o R) (q : Q (.str (tbD n s o R).shown) H) : rRepr K [.ref t] H Q := by
  have Tb := h.tb
  have h40 := Tb.n2
  have hL : ∀ l ∈ (List.range n).map R, l.length ≤ 50 ∧ ∀ x ∈ l, x < 1000 := fun l hl => by
    obtain ⟨i, hi, rfl⟩ := List.mem_map.mp hl
    have hi := List.mem_range.mp hi
    have := asc_len (Tb.asc i hi) fun x hx => (Tb.sub i hi x hx).1
    exact ⟨by omega, fun x hx => by
      have := (Tb.sub i hi x hx).1
      omega⟩
  obtain ⟨h1, h2, h3, h4, h5⟩ := rsL_all _ hL
  obtain ⟨a1, a2, a3, a4, a5⟩ := ns_all s fun x hx => Nat.lt_trans (Tb.s3 x hx) (by decide)
  obtain ⟨b1, b2, b3, b4, b5⟩ := ns_all o fun x hx => Nat.lt_trans (Tb.o3 x hx) (by decide)
  rw [List.length_map, List.length_range] at h5
  rw [Tb.ls] at a5
  rw [Tb.lo] at b5
  have c1 : (tbD n s o R).showable = true := by
    show (PyData.showableAll _ && (PyData.showableAll _ && (PyData.showableAll _ && true))) = true
    rw [a1, b1, h1]; rfl
  have c2 : (tbD n s o R).hasDict = false := by
    show (PyData.hasDictAll _ || (PyData.hasDictAll _ || (PyData.hasDictAll _ || false))) = false
    rw [a2, b2, h2]; rfl
  have c3 : (tbD n s o R).depth ≤ 16 := by
    show max (PyData.depthAll _ + 1) (max (PyData.depthAll _ + 1) (max (PyData.depthAll _ + 1) 0)) + 1 ≤ 16
    omega
  have c4 : PyData.leavesShort 8 (tbD n s o R) = true := by
    show (PyData.leavesShortAll 8 _ && (PyData.leavesShortAll 8 _ && (PyData.leavesShortAll 8 _ && true))) = true
    rw [a4, b4, h4]; rfl
  have c5 : (tbD n s o R).bulk ≤ 3000 := by
    show PyData.bulkAll _ + 1 + (PyData.bulkAll _ + 1 + (PyData.bulkAll _ + 1 + 0)) ≤ 3000
    omega
  refine ⟨t, tbD n s o R, rfl, dp_tb h, c1, c2, c3, ?_, q⟩
  have q := PyData.shown_le_bulk 8 (Nat.le_refl _) (tbD n s o R) c4
  have : (300000 : Nat) ≤ sizeLine := by decide
  omega
/-- a table and ways that differ from its own at up to seven -/
def Gd (H : Hp) (q : Addr) : Prop := ∃ (t u : Addr) (n : Nat) (s o : List Nat) (R : Nat → List Nat) (ws : List Nat), H q = some (.tup [.ref t, .ref u]) ∧ TbAt H t n s o R ∧ H u = some (.tup (nats ws)) ∧ WsN n ws ∧ (mkL n s ws).length ≤ 7
theorem Gd.mono {H H' : Hp} {q : Addr} (h : Gd H q) (k : ∀ b xs, H b = some (.tup xs) → H' b = some (.tup xs)) : Gd H' q := by
  obtain ⟨t, u, n, s, o, R, ws, h1, h2, h3, h4, h5⟩ := h
  exact ⟨t, u, n, s, o, R, ws, k _ _ h1, h2.mono k, k _ _ h3, h4, h5⟩
def Eld (H : Hp) (e : Addr) : Prop := ∃ qs : List Addr, H e = some (.lst (refs qs)) ∧ qs.length ≤ 1 ∧ ∀ q ∈ qs, Gd H q
theorem Eld.ext {K : PySem.W.Frag} {H H' : Hp} {e p a : Addr} {n : Nat} (h : Eld H e) (M : MT K H p a n) (k : Ext p H H') : Eld H' e := by
  obtain ⟨qs, h1, h2, h3⟩ := h
  exact ⟨qs, k _ _ (M.dict.neL h1) h1, h2, fun q hq => (h3 q hq).mono (tupD M.dict k)⟩
theorem Eld.same {H H' : Hp} {e : Addr} (h : Eld H e) (k : Same H H') : Eld H' e := by
  obtain ⟨qs, h1, h2, h3⟩ := h
  exact ⟨qs, k _ _ h1, h2, fun q hq => (h3 q hq).mono (sameT k)⟩
theorem ne_self (x : Str) : (!decide (V.str x = V.str x)) = false := by
  rw [decide_eq_true rfl]
  rfl
abbrev sLaw : Stmt := top 34
abbrev nLaw : List Str := ["script", "m", "elder", "turn", "table", "kept", "ways", "some", "other"]
theorem scLaw : FnScope nLaw ["script"] (defScope sLaw) := ⟨rfl, rfl, rfl, by decide +kernel, rfl, by decide +kernel, by decide +kernel⟩
def spLaw (K : PySem.W.Frag) : Sp := fun vs H Q _ => ∃ (a : Addr) (ns : List Int), vs = [.ref a] ∧ SqL K H a (ns.map V.int) ∧ ns.length ≤ 63 ∧ ∀ H', Q (.bl true) H'
section
variable {P : Program} {w : World} {K : PySem.W.Frag} {mg : Str → Option Value} {base : Heap}
theorem ok_law {f fB fF fO fN fR : Addr} {fd dB dF dO dN dR : FuncData} (F : Fun K "law" "law" sLaw f fd) (T : TB mg) (cB : Cal K mg "_law_begun" fB dB ["script"]) (gB : FnOk P w K mg base CX0 1 fB dB ["script"] (spBegun K))
    (cF : Cal K mg "_law_form" fF dF ["m", "most"]) (gF : FnOk P w K mg base CX0 3 fF dF ["m", "most"] (spFo K)) (cO : Cal K mg "_law_other" fO dO ["m", "table"]) (gO : FnOk P w K mg base CX0 3 fO dO ["m", "table"] (spOt K))
    (cN : Cal K mg "need_table" fN dN ["thing"]) (gN : FnOk P w K mg base CX0 6 fN dN ["thing"] spNt) (cR : Cal K mg "_law_right" fR dR ["table", "ways"]) (gR : FnG P w K mg base CX0 9 fR dR ["table", "ways"] spLr) :
    FnG P w K mg base CX0 11 f fd ["script"] (spLaw K) := by
  refine okG0 F scLaw (fun vs H Q E h => ?_) (fun cdv A outer s H vs Q E hgd hr h => ?_)
  · obtain ⟨a, ns, rfl, _⟩ := h
    rfl
  · obtain ⟨a, ns, rfl, hS, hl, k⟩ := h
    have nd := scLaw.nd
    have hu : (A.deeper (envOfC "law" (defScope sLaw) s.heap.objs.size f cdv)).units + 64 < cLine := hr.units
    have rm : ∀ {j : Nat}, j ≤ 10 → Room j (A.deeper (envOfC "law" (defScope sLaw) s.heap.objs.size f cdv)) := fun h => hr.mono h
    have rp : ∀ {X' : Cx}, X'.A = A.deeper (envOfC "law" (defScope sLaw) s.heap.objs.size f cdv) → CallR X' (.builtin "repr") (rRepr X'.K) := fun e => cr_repr (by rw [e]; exact hgd) (by rw [e]; exact hu)
    refine ⟨_, C8.pss_cut (ps_set (i := 1) nd rfl (Or.inl rfl) (pe_call gB (rm (by decide)) rfl cB.g cB.kp cB.b .nil pass0 (pa_cons (pv 0) pa_nil)))
      (C8.pss_cut (ps_set (i := 2) nd rfl (Or.inl rfl) (pe_lst pa_nil))
      (pss_cons (ps_for PassesOwn.never rfl (pi_range1 (by rfl) T.range (pa_cons pe_int pa_nil)) (pg_name (i := 3) nd rfl (Or.inl rfl))
        (C8.pss_cut (ps_set (i := 4) nd rfl (Or.inl rfl) (pe_call gF (rm (by decide)) rfl cF.g cF.kp cF.b .nil pass0 (pa_cons (pv 1) (pa_cons (pe_ix ix_list (pe_lst (pa_cons pe_int (pa_cons pe_int (pa_cons pe_int (pa_cons pe_int pa_nil))))) (pe_op op_mod (pv 3) pe_int) (fun _ _ => rfl)) pa_nil))))
      (C8.pss_cut (ps_set (i := 5) nd rfl (Or.inl rfl) (pe_callB (rp rfl) (by rfl) T.repr boot_repr (pa_cons (pv 4) pa_nil)))
      (C8.pss_cut (ps_if (pt_cmpR op_ne (pe_callB (rp rfl) (by rfl) T.repr boot_repr (pa_cons (pe_call gN (rm (by decide)) rfl cN.g cN.kp cN.b .nil pass0 (pa_cons (pv 4) pa_nil)) pa_nil)) (pv 5) (nomark _)) (pss_one (ps_ret pe_bl)) pss_nil)
      (C8.pss_cut (ps_for PassesOwn.never rfl (pi_list (pe_lst (pa_cons (pe_call gO (rm (by decide)) rfl cO.g cO.kp cO.b .nil pass0 (pa_cons (pv 1) (pa_cons (pv 4) pa_nil))) (pa_cons (pe_call gO (rm (by decide)) rfl cO.g cO.kp cO.b .nil pass0 (pa_cons (pv 1) (pa_cons (pv 4) pa_nil))) pa_nil)))) (pg_name (i := 6) nd rfl (Or.inl rfl))
        (C8.pss_cut (ps_for PassesOwn.never rfl (pi_list (pe_op op_catS (pe_op op_catS (pe_lst (pa_cons (pe_tup (pa_cons (pv 4) (pa_cons (pv 6) pa_nil))) pa_nil)) (pv 2)) (pe_lst (pa_cons (pe_tup (pa_cons (pv 4) (pa_cons (pv 6) pa_nil))) pa_nil)))) (pg_tup rfl (pgs_cons (pg_name (i := 7) nd rfl (Or.inl rfl)) (pgs_cons (pg_name (i := 8) nd rfl (Or.inl rfl)) pgs_nil)))
        (pss_one (ps_if (pt_not (pt_val (pe_callG gR (by exact hgd) (rm (by decide)) rfl cR.g cR.kp cR.b .nil pass0 (pa_cons (pv 7) (pa_cons (pv 8) pa_nil))))) (pss_one (ps_ret pe_bl)) pss_nil)))
      (pss_one (ps_set (i := 2) nd rfl (Or.inl rfl) (pe_lst (pa_cons (pe_tup (pa_cons (pv 4) (pa_cons (pv 6) pa_nil))) pa_nil))))))
      (pss_one (ps_if (pt_cmpR op_ne (pe_callB (rp rfl) (by rfl) T.repr boot_repr (pa_cons (pv 4) pa_nil)) (pv 5) (nomark _)) (pss_one (ps_ret pe_bl)) pss_nil)))))))
      (pss_one (ps_ret pe_bl)))), ?_⟩
    refine ⟨fun σ H1 => ∃ p : Addr, σ = [some (.ref a), some (.ref p), none, none, none, none, none, none, none] ∧ MT K H1 p a 0, ?_, ?_⟩
    · exact ⟨_, rfl, a, ns, rfl, hS, hl, fun H1 p s1 hp M1 => ⟨p, rfl, M1⟩⟩
    · rintro σ H1 ⟨p, rfl, M1⟩
      refine ⟨fun σ H2 => ∃ e : Addr, σ = [some (.ref a), some (.ref p), some (.ref e), none, none, none, none, none, none] ∧ MT K H2 p a 0 ∧ Eld H2 e, ?_, ?_⟩
      · exact ⟨Nat.zero_le _, fun e he => ⟨e, rfl, M1.keep (Same.new he), [], upd_same, Nat.zero_le _, fun q hq => nomatch hq⟩⟩
      · rintro σ H2 ⟨e, rfl, M2, E2⟩
        refine ⟨14, rfl, by decide, by decide, ?_⟩
        refine for_range (lo := 0) (n := (14 : Int).toNat) (fun i σ H3 => ∃ (e : Addr) (v3 v4 v5 v6 v7 v8 : Option V), σ = [some (.ref a), some (.ref p), some (.ref e), v3, v4, v5, v6, v7, v8] ∧ MT K H3 p a (i * 2500) ∧ Eld H3 e) ⟨e, _, _, _, _, _, _, rfl, M2.lt (by omega) (by omega), E2⟩ ?_ ?_
        · rintro i σ H3 hi ⟨e, v3, v4, v5, v6, v7, v8, rfl, M3, E3⟩
          have hi : i < 14 := hi
          rw [Int.zero_add]
          refine ⟨fun σ H4 => ∃ (t : Addr) (n : Nat) (s o : List Nat) (R : Nat → List Nat), σ = [some (.ref a), some (.ref p), some (.ref e), some (.int (i : Nat)), some (.ref t), v5, v6, v7, v8] ∧ TbAt H4 t n s o R ∧ MT K H4 p a (i * 2500 + 2000) ∧ Eld H4 e, ?_, ?_⟩
          · refine ⟨_, rfl, by show 4 ≤ sizeLine; decide, fun l hl => ?_⟩
            have sl := Same.new (o := .lst [V.int 7, V.int 40, V.int 7, V.int 12]) hl
            refine ⟨_, rfl, _, _, rfl, rfl, (by show (0 : Int) < 4; decide), ?_⟩
            have hm : ∃ m : Nat, atI [V.int 7, V.int 40, V.int 7, V.int 12] (((i : Nat) : Int) % 4) = some (V.int (m : Nat)) ∧ 1 ≤ m ∧ m ≤ 40 := by
              have : i % 4 = 0 ∨ i % 4 = 1 ∨ i % 4 = 2 ∨ i % 4 = 3 := by omega
              rcases this with h | h | h | h
              · exact ⟨7, by rw [show ((i : Nat) : Int) % 4 = 0 by omega]; rfl, by decide, by decide⟩
              · exact ⟨40, by rw [show ((i : Nat) : Int) % 4 = 1 by omega]; rfl, by decide, by decide⟩
              · exact ⟨7, by rw [show ((i : Nat) : Int) % 4 = 2 by omega]; rfl, by decide, by decide⟩
              · exact ⟨12, by rw [show ((i : Nat) : Int) % 4 = 3 by omega]; rfl, by decide, by decide⟩
            obtain ⟨m, hm1, hm2, hm3⟩ := hm
            refine ⟨l, _, _, _, rfl, rfl, SqL.of upd_same, hm1, ?_⟩
            exact ⟨p, a, i * 2500, m, rfl, M3.keep sl, by omega, hm2, hm3, fun H4 t n s o R hT M4 e4 => ⟨t, n, s, o, R, rfl, hT, M4, (E3.same sl).ext (M3.keep sl) e4⟩⟩
          · rintro σ H4 ⟨t, n, st, o, R, rfl, hT, M4, E4⟩
            refine ⟨fun σ H5 => σ = [some (.ref a), some (.ref p), some (.ref e), some (.int (i : Nat)), some (.ref t), some (.str (tbD n st o R).shown), v6, v7, v8] ∧ H5 = H4, ?_, ?_⟩
            · refine ⟨_, rfl, ?_⟩
              unfold tNil
              refine repr_tb hT ?_
              exact ⟨rfl, rfl⟩
            · rintro σ H5 ⟨rfl, rfl⟩
              refine ⟨fun σ H6 => σ = [some (.ref a), some (.ref p), some (.ref e), some (.int (i : Nat)), some (.ref t), some (.str (tbD n st o R).shown), v6, v7, v8] ∧ Same H5 H6, ?_, ?_⟩
              · refine ⟨_, rfl, t, n, st, o, R, rfl, hT, fun H6 s6 => ?_⟩
                unfold tNil
                refine repr_tb (hT.mono (sameT s6)) ?_
                refine ⟨_, rfl, rfl, _, rfl, ?_⟩
                rw [ne_self]
                exact iteF ⟨rfl, s6⟩
              · rintro σ H6 ⟨rfl, s6⟩
                have hT6 := hT.mono (sameT s6)
                have M6 := M4.keep s6
                have E6 := E4.same s6
                refine ⟨fun σ H7 => ∃ (e : Addr) (v6 v7 v8 : Option V), σ = [some (.ref a), some (.ref p), some (.ref e), some (.int (i : Nat)), some (.ref t), some (.str (tbD n st o R).shown), v6, v7, v8] ∧ TbAt H7 t n st o R ∧ MT K H7 p a (i * 2500 + 2500) ∧ Eld H7 e, ?_, ?_⟩
                · refine ⟨_, rfl, _, rfl, p, a, t, _, n, st, o, R, rfl, hT6, M6, by omega, fun H7 u1 w1 hu1 hw1 hm1 M7 e7 => ?_⟩
                  have hT7 := hT6.mono (tupD M6.dict e7)
                  refine ⟨_, rfl, _, rfl, p, a, t, _, n, st, o, R, rfl, hT7, M7, by omega, fun H8 u2 w2 hu2 hw2 hm2 M8 e8 => ?_⟩
                  have hT8 := hT7.mono (tupD M7.dict e8)
                  have hu18 := tupD M7.dict e8 _ _ hu1
                  have E8 := (E6.ext M6 e7).ext M7 e8
                  refine ⟨by show 2 ≤ sizeLine; decide, fun l hl => ?_⟩
                  have sl := Same.new (o := .lst [V.ref u1, V.ref u2]) hl
                  have M9 := (M8.keep sl).lt (k := i * 2500 + 2500) (by omega) (by omega)
                  have E9 := E8.same sl
                  have hT9 := hT8.mono (sameT sl)
                  have hu9 := sl _ _ hu18
                  have hv9 := sl _ _ hu2
                  have hl9 : upd H8 l (.lst [V.ref u1, V.ref u2]) l = some (.lst (refs [u1, u2])) := upd_same
                  generalize upd H8 l (.lst [V.ref u1, V.ref u2]) = H9 at M9 E9 hT9 hu9 hv9 hl9
                  refine ⟨l, rfl, ⟨_, SqL.of hl9⟩, for_it (walk_list (K := K) (a := l) (xs := refs [u1, u2])) (fun j σ H10 => ∃ (e : Addr) (v6 v7 v8 : Option V), σ = [some (.ref a), some (.ref p), some (.ref e), some (.int (i : Nat)), some (.ref t), some (.str (tbD n st o R).shown), v6, v7, v8] ∧ Same H9 H10 ∧ Eld H10 e) ⟨e, _, _, _, rfl, Same.refl _, E9⟩ (fun j σ H10 _ ⟨_, _, _, _, _, s', _⟩ => SqL.of (s' _ _ hl9)) ?_ ?_⟩
                  · rintro j x σ H10 H11 hj ⟨e, v6, v7, v8, rfl, s10, E10⟩ ⟨rfl, ex⟩
                    obtain ⟨u, ws, rfl, hu, hw, hm⟩ : ∃ (u : Addr) (ws : List Nat), x = V.ref u ∧ H11 u = some (.tup (nats ws)) ∧ WsN n ws ∧ (mkL n st ws).length ≤ 7 := by
                      match j, ex with
                      | 0, ex => exact ⟨u1, w1, (Option.some.inj ex).symm, s10 _ _ hu9, hw1, hm1⟩
                      | 1, ex => exact ⟨u2, w2, (Option.some.inj ex).symm, s10 _ _ hv9, hw2, hm2⟩
                      | j + 2, ex => cases ex
                    have hT10 := hT9.mono (sameT s10)
                    refine ⟨fun σ H12 => ∃ (v7 v8 : Option V), σ = [some (.ref a), some (.ref p), some (.ref e), some (.int (i : Nat)), some (.ref t), some (.str (tbD n st o R).shown), some (.ref u), v7, v8] ∧ Same H11 H12, ?_, ?_⟩
                    · obtain ⟨qs, q1, q2, q3⟩ := E10
                      refine ⟨_, rfl, _, rfl, by show 2 ≤ sizeLine; decide, fun y hy => ⟨by show 1 ≤ sizeLine; decide, fun l1 hl1 => ?_⟩⟩
                      have sy := Same.new (o := .tup [V.ref t, V.ref u]) hy
                      have s1 := Same.new (o := .lst [V.ref y]) hl1
                      refine ⟨_, rfl, l1, e, _, _, rfl, rfl, SqL.of upd_same, s1 _ _ (sy _ _ q1), ?_, fun g1 hg1 => ?_⟩
                      · rw [show (refs qs).length = qs.length from List.length_map _]
                        exact Nat.le_trans (by show 1 + qs.length ≤ 5000; omega) (by decide)
                      have s2 := Same.new (o := .lst ([V.ref y] ++ refs qs)) hg1
                      have hg1' := upd_same (H := upd (upd H11 y (.tup [V.ref t, V.ref u])) l1 (.lst [V.ref y])) (a := g1) (o := .lst ([V.ref y] ++ refs qs))
                      have hy1 := s2 _ _ (s1 _ _ (upd_same (H := H11) (a := y) (o := .tup [V.ref t, V.ref u])))
                      have sA := (sy.trans s1).trans s2
                      generalize upd (upd (upd H11 y (.tup [V.ref t, V.ref u])) l1 (.lst [V.ref y])) g1 (.lst ([V.ref y] ++ refs qs)) = H12 at hg1' hy1 sA
                      refine ⟨_, rfl, _, rfl, by show 2 ≤ sizeLine; decide, fun z hz => ⟨by show 1 ≤ sizeLine; decide, fun l2 hl2 => ?_⟩⟩
                      have sz := Same.new (o := .tup [V.ref t, V.ref u]) hz
                      have s3 := Same.new (o := .lst [V.ref z]) hl2
                      refine ⟨g1, l2, _, _, rfl, rfl, SqL.of (s3 _ _ (sz _ _ hg1')), upd_same, ?_, fun g2 hg2 => ?_⟩
                      · rw [List.length_append, show (refs qs).length = qs.length from List.length_map _]
                        exact Nat.le_trans (by show 1 + qs.length + 1 ≤ 5000; omega) (by decide)
                      have s4 := Same.new (o := .lst ([V.ref y] ++ refs qs ++ [V.ref z])) hg2
                      have sB := (sz.trans s3).trans s4
                      have hz1 := s4 _ _ (s3 _ _ (upd_same (H := H12) (a := z) (o := .tup [V.ref t, V.ref u])))
                      have hg2' : upd (upd (upd H12 z (.tup [V.ref t, V.ref u])) l2 (.lst [V.ref z])) g2 (.lst ([V.ref y] ++ refs qs ++ [V.ref z])) g2 = some (.lst (refs ([y] ++ qs ++ [z]))) := by
                        rw [upd_same, refs_app, refs_app]
                        rfl
                      have hy2 := sB _ _ hy1
                      have sC := sA.trans sB
                      generalize upd (upd (upd H12 z (.tup [V.ref t, V.ref u])) l2 (.lst [V.ref z])) g2 (.lst ([V.ref y] ++ refs qs ++ [V.ref z])) = H13 at hg2' hy2 sC hz1
                      have good : ∀ b ∈ [y] ++ qs ++ [z], Gd H13 b := fun b hb => by
                        rcases List.mem_append.mp hb with hb | hb
                        · rcases List.mem_append.mp hb with hb | hb
                          · rw [List.mem_singleton.mp hb]
                            exact ⟨t, u, n, st, o, R, ws, hy2, hT10.mono (sameT sC), sC _ _ hu, hw, hm⟩
                          · exact (q3 b hb).mono (sameT sC)
                        · rw [List.mem_singleton.mp hb]
                          exact ⟨t, u, n, st, o, R, ws, hz1, hT10.mono (sameT sC), sC _ _ hu, hw, hm⟩
                      refine ⟨g2, rfl, ⟨_, SqL.of hg2'⟩, for_it (walk_list (K := K) (a := g2) (xs := refs ([y] ++ qs ++ [z]))) (fun j σ H14 => ∃ (v7 v8 : Option V), σ = [some (.ref a), some (.ref p), some (.ref e), some (.int (i : Nat)), some (.ref t), some (.str (tbD n st o R).shown), some (.ref u), v7, v8] ∧ Same H13 H14) ⟨_, _, rfl, Same.refl _⟩ (fun j σ H14 _ ⟨_, _, _, s'⟩ => SqL.of (s' _ _ hg2')) ?_ ?_⟩
                      · rintro j x σ H14 H15 hj ⟨v7, v8, rfl, s14⟩ ⟨rfl, ex⟩
                        obtain ⟨b, hb, rfl⟩ := refs_get ex
                        obtain ⟨t', u', n', s', o', R', ws', g1, g2, g3, g4, g5⟩ := (good b (List.mem_of_getElem? hb)).mono (sameT s14)
                        exact ⟨b, _, rfl, SqT.of g1, rfl, _, _, rfl, _, _, rfl, rfl, _, rfl, _, rfl, t', u', n', s', o', R', ws', rfl, g2, g3, g4, g5, fun H16 s16 => ⟨_, rfl, iteF ⟨_, _, rfl, s14.trans s16⟩⟩⟩
                      · rintro σ H14 ⟨v7, v8, rfl, s14⟩
                        exact ⟨_, _, rfl, sC.trans s14⟩
                    · rintro σ H12 ⟨v7, v8, rfl, s12⟩
                      refine ⟨_, rfl, _, rfl, by show 2 ≤ sizeLine; decide, fun y hy => ⟨by show 1 ≤ sizeLine; decide, fun l1 hl1 => ?_⟩⟩
                      have sy := Same.new (o := .tup [V.ref t, V.ref u]) hy
                      have s1 := Same.new (o := .lst [V.ref y]) hl1
                      have sD := (s12.trans sy).trans s1
                      refine ⟨l1, _, _, _, rfl, s10.trans sD, [y], upd_same, by show 1 ≤ 1; decide, fun b hb => ?_⟩
                      rw [List.mem_singleton.mp hb]
                      exact ⟨t, u, n, st, o, R, ws, s1 _ _ upd_same, hT10.mono (sameT sD), sD _ _ hu, hw, hm⟩
                  · rintro σ H10 ⟨e, v6, v7, v8, rfl, s10, E10⟩
                    exact ⟨e, _, _, _, rfl, hT9.mono (sameT s10), M9.keep s10, E10⟩
                · rintro σ H7 ⟨e, v6, v7, v8, rfl, hT7, M7, E7⟩
                  refine ⟨_, rfl, ?_⟩
                  unfold tNil
                  refine repr_tb hT7 ?_
                  refine ⟨_, rfl, rfl, _, rfl, ?_⟩
                  rw [ne_self]
                  exact iteF ⟨e, _, _, _, _, _, _, rfl, M7.lt (by omega) (by omega), E7⟩
        · rintro σ H3 ⟨e, v3, v4, v5, v6, v7, v8, rfl, M3, E3⟩
          exact k _
end
end One
end P_WI

section P_H10
set_option linter.all false
set_option maxRecDepth 100000
set_option maxHeartbeats 8000000
namespace One
open PySem PySem.W PySem.Calls PyProof.Rows PySem.HandSPX L2
/-- a def of the top -/
structure DefAt (K : Frag) (x : Str) (st : Stmt) (f : Addr) (fd : FuncData) : Prop where
  ns : nsIn K mainGlobals x = some (some (.ref f))
  fn : L2.Fun K x x st f fd
theorem def_at {K : Frag} {x : Str} {st : Stmt} {f : Addr} {oc kV dc pm cd ct : Value} {od an : Option Addr} {sl : Array (Option Value)} (a : nsIn K mainGlobals x = some (some (.ref f))) (l : K.lookup f = some ⟨oc, od, .func (fnOf x x (defArgs st) (defBody st) (defScope st) .none kV dc pm an cd ct), sl⟩)
    (c : codeIn K cd x = true) (k : keepIn K (.ref f) = true) : DefAt K x st f (fnOf x x (defArgs st) (defBody st) (defScope st) .none kV dc pm an cd ct) := ⟨a, fun_mk l c k⟩
theorem DefAt.cal {K : Frag} {x : Str} {st : Stmt} {f : Addr} {fd : FuncData} {h : Heap} {mg : Str → Option Value} {ps : List Str} (D : DefAt K x st f fd) (X : K.In h) (G : h.Ns mainGlobals mg)
    (hb : ∀ (kV doc pm : Value) (an : Option Addr) (cdv ct : Value) (us : List Value), us.length = ps.length → bindArgs (fnOf x x (defArgs st) (defBody st) (defScope st) .none kV doc pm an cdv ct) ⟨us, []⟩ = pure (ps.zip us)) : Cal K mg x f fd ps := ⟨mg_of X G D.ns, D.fn.kp, D.fn.binds hb⟩

end One
end P_H10

section P_G3
set_option linter.all false
set_option maxRecDepth 100000
set_option maxHeartbeats 4000000
namespace One
open PySem PySem.Spec PyProof.Rows L2
/-- the one call of a law that has lambdas: cs, its code objects with their tables -/
theorem law_goesT {P : Program} {w : World} {K : PySem.W.Frag} {mg mb : Str → Option Value} {CX : CXT} {k : Nat} {fa a : Addr} {cs : List (Addr × Addr)} {fd : FuncData} {x : Str} {sp : Sp} {s : Shared} {vs : List Value} {ns : List Int} (inK : K.In s.heap) (nsm : s.heap.Ns mainGlobals mg)
    (nsb : s.heap.Ns builtinsNs mb) (boot : ∀ y : Str, y ≠ "__name__" → mb y = bootBuiltins y) (nolim : s.heap.NoLimit) (nogen : s.gens = #[]) (tab : ∀ p ∈ cs, s.heap.get? p.2 = some { cls := .none, data := .fields #[] }) (ntab : ∀ p ∈ cs, K.lookup p.2 = none) (heads : ∀ p ∈ cs, PySem.W.CodeHd s.heap p.1 p.2)
    (blt : ∃ (bm : Addr) (ob : Obj), mg "__builtins__" = some (.ref bm) ∧ bm ≠ builtinsNs ∧ s.heap.get? bm = some ob ∧ ob.cls = .type "module" ∧ ob.dict = some builtinsNs ∧ ob.data = .plain) (ha : s.heap.get? a = some { cls := .type "list", data := .seq vs.toArray }) (hi : IntsAre vs ns) (hl : ns.length ≤ sizeLine)
    (hr : Room k callerA) (F : ∀ base : Heap, K.In base → base.Ns mainGlobals mg → (∀ p ∈ cs, LamX.TabB base mg p.1 p.2) → FnG P w K mg base CX k fa fd [x] sp) (bind : ∀ (s : Shared) (u : Value), BindsTo s fd ⟨[u], []⟩ [(x, u)])
    (hsp : ∀ H : Hp, (∀ p ∈ cs, H p.2 = some (.tbl #[])) → SqL K H a (ns.map V.int) → sp [.ref a] H (fun v _ => v = .bl true) fun _ _ _ => False) (none_out : ∀ H e s', CX [] H s (fun _ _ _ => False) e s' → False) :
    codeAny (model P w) callerA (.call (.ref fa) ⟨[.ref a], []⟩) (fun r s' => r = .ok (.ret (.bool true)) ∧ OldK s.heap s'.heap ∧ s'.os = s.os ∧ AllBare s'.gens) s := by
  have rv := vals_ints hi
  have hlen := hi.length
  have isT : ∀ {b : Addr}, b ∈ cs.map (·.2) → s.heap.get? b = some { cls := .none, data := .fields #[] } := fun {b} hb => by
    obtain ⟨p, hp, e⟩ := List.mem_map.mp hb
    exact e ▸ tab p hp
  have toT : ∀ {p}, p ∈ cs → p.2 ∈ cs.map (·.2) := fun {p} hp => List.mem_map.mpr ⟨p, hp, rfl⟩
  have aT : a ∉ cs.map (·.2) := fun z => Data.noConfusion (show Data.seq vs.toArray _ = Data.fields #[] from congrArg Obj.data (Option.some.inj (ha.symm.trans (isT z))))
  have main : ∀ H : Hp, (∀ b ∈ cs.map (·.2), H b = some (.tbl #[])) → (∀ b u, H b = some u → (b ∈ cs.map (·.2) ∧ u = .tbl #[]) ∨ (b = a ∧ K.lookup a = none ∧ u = .frz { cls := .type "list", data := .seq vs.toArray } (.lst (ns.map V.int)))) → SqL K H a (ns.map V.int) →
      codeAny (model P w) callerA (.call (.ref fa) ⟨[.ref a], []⟩) (fun r s' => r = .ok (.ret (.bool true)) ∧ OldK s.heap s'.heap ∧ s'.os = s.os ∧ AllBare s'.gens) s := by
    intro H hT inv hS
    have ok : HOk P w H s.heap := fun b u e => by
      rcases inv b u e with ⟨hb, rfl⟩ | ⟨rfl, _, rfl⟩
      · exact isT hb
      · exact ⟨ha, by rw [List.length_map]; exact hl, vs, _, rv, ha⟩
    have put : ∀ {b : Addr} {o : Obj}, s.heap.get? b = some o → H b = none → (hidT s.heap H).get? b = some o := fun e n => hidT_get e n
    have free : ∀ {b : Addr} {o : Obj}, s.heap.get? b = some o → (∀ us n, o.data ≠ .seq us n) → o.data ≠ .fields #[] → H b = none := fun {b o} e h1 h2 => by
      match q : H b with
      | none => rfl
      | some u =>
        rcases inv b u q with ⟨hb, _⟩ | ⟨rfl, _, _⟩
        · cases (isT hb).symm.trans e
          exact (h2 rfl).elim
        · cases ha.symm.trans e
          exact (h1 _ _ rfl).elim
    have nsH : ∀ {b : Addr} {m : Str → Option Value}, s.heap.Ns b m → (hidT s.heap H).Ns b m := fun ⟨o, es, ep, e, d, r⟩ => ⟨o, es, ep, put e (free e (fun us n z => by cases d.symm.trans z) (fun z => by cases d.symm.trans z)), d, r⟩
    have inH : K.In (hidT s.heap H) := fun b o e => put (inK b o e) (by
      match q : H b with
      | none => rfl
      | some u =>
        rcases inv b u q with ⟨hb, _⟩ | ⟨rfl, z, _⟩
        · obtain ⟨p, hp, rfl⟩ := List.mem_map.mp hb
          cases (ntab p hp).symm.trans e
        · cases z.symm.trans e)
    obtain ⟨mc, n1, n2⟩ := nolim
    have tabB : ∀ p ∈ cs, LamX.TabB (hidT s.heap H) mg p.1 p.2 := fun p hp => by
      have hTp := tab p hp
      obtain ⟨og, es, ep, eg, dg, _⟩ := nsm
      refine ⟨?_, ?_, fun z => ?_⟩
      · obtain ⟨o, us, file, tf, flags, tg, inF, text, tt, e1, r1, r2, r3, rest⟩ := heads p hp
        refine ⟨o, us, file, tf, flags, tg, inF, text, tt, put e1 (free e1 (fun vs n z => by cases r2.symm.trans z) (fun z => ?_)), r1, r2, r3, rest⟩
        have z' : us = #[] := Data.fields.inj (r2.symm.trans z)
        rw [z'] at r3
        simp at r3
      · obtain ⟨bm, ob, b1, b2, b3, b4, b5, b6⟩ := blt
        refine ⟨bm, ob, b1, b2, fun q => ?_, fun q => ?_, put b3 (free b3 (fun vs n z => by cases b6.symm.trans z) (fun z => by cases b6.symm.trans z)), b4, b5, b6⟩
        · cases (q ▸ b3 : s.heap.get? mainGlobals = some ob).symm.trans eg
          cases b6.symm.trans dg
        · cases (q ▸ b3 : s.heap.get? p.2 = some ob).symm.trans hTp
          cases b6
      · cases (z ▸ hTp : s.heap.get? mainGlobals = _).symm.trans eg
        cases dg
    have env : Env0 P w K mg (hidT s.heap H) callerA [] s H := ⟨rfl, ⟨inH, nsH nsm, ⟨mb, nsH nsb, boot⟩, ⟨mc, nsH n1, n2⟩⟩, fun b o e => of_hidT e, Nat.le_of_eq (hidT_size _ _), trivial, fun b hb => absurd (show b ∈ ([] : List Addr) from hb) List.not_mem_nil, ok, .of_eq nogen⟩
    refine codeAny_mono ((F _ inH (nsH nsm) tabB).go callerA [] s H ⟨[.ref a], []⟩ [.ref a] [.ref a] _ _ rfl hr env (bind s (.ref a)) (.cons rfl .nil) (hsp H (fun p hp => hT _ (toT hp)) hS)) fun r s' h => ?_
    match r, h with
    | .error e, h => exact (none_out H e s' h).elim
    | .ok .next, h => exact h.elim
    | .ok .brk, h => exact h.elim
    | .ok .cont, h => exact h.elim
    | .ok (.ret u), ⟨v, H', os, bare, un, ok', rel, q⟩ =>
      cases (show v = .bl true from q)
      cases (show u = Value.bool true from rel)
      have key : ∀ b o, b ∉ cs.map (·.2) → s.heap.get? b = some o → s'.heap.get? b = some o := fun b o nb e => by
        match q : H b with
        | none => exact un.keep b o e q (fun z => absurd (show b ∈ ([] : List Addr) from z) List.not_mem_nil) (fun z => absurd z List.not_mem_nil)
        | some u =>
          rcases inv b u q with ⟨hb, _⟩ | ⟨rfl, _, rfl⟩
          · exact absurd hb nb
          · obtain ⟨e2, _⟩ := ok' b _ (un.frzs b _ _ q)
            cases ha.symm.trans e
            exact e2
      have more : ∀ p ∈ cs, ∃ m : Array Value, s'.heap.get? p.2 = some { cls := .none, data := .fields m } := fun p hp => let ⟨m, z⟩ := un.tbls p.2 #[] (hT _ (toT hp)); ⟨_, ok' p.2 _ z⟩
      refine ⟨rfl, ⟨fun b o e => ?_, fun b o e => ?_⟩, os, bare⟩
      · rcases Classical.em (b ∈ cs.map (·.2)) with hb | hb
        · obtain ⟨p, hp, rfl⟩ := List.mem_map.mp hb
          obtain ⟨m, hm⟩ := more p hp
          cases (tab p hp).symm.trans e
          exact .inr (.inl ⟨((heads p hp).tab (tab p hp)).isCodeTable, rfl, #[], m, rfl, by rw [Array.empty_append]; exact hm⟩)
        · exact .inl (key b o hb e)
      · rcases Classical.em (b ∈ cs.map (·.2)) with hb | hb
        · obtain ⟨p, hp, rfl⟩ := List.mem_map.mp hb
          obtain ⟨m, hm⟩ := more p hp
          exact ⟨_, hm⟩
        · exact ⟨o, key b o hb e⟩
  match hk : K.lookup a with
  | some o =>
    cases ha.symm.trans (inK a o hk)
    refine main (fun b => if b ∈ cs.map (·.2) then some (.tbl #[]) else none) (fun b hb => if_pos hb) (fun b u z => ?_) (.inr ⟨_, vs.toArray, _, hk, rfl, rfl, rfl, by rw [List.size_toArray, hlen]; exact hl, by simpa using rv⟩)
    rcases Classical.em (b ∈ cs.map (·.2)) with hb | hb
    · exact .inl ⟨hb, (Option.some.inj ((if_pos hb).symm.trans z)).symm⟩
    · cases (if_neg hb).symm.trans z
  | none =>
    refine main (fun b => if b ∈ cs.map (·.2) then some (.tbl #[]) else if b = a then some (.frz { cls := .type "list", data := .seq vs.toArray } (.lst (ns.map V.int))) else none) (fun b hb => if_pos hb) (fun b u z => ?_) (.inl (.inr ⟨{ cls := .type "list", data := .seq vs.toArray }, (if_neg aT).trans (if_pos rfl)⟩))
    rcases Classical.em (b ∈ cs.map (·.2)) with hb | hb
    · exact .inl ⟨hb, (Option.some.inj ((if_pos hb).symm.trans z)).symm⟩
    · have z1 := (if_neg hb).symm.trans z
      rcases Classical.em (b = a) with e | e
      · exact .inr ⟨e, hk, (Option.some.inj ((if_pos e).symm.trans z1)).symm⟩
      · cases (if_neg e).symm.trans z1
/-- what is known of the law's promise behind its top -/
def LawG (l : PySem.W.OpenLaw) (w : World) (K : PySem.W.Frag) (CX : CXT) (k n : Nat) (x : Str) (mg : Str → Option Value) (fa : Addr) (h : Heap) : Prop :=
  ∃ (fd : FuncData) (cs : List (Addr × Addr)) (sp : Sp), (∀ y ∈ cs, h.get? y.2 = some { cls := .none, data := .fields #[] }) ∧ (∀ y ∈ cs, K.lookup y.2 = none) ∧ (∀ y ∈ cs, PySem.W.CodeHd h y.1 y.2) ∧ (∀ (s : Shared) (u : Value), BindsTo s fd ⟨[u], []⟩ [(x, u)]) ∧
    (∀ (H : Hp) (a : Addr) (ns : List Int), ns.length ≤ n → (∀ z ∈ ns, Builtin.Int.intBits z ≤ 1048576) → (∀ y ∈ cs, H y.2 = some (.tbl #[])) → SqL K H a (ns.map V.int) → sp [.ref a] H (fun v _ => v = .bl true) fun _ _ _ => False) ∧
    (∀ base : Heap, K.In base → base.Ns mainGlobals mg → (∀ p ∈ cs, LamX.TabB base mg p.1 p.2) → FnG l.prog w K mg base CX k fa fd [x] sp)
theorem walkGT {l : PySem.W.OpenLaw} {n k : Nat} {q : Program} {loose : List Str} {XP : (Str → Option Value) → Heap → Prop} {YP : World → Heap → Prop} {d : DefRec} {K : Params → PySem.W.Frag} {CX : World → CXT} {x : Str} (hn : l.most = some n) (small : n ≤ sizeLine) (nodef : d.params.defaults = []) (hr : Room k callerA)
    (inY : ∀ (w : World) (h : Heap), YP w h → (K w.params).In h) (F : ∀ (w : World) (mg : Str → Option Value) (fa : Addr) (h : Heap), YP w h → (K w.params).In h → h.Ns mainGlobals mg → mg d.name = some (.ref fa) → LawG l w (K w.params) (CX w) k n x mg fa h)
    (none_out : ∀ (w : World) (H : Hp) (s : Shared) (e : Value) (s' : Shared), CX w [] H s (fun _ _ _ => False) e s' → False) : PySem.W.WalkO q loose XP YP l.row.toRowW d [] (fun f vs => PySem.call f vs) := by
  refine Att.attach_callB hn nodef fun w s0 s1 mg mb fa o pm cd doc a vs ns G Y ho hd hcd hmg hobj hints hlen hbits hg => ?_
  obtain ⟨fd, cs, sp, hT, nT, C, hb, hsp, hF⟩ := F w mg fa _ Y (inY w _ Y) G.T.g hmg
  exact law_goesT (inY w _ Y) G.T.g G.T.b G.T.builtins G.T.nolimit hg hT nT C G.T.bmain hobj hints (Nat.le_trans hlen small) hr hF hb (fun H hH hS => hsp H a ns hlen hbits hH hS) fun H e s' => none_out w H s1 e s'
end One
end P_G3

section P_H13
set_option linter.all false
set_option maxRecDepth 100000
set_option maxHeartbeats 8000000
namespace One
open PySem PySem.W PySem.Calls PyProof.Rows PySem.HandSPX L2
theorem tab_mkX {K : Frag} {x : Str} {f c Pt : Addr} {oc oc2 : Value} {od od2 : Option Addr} {fd : FuncData} {sl sl2 : Array (Option Value)} {vs : Array Value} (a : nsIn K mainGlobals x = some (some (.ref f))) (l : K.lookup f = some ⟨oc, od, .func fd, sl⟩) (hc : fd.code = .ref c)
    (lc : K.lookup c = some ⟨oc2, od2, .fields vs, sl2⟩) (hv : (vs[11]? : Option Value) = some (.ref Pt)) : tabIn K x = some (c, Pt) := by
  unfold tabIn
  rw [a]
  simp only [l, hc, lc, hv]
theorem walkGX {l : OpenLaw} {n k : Nat} {q : Program} {loose : List Str} {XP : (Str → Option Value) → Heap → Prop} {YP : World → Heap → Prop} {d : DefRec} {K : Params → Frag} {CX : World → CXT} {x : Str} (hn : l.most = some n) (small : n ≤ sizeLine) (nodef : d.params.defaults = []) (hr : Room k callerA)
    (inY : ∀ (w : World) (h : Heap), YP w h → (K w.params).In h)
    (F : ∀ (w : World) (mg : Str → Option Value) (fa : Addr) (h : Heap), YP w h → (K w.params).In h → h.Ns mainGlobals mg → mg d.name = some (.ref fa) →
      (∀ {x : Str} {dL : DefRec}, (recsOf q).find? (fun e => e.name == x) = some dL → ∀ {c P : Addr}, tabIn (K w.params) x = some (c, P) → CodeHd h c P ∧ h.get? P = some { cls := .none, data := .fields #[] }) → LawG l w (K w.params) (CX w) k n x mg fa h)
    (none_out : ∀ (w : World) (H : Hp) (s : Shared) (e : Value) (s' : Shared), CX w [] H s (fun _ _ _ => False) e s' → False) : WalkO q loose XP YP l.row.toRowW d [] (fun f vs => PySem.call f vs) := by
  refine Att.attach_callB hn nodef fun w s0 s1 mg mb fa o pm cd doc a vs ns G Y ho hd hcd hmg hobj hints hlen hbits hg => ?_
  have X := inY w _ Y
  obtain ⟨fd, cs, sp, hT, nT, C, hb, hsp, hF⟩ := F w mg fa _ Y X G.T.g hmg (@fun _ _ hrec _ _ ht => tab_of G.T X hrec ht)
  exact law_goesT X G.T.g G.T.b G.T.builtins G.T.nolimit hg hT nT C G.T.bmain hobj hints (Nat.le_trans hlen small) hr hF hb (fun H hH hS => hsp H a ns hlen hbits hH hS) fun H e s' => none_out w H s1 e s'
end One
end P_H13

section P_H11
set_option linter.all false
set_option maxRecDepth 100000
set_option maxHeartbeats 16000000
namespace One
open PySem PySem.W PySem.Calls PyProof.Rows PySem.HandSPX L2
theorem all_mk {l : OpenLaw} {w : World} {K : Frag} {h : Heap} {mg : Str → Option Value} {fa  : Addr} {f_law c_law : Addr} {t0 t1 : Tok} {f_is_number f_is_below f_ways_fault f_need_table f_table_fault f_is_some_setting f_are_outers f_are_rows f_are_rising f_need_setting_by f_rounds_by f_noughts f_square f_law_begun f_law_next f_law_of f_law_turned_about f_law_form f_law_other f_law_square f_law_sum f_law_subsets f_law_due f_law_right : Addr} {e_is_number e_is_below e_ways_fault e_need_table e_table_fault e_is_some_setting e_are_outers e_are_rows e_are_rising e_need_setting_by e_rounds_by e_noughts e_square e_law_begun e_law_next e_law_of e_law_turned_about e_law_form e_law_other e_law_square e_law_sum e_law_subsets e_law_due e_law_right : FuncData} {oc kV doc pm ct : Value} {od an : Option Addr} {sl : Array (Option Value)}
    (X : K.In h) (G : h.Ns mainGlobals mg) (hfa : mg "law" = some (.ref fa))
    (z_len : nsIn K mainGlobals "len" = some none)
    (z_range : nsIn K mainGlobals "range" = some none)
    (z_tuple : nsIn K mainGlobals "tuple" = some none)
    (z_list : nsIn K mainGlobals "list" = some none)
    (z_sorted : nsIn K mainGlobals "sorted" = some none)
    (z_enumerate : nsIn K mainGlobals "enumerate" = some none)
    (z_isinstance : nsIn K mainGlobals "isinstance" = some none)
    (z_int : nsIn K mainGlobals "int" = some none)
    (z_bool : nsIn K mainGlobals "bool" = some none)
    (z_repr : nsIn K mainGlobals "repr" = some none)
    (z_all : nsIn K mainGlobals "all" = some none)
    (z_sum : nsIn K mainGlobals "sum" = some none)
    (z_zip : nsIn K mainGlobals "zip" = some none)
    (k_MOST_CROSSINGS : nsIn K mainGlobals "MOST_CROSSINGS" = some (some (.int 40 t0)))
    (k_MANY_WAYS : nsIn K mainGlobals "MANY_WAYS" = some (some (.int 3 t1)))
    (d_is_number : DefAt K "is_number" (top 5) f_is_number e_is_number)
    (d_is_below : DefAt K "is_below" (top 6) f_is_below e_is_below)
    (d_ways_fault : DefAt K "ways_fault" (top 10) f_ways_fault e_ways_fault)
    (d_need_table : DefAt K "need_table" (top 12) f_need_table e_need_table)
    (d_table_fault : DefAt K "table_fault" (top 13) f_table_fault e_table_fault)
    (d_is_some_setting : DefAt K "is_some_setting" (top 14) f_is_some_setting e_is_some_setting)
    (d_are_outers : DefAt K "are_outers" (top 15) f_are_outers e_are_outers)
    (d_are_rows : DefAt K "are_rows" (top 16) f_are_rows e_are_rows)
    (d_are_rising : DefAt K "are_rising" (top 17) f_are_rising e_are_rising)
    (d_need_setting_by : DefAt K "need_setting_by" (top 18) f_need_setting_by e_need_setting_by)
    (d_rounds_by : DefAt K "rounds_by" (top 19) f_rounds_by e_rounds_by)
    (d_noughts : DefAt K "noughts" (top 20) f_noughts e_noughts)
    (d_square : DefAt K "square" (top 21) f_square e_square)
    (d_law_begun : DefAt K "_law_begun" (top 23) f_law_begun e_law_begun)
    (d_law_next : DefAt K "_law_next" (top 24) f_law_next e_law_next)
    (d_law_of : DefAt K "_law_of" (top 25) f_law_of e_law_of)
    (d_law_turned_about : DefAt K "_law_turned_about" (top 26) f_law_turned_about e_law_turned_about)
    (d_law_form : DefAt K "_law_form" (top 27) f_law_form e_law_form)
    (d_law_other : DefAt K "_law_other" (top 28) f_law_other e_law_other)
    (d_law_square : DefAt K "_law_square" (top 29) f_law_square e_law_square)
    (d_law_sum : DefAt K "_law_sum" (top 30) f_law_sum e_law_sum)
    (d_law_subsets : DefAt K "_law_subsets" (top 31) f_law_subsets e_law_subsets)
    (d_law_due : DefAt K "_law_due" (top 32) f_law_due e_law_due)
    (d_law_right : DefAt K "_law_right" (top 33) f_law_right e_law_right)
    (lawNs : nsIn K mainGlobals "law" = some (some (.ref f_law))) (lawLk : K.lookup f_law = some ⟨oc, od, .func (fnOf "law" "law" (defArgs sLaw) (defBody sLaw) (defScope sLaw) .none kV doc pm an (.ref c_law) ct), sl⟩) (lawCd : codeIn K (.ref c_law) "law" = true) (lawKp : keepIn K (.ref f_law) = true)
 : LawG l w K CX0 11 63 "script" mg fa h := by
  have e := hfa.symm.trans (mg_of X G lawNs)
  cases e
  refine ⟨fnOf "law" "law" (defArgs sLaw) (defBody sLaw) (defScope sLaw) .none kV doc pm an (.ref c_law) ct, [], spLaw K , (fun p hp => absurd hp List.not_mem_nil), (fun p hp => absurd hp List.not_mem_nil), (fun p hp => absurd hp List.not_mem_nil), fun s u => .of_eq rfl, fun H a ns hl _ hT hS => ⟨a, ns, rfl, hS, hl, fun _ => rfl⟩, fun base inB nsB tB => ?_⟩
  have no : ∀ {x : Str}, nsIn K mainGlobals x = some none → mg x = none := fun z => mg_none_of X G z
  have T : TB mg := ⟨no z_len, no z_range, no z_tuple, no z_list, no z_sorted, no z_enumerate, no z_isinstance, no z_int, no z_bool, no z_repr, no z_all⟩
  have TCo : TC mg := ⟨⟨_, mg_of X G k_MOST_CROSSINGS⟩, ⟨_, mg_of X G k_MANY_WAYS⟩⟩
  have c_is_number := d_is_number.cal (ps := ["thing"]) X G fun _ _ _ _ _ _ us hl => match us, hl with | [_], _ => rfl
  have c_is_below := d_is_below.cal (ps := ["thing", "many"]) X G fun _ _ _ _ _ _ us hl => match us, hl with | [_, _], _ => rfl
  have c_ways_fault := d_ways_fault.cal (ps := ["thing", "many", "is_draft"]) X G fun _ _ _ _ _ _ us hl => match us, hl with | [_, _, _], _ => rfl
  have c_need_table := d_need_table.cal (ps := ["thing"]) X G fun _ _ _ _ _ _ us hl => match us, hl with | [_], _ => rfl
  have c_table_fault := d_table_fault.cal (ps := ["thing"]) X G fun _ _ _ _ _ _ us hl => match us, hl with | [_], _ => rfl
  have c_is_some_setting := d_is_some_setting.cal (ps := ["thing"]) X G fun _ _ _ _ _ _ us hl => match us, hl with | [_], _ => rfl
  have c_are_outers := d_are_outers.cal (ps := ["thing", "setting"]) X G fun _ _ _ _ _ _ us hl => match us, hl with | [_, _], _ => rfl
  have c_are_rows := d_are_rows.cal (ps := ["thing", "many"]) X G fun _ _ _ _ _ _ us hl => match us, hl with | [_, _], _ => rfl
  have c_are_rising := d_are_rising.cal (ps := ["thing", "many"]) X G fun _ _ _ _ _ _ us hl => match us, hl with | [_, _], _ => rfl
  have c_need_setting_by := d_need_setting_by.cal (ps := ["table", "thing"]) X G fun _ _ _ _ _ _ us hl => match us, hl with | [_, _], _ => rfl
  have c_rounds_by := d_rounds_by.cal (ps := ["table", "setting"]) X G fun _ _ _ _ _ _ us hl => match us, hl with | [_, _], _ => rfl
  have c_noughts := d_noughts.cal (ps := ["table", "setting"]) X G fun _ _ _ _ _ _ us hl => match us, hl with | [_, _], _ => rfl
  have c_square := d_square.cal (ps := ["table", "setting"]) X G fun _ _ _ _ _ _ us hl => match us, hl with | [_, _], _ => rfl
  have c_law_begun := d_law_begun.cal (ps := ["script"]) X G fun _ _ _ _ _ _ us hl => match us, hl with | [_], _ => rfl
  have c_law_next := d_law_next.cal (ps := ["m", "total"]) X G fun _ _ _ _ _ _ us hl => match us, hl with | [_, _], _ => rfl
  have c_law_of := d_law_of.cal (ps := ["m", "some"]) X G fun _ _ _ _ _ _ us hl => match us, hl with | [_, _], _ => rfl
  have c_law_turned_about := d_law_turned_about.cal (ps := ["m", "some"]) X G fun _ _ _ _ _ _ us hl => match us, hl with | [_, _], _ => rfl
  have c_law_form := d_law_form.cal (ps := ["m", "most"]) X G fun _ _ _ _ _ _ us hl => match us, hl with | [_, _], _ => rfl
  have c_law_other := d_law_other.cal (ps := ["m", "table"]) X G fun _ _ _ _ _ _ us hl => match us, hl with | [_, _], _ => rfl
  have c_law_square := d_law_square.cal (ps := ["table", "ways"]) X G fun _ _ _ _ _ _ us hl => match us, hl with | [_, _], _ => rfl
  have c_law_sum := d_law_sum.cal (ps := ["square_v", "some"]) X G fun _ _ _ _ _ _ us hl => match us, hl with | [_, _], _ => rfl
  have c_law_subsets := d_law_subsets.cal (ps := ["some"]) X G fun _ _ _ _ _ _ us hl => match us, hl with | [_], _ => rfl
  have c_law_due := d_law_due.cal (ps := ["square_v"]) X G fun _ _ _ _ _ _ us hl => match us, hl with | [_], _ => rfl
  have c_law_right := d_law_right.cal (ps := ["table", "ways"]) X G fun _ _ _ _ _ _ us hl => match us, hl with | [_, _], _ => rfl
  have G_is_number := ok_isnum (P := l.prog) (w := w) (base := base) d_is_number.fn T
  have G_is_below := ok_isbelow d_is_below.fn c_is_number G_is_number
  have G_ways := ok_ways d_ways_fault.fn T ⟨_, mg_of X G k_MANY_WAYS⟩ c_is_below G_is_below
  have G_ar := ok_ar d_are_rising.fn T c_is_below G_is_below
  have G_ro := ok_ro d_are_rows.fn T c_are_rising G_ar
  have G_ou := ok_ou d_are_outers.fn T (no z_zip) c_ways_fault G_ways
  have G_ss := ok_ss d_is_some_setting.fn T TCo c_ways_fault G_ways
  have G_tf := ok_tf d_table_fault.fn T c_is_some_setting G_ss c_are_outers G_ou c_are_rows G_ro
  have G_nt := ok_nt d_need_table.fn c_table_fault G_tf
  have G_ns := ok_ns d_need_setting_by.fn T c_ways_fault G_ways
  have G_sq := ok_sq (P := l.prog) (w := w) (base := base) d_square.fn T (no z_sum)
  have G_no := ok_no d_noughts.fn T c_need_table G_nt c_need_setting_by G_ns c_square G_sq
  have G_rb := ok_rb d_rounds_by.fn T c_noughts G_no
  have G_begun := ok_begun (P := l.prog) (w := w) (mg := mg) (base := base) d_law_begun.fn
  have G_next := ok_next (P := l.prog) (w := w) (base := base) d_law_next.fn T
  have G_of := ok_of d_law_of.fn T c_law_next G_next
  have G_turned := ok_turned d_law_turned_about.fn T c_law_next G_next
  have G_fo := ok_fo d_law_form.fn T c_law_next G_next c_law_of G_of
  have G_ot := ok_ot d_law_other.fn T c_law_next G_next c_law_of G_of c_law_turned_about G_turned
  have G_lsq := ok_lsq (P := l.prog) (w := w) (base := base) d_law_square.fn T
  have G_lsb := ok_lsb (P := l.prog) (w := w) (base := base) d_law_subsets.fn T
  have G_ls := ok_ls (P := l.prog) (w := w) (base := base) d_law_sum.fn T (no z_sum)
  have G_ld := ok_ld d_law_due.fn T c_law_subsets G_lsb c_law_sum G_ls
  have G_lr := ok_lr d_law_right.fn T c_law_square G_lsq c_law_due G_ld c_noughts G_no c_rounds_by G_rb
  exact ok_law (fun_mk lawLk lawCd lawKp) T c_law_begun G_begun c_law_form G_fo c_law_other G_ot c_need_table G_nt c_law_right G_lr
end One
end P_H11

open PySem PySem.W PyProof.Rows in
set_option maxRecDepth 100000 in
set_option maxHeartbeats 0 in
theorem PySem.Challenge.cw_oneround_k60_first_noughts_holds : PySem.Challenge.rw_oneround_k60_first_noughts.Holds := by
  w_on; o_law; k_head; (case hw => w_witness2)
  k_fill
  refine One.walkGX (l := PySem.Challenge.rw_oneround_k60_first_noughts) (n := 63) (k := 11) (CX := fun _ => L2.CX0) (x := "script") rfl (by decide) rfl ⟨rfl, by decide, by decide⟩ (fun w h Y => PySem.W.kIn_of Y) ?F (fun _ _ _ _ _ z => z)
  case F =>
    intro w mg fa h Y KX G hmg tabs
    refine' One.all_mk KX G hmg  ?z_len ?z_range ?z_tuple ?z_list ?z_sorted ?z_enumerate ?z_isinstance ?z_int ?z_bool ?z_repr ?z_all ?z_sum ?z_zip ?k_MOST_CROSSINGS ?k_MANY_WAYS ?d_is_number ?d_is_below ?d_ways_fault ?d_need_table ?d_table_fault ?d_is_some_setting ?d_are_outers ?d_are_rows ?d_are_rising ?d_need_setting_by ?d_rounds_by ?d_noughts ?d_square ?d_law_begun ?d_law_next ?d_law_of ?d_law_turned_about ?d_law_form ?d_law_other ?d_law_square ?d_law_sum ?d_law_subsets ?d_law_due ?d_law_right ?lawNs ?lawLk ?lawCd ?lawKp
    (case z_len => k_is)
    (case z_range => k_is)
    (case z_tuple => k_is)
    (case z_list => k_is)
    (case z_sorted => k_is)
    (case z_enumerate => k_is)
    (case z_isinstance => k_is)
    (case z_int => k_is)
    (case z_bool => k_is)
    (case z_repr => k_is)
    (case z_all => k_is)
    (case z_sum => k_is)
    (case z_zip => k_is)
    (case k_MOST_CROSSINGS => k_is)
    (case k_MANY_WAYS => k_is)
    (case d_is_number => refine' One.def_at ?a ?l ?c ?k; (case a => k_is); (case l => k_is); (case c => k_is); (case k => k_is))
    (case d_is_below => refine' One.def_at ?a ?l ?c ?k; (case a => k_is); (case l => k_is); (case c => k_is); (case k => k_is))
    (case d_ways_fault => refine' One.def_at ?a ?l ?c ?k; (case a => k_is); (case l => k_is); (case c => k_is); (case k => k_is))
    (case d_need_table => refine' One.def_at ?a ?l ?c ?k; (case a => k_is); (case l => k_is); (case c => k_is); (case k => k_is))
    (case d_table_fault => refine' One.def_at ?a ?l ?c ?k; (case a => k_is); (case l => k_is); (case c => k_is); (case k => k_is))
    (case d_is_some_setting => refine' One.def_at ?a ?l ?c ?k; (case a => k_is); (case l => k_is); (case c => k_is); (case k => k_is))
    (case d_are_outers => refine' One.def_at ?a ?l ?c ?k; (case a => k_is); (case l => k_is); (case c => k_is); (case k => k_is))
    (case d_are_rows => refine' One.def_at ?a ?l ?c ?k; (case a => k_is); (case l => k_is); (case c => k_is); (case k => k_is))
    (case d_are_rising => refine' One.def_at ?a ?l ?c ?k; (case a => k_is); (case l => k_is); (case c => k_is); (case k => k_is))
    (case d_need_setting_by => refine' One.def_at ?a ?l ?c ?k; (case a => k_is); (case l => k_is); (case c => k_is); (case k => k_is))
    (case d_rounds_by => refine' One.def_at ?a ?l ?c ?k; (case a => k_is); (case l => k_is); (case c => k_is); (case k => k_is))
    (case d_noughts => refine' One.def_at ?a ?l ?c ?k; (case a => k_is); (case l => k_is); (case c => k_is); (case k => k_is))
    (case d_square => refine' One.def_at ?a ?l ?c ?k; (case a => k_is); (case l => k_is); (case c => k_is); (case k => k_is))
    (case d_law_begun => refine' One.def_at ?a ?l ?c ?k; (case a => k_is); (case l => k_is); (case c => k_is); (case k => k_is))
    (case d_law_next => refine' One.def_at ?a ?l ?c ?k; (case a => k_is); (case l => k_is); (case c => k_is); (case k => k_is))
    (case d_law_of => refine' One.def_at ?a ?l ?c ?k; (case a => k_is); (case l => k_is); (case c => k_is); (case k => k_is))
    (case d_law_turned_about => refine' One.def_at ?a ?l ?c ?k; (case a => k_is); (case l => k_is); (case c => k_is); (case k => k_is))
    (case d_law_form => refine' One.def_at ?a ?l ?c ?k; (case a => k_is); (case l => k_is); (case c => k_is); (case k => k_is))
    (case d_law_other => refine' One.def_at ?a ?l ?c ?k; (case a => k_is); (case l => k_is); (case c => k_is); (case k => k_is))
    (case d_law_square => refine' One.def_at ?a ?l ?c ?k; (case a => k_is); (case l => k_is); (case c => k_is); (case k => k_is))
    (case d_law_sum => refine' One.def_at ?a ?l ?c ?k; (case a => k_is); (case l => k_is); (case c => k_is); (case k => k_is))
    (case d_law_subsets => refine' One.def_at ?a ?l ?c ?k; (case a => k_is); (case l => k_is); (case c => k_is); (case k => k_is))
    (case d_law_due => refine' One.def_at ?a ?l ?c ?k; (case a => k_is); (case l => k_is); (case c => k_is); (case k => k_is))
    (case d_law_right => refine' One.def_at ?a ?l ?c ?k; (case a => k_is); (case l => k_is); (case c => k_is); (case k => k_is))
    (case lawNs => k_is)
    (case lawLk => k_is)
    (case lawCd => k_is)
    (case lawKp => k_is)
