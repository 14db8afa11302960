import PyProof.Rows.All
import Wide.All
import OpenK.AllK
import Wide.FinOn
import HandS.ForMost
import HandS.Wide
import HandS.Codes
import HandS.Flow
import HandS.SortRule
import HandS.IsInst
import HandS.Conv
import HandS.TupLe
import KE.GoesMore
import HandS.Lambda
import HandS.ExcInit
import HandS.ExcIs
import HandS.ExcField
import HandS.ExcValue
import HandS.RaiseMore
import KE.KExcSuper
import HandS.WordsExc
import PyProof.ReprRoads
import PySem.Challenge.RW_oneround_k15_leads_judged
import HandS.Walk
import HandS.Text
import HandS.Ends
import HandS.FStrTup
import HandS.Deep
import HandS.TupMul
import HandS.TupAny
import KE.DataCmp
import KE.SortData
import HandS.Iter
import HandS.Small
import KE.KExcIs
import HandS.Style
import HandS.ExcSuper
import HandS.EndTab
set_option Elab.async false

section P_M1
set_option linter.all false
/-! Lines, yards: the mathematics of what a law's own growing and calling makes. -/
namespace One
/-- the ends of lines -/
def ends : List (Nat × Nat) → List Nat
  | [] => []
  | p :: r => p.1 :: p.2 :: ends r
/-- the items whose place, counted from k, is let by p -/
def keepIx {α : Type} (p : Nat → Bool) : Nat → List α → List α
  | _, [] => []
  | k, x :: r => if p k then x :: keepIx p (k + 1) r else keepIx p (k + 1) r
theorem ends_append : ∀ (a b : List (Nat × Nat)), ends (a ++ b) = ends a ++ ends b
  | [], _ => rfl
  | p :: r, b => by simp [ends, ends_append r b]
theorem ends_perm {a b : List (Nat × Nat)} (h : a.Perm b) : (ends a).Perm (ends b) := by
  induction h with
  | nil => exact .refl _
  | cons x _ ih => exact .cons _ (.cons _ ih)
  | swap x y l => 
    show (y.1 :: y.2 :: x.1 :: x.2 :: ends l).Perm (x.1 :: x.2 :: y.1 :: y.2 :: ends l)
    have : ([y.1, y.2] ++ ([x.1, x.2] ++ ends l)).Perm ([x.1, x.2] ++ ([y.1, y.2] ++ ends l)) := by
      rw [← List.append_assoc, ← List.append_assoc]
      exact List.Perm.append_right _ List.perm_append_comm
    exact this
  | trans _ _ i j => exact i.trans j
theorem ends_length : ∀ a : List (Nat × Nat), (ends a).length = 2 * a.length
  | [] => rfl
  | p :: r => by simp [ends, ends_length r]; omega
theorem mem_ends : ∀ {a : List (Nat × Nat)} {e : Nat}, e ∈ ends a ↔ ∃ p ∈ a, e = p.1 ∨ e = p.2
  | [], e => by simp [ends]
  | p :: r, e => by
    simp only [ends, List.mem_cons, mem_ends (a := r)]
    constructor
    · rintro (h | h | ⟨q, hq, h⟩)
      · exact ⟨p, .inl rfl, .inl h⟩
      · exact ⟨p, .inl rfl, .inr h⟩
      · exact ⟨q, .inr hq, h⟩
    · rintro ⟨q, rfl | hq, h⟩
      · rcases h with h | h
        · exact .inl h
        · exact .inr (.inl h)
      · exact .inr (.inr ⟨q, hq, h⟩)
theorem keepIx_length_le {α : Type} (p : Nat → Bool) : ∀ (k : Nat) (l : List α), (keepIx p k l).length ≤ l.length
  | _, [] => Nat.le_refl _
  | k, x :: r => by
    unfold keepIx
    have := keepIx_length_le p (k + 1) r
    split <;> simp <;> omega
theorem keepIx_snoc {α : Type} (p : Nat → Bool) : ∀ (k : Nat) (l : List α) (x : α), keepIx p k (l ++ [x]) = keepIx p k l ++ (if p (k + l.length) then [x] else [])
  | k, [], x => by simp [keepIx]
  | k, y :: r, x => by
    simp only [List.cons_append, keepIx, keepIx_snoc p (k + 1) r x, List.length_cons]
    have : k + 1 + r.length = k + (r.length + 1) := by omega
    rw [this]
    split <;> simp
theorem keepIx_congr {α : Type} {p q : Nat → Bool} : ∀ (k : Nat) (l : List α), (∀ m, k ≤ m → p m = q m) → keepIx p k l = keepIx q k l
  | _, [], _ => rfl
  | k, x :: r, h => by
    unfold keepIx
    rw [h k (Nat.le_refl _), keepIx_congr (k + 1) r (fun m hm => h m (by omega))]
theorem keepIx_out {α : Type} (p : Nat → Bool) : ∀ (k i : Nat) (l : List α) (x : α), l[i]? = some x → p (k + i) = true → (keepIx p k l).Perm (x :: keepIx (fun m => p m && !decide (m = k + i)) k l)
  | k, _, [], x, h, _ => by simp at h
  | k, 0, y :: r, x, h, hp => by
    have e : y = x := Option.some.inj h
    subst e
    have hp' : p k = true := hp
    simp only [keepIx, hp', Nat.add_zero, decide_true, Bool.not_true, Bool.and_false, if_true]
    refine .cons _ ?_
    have e : keepIx (fun m => p m && !decide (m = k)) (k + 1) r = keepIx p (k + 1) r := keepIx_congr (k + 1) r fun m hm => by
      have : ¬ m = k := by omega
      simp [this]
    simp [e]
  | k, i + 1, y :: r, x, h, hp => by
    have ih := keepIx_out p (k + 1) i r x (by simpa using h) (by rw [show k + 1 + i = k + (i + 1) by omega]; exact hp)
    have hk : ¬ k = k + (i + 1) := by omega
    simp only [keepIx, hk, decide_false, Bool.not_false, Bool.and_true]
    rw [show (fun m => p m && !decide (m = k + (i + 1))) = (fun m => p m && !decide (m = k + 1 + i)) by funext m; rw [show k + (i + 1) = k + 1 + i by omega]]
    split
    · exact (List.Perm.cons _ ih).trans (.swap _ _ _)
    · exact ih
theorem keepIx_all {α : Type} : ∀ (k : Nat) (l : List α), keepIx (fun _ => true) k l = l
  | _, [] => rfl
  | k, x :: r => by simp [keepIx, keepIx_all (k + 1) r]
/-- lines of n crossings: each end in just one of them -/
structure Lines (n : Nat) (ps : List (Nat × Nat)) : Prop where
  len : ps.length = 2 * n
  nd : (ends ps).Nodup
  lt : ∀ e ∈ ends ps, e < 4 * n
/-- all hangs together: what is closed under lines and has crossing 0 has all -/
def Whole (n : Nat) (ps : List (Nat × Nat)) : Prop := ∀ P : Nat → Prop, (∀ p ∈ ps, P (p.1 / 4) ↔ P (p.2 / 4)) → P 0 → ∀ c, c < n → P c
theorem Whole.from {n : Nat} {ps : List (Nat × Nat)} (w : Whole n ps) {P : Nat → Prop} (h : ∀ p ∈ ps, P (p.1 / 4) ↔ P (p.2 / 4)) {a : Nat} (ha : a < n) (hp : P a) {c : Nat} (hc : c < n) : P c := by
  by_cases h0 : P 0
  · exact w P h h0 c hc
  · exact absurd hp (w (fun x => ¬ P x) (fun p m => not_congr (h p m)) h0 a ha)
theorem Whole.perm {n : Nat} {ps qs : List (Nat × Nat)} (w : Whole n ps) (h : ps.Perm qs) : Whole n qs := fun P hP h0 c hc => w P (fun p m => hP p (h.mem_iff.mp m)) h0 c hc
theorem Lines.perm {n : Nat} {ps qs : List (Nat × Nat)} (w : Lines n ps) (h : ps.Perm qs) : Lines n qs :=
  ⟨h.length_eq ▸ w.len, (ends_perm h).nodup_iff.mp w.nd, fun e m => w.lt e ((ends_perm h).mem_iff.mpr m)⟩
/-- the fresh lines of crossing n put across two lines, or twice across one -/
def fresh (n : Nat) (i j : Nat) (a b : Nat × Nat) : List (Nat × Nat) :=
  if i = j then [(a.1, 4 * n), (4 * n + 1, 4 * n + 2), (a.2, 4 * n + 3)] else [(a.1, 4 * n), (a.2, 4 * n + 2), (b.1, 4 * n + 1), (b.2, 4 * n + 3)]
/-- the places but two -/
def notIJ (i j : Nat) : Nat → Bool := fun m => !decide (m = i) && !decide (m = j)
def putOn (n : Nat) (ps : List (Nat × Nat)) (i j : Nat) (a b : Nat × Nat) : List (Nat × Nat) := keepIx (notIJ i j) 0 ps ++ fresh n i j a b
theorem keep_one {α : Type} {ps : List α} {i : Nat} {a : α} (ha : ps[i]? = some a) : ps.Perm (a :: keepIx (notIJ i i) 0 ps) := by
  have h := keepIx_out (fun _ => true) 0 i ps a ha rfl
  rw [keepIx_all] at h
  refine h.trans ?_
  rw [keepIx_congr (q := notIJ i i) 0 ps fun m _ => by simp [notIJ]]
theorem keep_two {α : Type} {ps : List α} {i j : Nat} {a b : α} (hij : i ≠ j) (ha : ps[i]? = some a) (hb : ps[j]? = some b) : ps.Perm (a :: b :: keepIx (notIJ i j) 0 ps) := by
  have h := keepIx_out (fun _ => true) 0 i ps a ha rfl
  rw [keepIx_all] at h
  refine h.trans (.cons _ ?_)
  have h2 := keepIx_out (fun m => true && !decide (m = 0 + i)) 0 j ps b hb (by simp; omega)
  refine h2.trans ?_
  rw [keepIx_congr (q := notIJ i j) 0 ps fun m _ => by simp [notIJ]]
theorem mem_keep {α : Type} (p : Nat → Bool) : ∀ (k : Nat) (l : List α) (x : α), x ∈ keepIx p k l → x ∈ l
  | _, [], _, h => h
  | k, y :: r, x, h => by
    unfold keepIx at h
    split at h
    · rcases List.mem_cons.mp h with e | h
      · exact List.mem_cons.mpr (.inl e)
      · exact List.mem_cons.mpr (.inr (mem_keep p (k + 1) r x h))
    · exact List.mem_cons.mpr (.inr (mem_keep p (k + 1) r x h))
theorem put_ends {n : Nat} {ps : List (Nat × Nat)} {i j : Nat} {a b : Nat × Nat} (ha : ps[i]? = some a) (hb : ps[j]? = some b) :
    (ends (putOn n ps i j a b)).Perm (ends ps ++ [4 * n, 4 * n + 1, 4 * n + 2, 4 * n + 3]) := by
  unfold putOn
  rw [ends_append]
  unfold fresh
  by_cases hij : i = j
  · subst hij
    rw [if_pos rfl]
    have h := ends_perm (keep_one ha)
    refine List.Perm.trans ?_ (List.Perm.append_right _ h.symm)
    show (ends (keepIx (notIJ i i) 0 ps) ++ [a.1, 4 * n, 4 * n + 1, 4 * n + 2, a.2, 4 * n + 3]).Perm ((a.1 :: a.2 :: ends (keepIx (notIJ i i) 0 ps)) ++ [4 * n, 4 * n + 1, 4 * n + 2, 4 * n + 3])
    refine List.perm_iff_count.mpr fun x => ?_
    simp only [List.count_append, List.count_cons, List.count_nil]
    omega
  · rw [if_neg hij]
    have h := ends_perm (keep_two hij ha hb)
    refine List.Perm.trans ?_ (List.Perm.append_right _ h.symm)
    show (ends (keepIx (notIJ i j) 0 ps) ++ [a.1, 4 * n, a.2, 4 * n + 2, b.1, 4 * n + 1, b.2, 4 * n + 3]).Perm ((a.1 :: a.2 :: b.1 :: b.2 :: ends (keepIx (notIJ i j) 0 ps)) ++ [4 * n, 4 * n + 1, 4 * n + 2, 4 * n + 3])
    refine List.perm_iff_count.mpr fun x => ?_
    simp only [List.count_append, List.count_cons, List.count_nil]
    omega
theorem put_len {n : Nat} {ps : List (Nat × Nat)} {i j : Nat} {a b : Nat × Nat} (ha : ps[i]? = some a) (hb : ps[j]? = some b) : (putOn n ps i j a b).length = ps.length + 2 := by
  have h := (put_ends (n := n) ha hb).length_eq
  rw [List.length_append, ends_length, ends_length] at h
  simp at h
  omega
theorem put_lines {n : Nat} {ps : List (Nat × Nat)} {i j : Nat} {a b : Nat × Nat} (L : Lines n ps) (ha : ps[i]? = some a) (hb : ps[j]? = some b) : Lines (n + 1) (putOn n ps i j a b) := by
  have hp := put_ends (n := n) ha hb
  refine ⟨by rw [put_len ha hb, L.len]; omega, hp.nodup_iff.mpr (List.nodup_append.mpr ⟨L.nd, ?_, fun x hx y hy => ?_⟩), fun e he => ?_⟩
  · simp
  · have := L.lt x hx
    simp at hy
    omega
  · rcases List.mem_append.mp (hp.mem_iff.mp he) with h | h
    · have := L.lt e h
      omega
    · simp at h
      omega
theorem put_whole {n : Nat} {ps : List (Nat × Nat)} {i j : Nat} {a b : Nat × Nat} (hn : 0 < n) (L : Lines n ps) (w : Whole n ps) (ha : ps[i]? = some a) (hb : ps[j]? = some b) : Whole (n + 1) (putOn n ps i j a b) := by
  intro P hP h0
  have old : ∀ p ∈ keepIx (notIJ i j) 0 ps, P (p.1 / 4) ↔ P (p.2 / 4) := fun p m => hP p (List.mem_append.mpr (.inl m))
  have d0 : 4 * n / 4 = n := by omega
  have d1 : (4 * n + 1) / 4 = n := by omega
  have d2 : (4 * n + 2) / 4 = n := by omega
  have d3 : (4 * n + 3) / 4 = n := by omega
  have new : ∀ p ∈ fresh n i j a b, P (p.1 / 4) ↔ P (p.2 / 4) := fun p m => hP p (List.mem_append.mpr (.inr m))
  have hA : (P (a.1 / 4) ↔ P n) ∧ (P (a.2 / 4) ↔ P n) ∧ (i ≠ j → (P (b.1 / 4) ↔ P n) ∧ (P (b.2 / 4) ↔ P n)) := by
    unfold fresh at new
    by_cases hij : i = j
    · rw [if_pos hij] at new
      have q1 := new (a.1, 4 * n) (by simp)
      have q2 := new (a.2, 4 * n + 3) (by simp)
      simp only [d0, d3] at q1 q2
      exact ⟨q1, q2, fun z => absurd hij z⟩
    · rw [if_neg hij] at new
      have q1 := new (a.1, 4 * n) (by simp)
      have q2 := new (a.2, 4 * n + 2) (by simp)
      have q3 := new (b.1, 4 * n + 1) (by simp)
      have q4 := new (b.2, 4 * n + 3) (by simp)
      simp only [d0, d1, d2, d3] at q1 q2 q3 q4
      exact ⟨q1, q2, fun _ => ⟨q3, q4⟩⟩
  have clo : ∀ p ∈ ps, P (p.1 / 4) ↔ P (p.2 / 4) := by
    intro p m
    by_cases hij : i = j
    · subst hij
      rcases List.mem_cons.mp ((keep_one ha).mem_iff.mp m) with e | m
      · subst e
        exact hA.1.trans hA.2.1.symm
      · exact old p m
    · rcases List.mem_cons.mp ((keep_two hij ha hb).mem_iff.mp m) with e | m
      · subst e
        exact hA.1.trans hA.2.1.symm
      · rcases List.mem_cons.mp m with e | m
        · subst e
          exact (hA.2.2 hij).1.trans (hA.2.2 hij).2.symm
        · exact old p m
  have all := w P clo h0
  intro c hc
  by_cases h : c < n
  · exact all c h
  · have e : c = n := by omega
    subst e
    have am : a.1 ∈ ends ps := mem_ends.mpr ⟨a, List.mem_of_getElem? ha, .inl rfl⟩
    have := L.lt _ am
    exact hA.1.mp (all _ (by omega))
end One
end P_M1

section P_M2
set_option linter.all false
namespace One
/-- what a law's own growing makes -/
structure Grown (n : Nat) (ps : List (Nat × Nat)) : Prop where
  pos : 0 < n
  lines : Lines n ps
  whole : Whole n ps
theorem grown_one {a b c d : Nat} (h : [a, b, c, d].Perm [0, 1, 2, 3]) : Grown 1 [(a, b), (c, d)] := by
  refine ⟨by decide, ⟨rfl, h.nodup_iff.mpr (by decide), fun e he => ?_⟩, fun P _ h0 x hx => ?_⟩
  · have := h.mem_iff.mp he
    simp at this
    omega
  · have e : x = 0 := by omega
    subst e
    exact h0
theorem Grown.put {n : Nat} {ps : List (Nat × Nat)} {i j : Nat} {a b : Nat × Nat} (g : Grown n ps) (ha : ps[i]? = some a) (hb : ps[j]? = some b) : Grown (n + 1) (putOn n ps i j a b) :=
  ⟨by omega, put_lines g.lines ha hb, put_whole g.pos g.lines g.whole ha hb⟩
/-- how ends are called otherwise, crossing by crossing -/
structure Called (n : Nat) (ns : List Nat) : Prop where
  perm : ns.Perm (List.range (4 * n))
  blk : ∀ i j, i < 4 * n → j < 4 * n → i / 4 = j / 4 → ns.getD i 0 / 4 = ns.getD j 0 / 4
theorem Called.len {n : Nat} {ns : List Nat} (c : Called n ns) : ns.length = 4 * n := by rw [c.perm.length_eq, List.length_range]
theorem Called.lt {n : Nat} {ns : List Nat} (c : Called n ns) {i : Nat} (hi : i < 4 * n) : ns.getD i 0 < 4 * n := by
  have h : i < ns.length := by rw [c.len]; exact hi
  rw [List.getD_eq_getElem?_getD, List.getElem?_eq_getElem h, Option.getD_some]
  exact List.mem_range.mp (c.perm.mem_iff.mp (List.getElem_mem h))
theorem Called.inj {n : Nat} {ns : List Nat} (c : Called n ns) {i j : Nat} (hi : i < 4 * n) (hj : j < 4 * n) (e : ns.getD i 0 = ns.getD j 0) : i = j := by
  have h1 : i < ns.length := by rw [c.len]; exact hi
  have h2 : j < ns.length := by rw [c.len]; exact hj
  rw [List.getD_eq_getElem?_getD, List.getElem?_eq_getElem h1, Option.getD_some, List.getD_eq_getElem?_getD, List.getElem?_eq_getElem h2, Option.getD_some] at e
  exact (List.getElem_inj (c.perm.nodup_iff.mpr List.nodup_range)).mp e
theorem Called.onto {n : Nat} {ns : List Nat} (c : Called n ns) {x : Nat} (hx : x < 4 * n) : ∃ i, i < 4 * n ∧ ns.getD i 0 = x := by
  have h := c.perm.mem_iff.mpr (List.mem_range.mpr hx)
  obtain ⟨i, hi, e⟩ := List.mem_iff_getElem.mp h
  refine ⟨i, by rw [← c.len]; exact hi, ?_⟩
  rw [List.getD_eq_getElem?_getD, List.getElem?_eq_getElem hi, Option.getD_some, e]
/-- a line, the lesser end ahead -/
def low (x y : Nat) : Nat × Nat := if y < x then (y, x) else (x, y)
def callL (ns : List Nat) (p : Nat × Nat) : Nat × Nat := low (ns.getD p.1 0) (ns.getD p.2 0)
theorem low_mem (x y : Nat) : ∀ e, (e = (low x y).1 ∨ e = (low x y).2) ↔ (e = x ∨ e = y) := by
  intro e
  unfold low
  split
  · exact Or.comm
  · exact Iff.rfl
theorem ends_map (ns : List Nat) : ∀ ps : List (Nat × Nat), (ends (ps.map (callL ns))).Perm ((ends ps).map fun e => ns.getD e 0)
  | [] => .refl _
  | p :: r => by
    have ih := ends_map ns r
    show ((callL ns p).1 :: (callL ns p).2 :: ends (r.map (callL ns))).Perm (ns.getD p.1 0 :: ns.getD p.2 0 :: (ends r).map fun e => ns.getD e 0)
    unfold callL low
    split
    · exact (List.Perm.swap _ _ _).trans (.cons _ (.cons _ ih))
    · exact .cons _ (.cons _ ih)
theorem nodup_map_on {α β : Type} {f : α → β} : ∀ {l : List α}, (∀ x ∈ l, ∀ y ∈ l, f x = f y → x = y) → l.Nodup → (l.map f).Nodup
  | [], _, _ => List.nodup_nil
  | a :: r, h, hn => by
    obtain ⟨h1, h2⟩ := List.nodup_cons.mp hn
    refine List.nodup_cons.mpr ⟨fun m => ?_, nodup_map_on (fun x hx y hy => h x (List.mem_cons.mpr (.inr hx)) y (List.mem_cons.mpr (.inr hy))) h2⟩
    obtain ⟨y, hy, e⟩ := List.mem_map.mp m
    have := h y (List.mem_cons.mpr (.inr hy)) a (List.mem_cons.mpr (.inl rfl)) e
    exact h1 (this ▸ hy)
theorem called_lines {n : Nat} {ps : List (Nat × Nat)} {ns : List Nat} (L : Lines n ps) (c : Called n ns) : Lines n (ps.map (callL ns)) := by
  have hp := ends_map ns ps
  refine ⟨by rw [List.length_map]; exact L.len, hp.nodup_iff.mpr (nodup_map_on (fun x hx y hy e => c.inj (L.lt x hx) (L.lt y hy) e) L.nd), fun e he => ?_⟩
  obtain ⟨x, hx, rfl⟩ := List.mem_map.mp (hp.mem_iff.mp he)
  exact c.lt (L.lt x hx)
theorem called_whole {n : Nat} {ps : List (Nat × Nat)} {ns : List Nat} (hn : 0 < n) (L : Lines n ps) (w : Whole n ps) (c : Called n ns) : Whole n (ps.map (callL ns)) := by
  intro P hP h0 x hx
  have clo : ∀ p ∈ ps, P (ns.getD (4 * (p.1 / 4)) 0 / 4) ↔ P (ns.getD (4 * (p.2 / 4)) 0 / 4) := by
    intro p m
    have l1 := L.lt p.1 (mem_ends.mpr ⟨p, m, .inl rfl⟩)
    have l2 := L.lt p.2 (mem_ends.mpr ⟨p, m, .inr rfl⟩)
    rw [c.blk (4 * (p.1 / 4)) p.1 (by omega) l1 (by omega), c.blk (4 * (p.2 / 4)) p.2 (by omega) l2 (by omega)]
    have q := hP (callL ns p) (List.mem_map.mpr ⟨p, m, rfl⟩)
    unfold callL low at q
    split at q
    · exact q.symm
    · exact q
  obtain ⟨i, hi, ei⟩ := c.onto (x := 0) (by omega)
  obtain ⟨j, hj, ej⟩ := c.onto (x := 4 * x) (by omega)
  have start : P (ns.getD (4 * (i / 4)) 0 / 4) := by
    rw [c.blk (4 * (i / 4)) i (by omega) hi (by omega), ei]
    exact h0
  have all := w.from (P := fun k => P (ns.getD (4 * k) 0 / 4)) clo (a := i / 4) (by omega) start (c := j / 4) (by omega)
  have all : P (ns.getD (4 * (j / 4)) 0 / 4) := all
  rw [c.blk (4 * (j / 4)) j (by omega) hj (by omega), ej] at all
  rw [show 4 * x / 4 = x by omega] at all
  exact all
/-- pairs in order -/
def ltP (p q : Nat × Nat) : Prop := p.1 < q.1 ∨ (p.1 = q.1 ∧ p.2 < q.2)
def leP (p q : Nat × Nat) : Prop := p.1 < q.1 ∨ (p.1 = q.1 ∧ p.2 ≤ q.2)
/-- a yard of n crossings -/
structure Yard (n : Nat) (L : List (Nat × Nat)) : Prop where
  pos : 0 < n
  lines : Lines n L
  whole : Whole n L
  up : L.Pairwise ltP
  low : ∀ p ∈ L, p.1 < p.2
theorem nodup_firsts : ∀ {L : List (Nat × Nat)}, (ends L).Nodup → L.Pairwise fun p q => p.1 ≠ q.1 ∧ p.1 ≠ q.2 ∧ p.2 ≠ q.1 ∧ p.2 ≠ q.2
  | [], _ => .nil
  | p :: r, h => by
    have h : (p.1 :: p.2 :: ends r).Nodup := h
    obtain ⟨h1, h2⟩ := List.nodup_cons.mp h
    obtain ⟨h3, h4⟩ := List.nodup_cons.mp h2
    refine List.pairwise_cons.mpr ⟨fun q hq => ?_, nodup_firsts h4⟩
    have m1 : q.1 ∈ ends r := mem_ends.mpr ⟨q, hq, .inl rfl⟩
    have m2 : q.2 ∈ ends r := mem_ends.mpr ⟨q, hq, .inr rfl⟩
    exact ⟨fun e => h1 (List.mem_cons.mpr (.inr (e ▸ m1))), fun e => h1 (List.mem_cons.mpr (.inr (e ▸ m2))), fun e => h3 (e ▸ m1), fun e => h3 (e ▸ m2)⟩
theorem nodup_pair : ∀ {L : List (Nat × Nat)}, (ends L).Nodup → ∀ p ∈ L, p.1 ≠ p.2
  | p :: r, h, q, m => by
    have h : (p.1 :: p.2 :: ends r).Nodup := h
    obtain ⟨h1, h2⟩ := List.nodup_cons.mp h
    rcases List.mem_cons.mp m with e | m
    · subst e
      exact fun e => h1 (List.mem_cons.mpr (.inl e))
    · exact nodup_pair (List.nodup_cons.mp h2).2 q m
/-- lines with the lesser ends ahead, sorted, are a yard -/
theorem yard_of_sorted {n : Nat} {L M : List (Nat × Nat)} (hn : 0 < n) (hL : Lines n L) (w : Whole n L) (hl : ∀ p ∈ L, p.1 ≤ p.2) (hp : M.Perm L) (hs : M.Pairwise leP) : Yard n M := by
  have hM := hL.perm hp.symm
  refine ⟨hn, hM, w.perm hp.symm, ?_, fun p m => ?_⟩
  · refine (hs.and (nodup_firsts hM.nd)).imp ?_
    rintro p q ⟨h1, h2, _⟩
    rcases h1 with h1 | ⟨h1, _⟩
    · exact .inl h1
    · exact absurd h1 h2
  · have h1 := hl p (hp.mem_iff.mp m)
    have h2 := nodup_pair hM.nd p m
    omega
theorem low_le (x y : Nat) : (low x y).1 ≤ (low x y).2 := by
  unfold low
  split <;> simp <;> omega
theorem called_yard {n : Nat} {ps M : List (Nat × Nat)} {ns : List Nat} (g : Grown n ps) (c : Called n ns) (hp : M.Perm (ps.map (callL ns))) (hs : M.Pairwise leP) : Yard n M :=
  yard_of_sorted g.pos (called_lines g.lines c) (called_whole g.pos g.lines g.whole c) (fun p m => by
    obtain ⟨q, _, rfl⟩ := List.mem_map.mp m
    exact low_le _ _) hp hs
/-! ### the calling, block by block -/
def blocks : List (Nat × List Nat) → List Nat
  | [] => []
  | b :: r => b.2.map (fun p => 4 * b.1 + p) ++ blocks r
theorem blocks_snoc : ∀ (l : List (Nat × List Nat)) (b : Nat × List Nat), blocks (l ++ [b]) = blocks l ++ b.2.map (fun p => 4 * b.1 + p)
  | [], b => by simp [blocks]
  | a :: r, b => by simp [blocks, blocks_snoc r b]
theorem blocks_len : ∀ {l : List (Nat × List Nat)}, (∀ b ∈ l, b.2.length = 4) → (blocks l).length = 4 * l.length
  | [], _ => rfl
  | a :: r, h => by
    have h1 := h a (List.mem_cons.mpr (.inl rfl))
    have h2 := blocks_len (l := r) fun b hb => h b (List.mem_cons.mpr (.inr hb))
    simp [blocks, h1, h2]
    omega
theorem blocks_get : ∀ {l : List (Nat × List Nat)}, (∀ b ∈ l, b.2.Perm [0, 1, 2, 3]) → ∀ i, i < 4 * l.length → ∃ b ∈ l, l[i / 4]? = some b ∧ (blocks l).getD i 0 / 4 = b.1
  | [], _, i, hi => by simp at hi
  | a :: r, h, i, hi => by
    have ha := h a (List.mem_cons.mpr (.inl rfl))
    have hlen : (a.2.map (fun p => 4 * a.1 + p)).length = 4 := by rw [List.length_map, ha.length_eq]; rfl
    by_cases hi4 : i < 4
    · refine ⟨a, List.mem_cons.mpr (.inl rfl), by rw [show i / 4 = 0 by omega]; rfl, ?_⟩
      have hx : i < a.2.length := by rw [ha.length_eq]; exact hi4
      have hm := ha.mem_iff.mp (List.getElem_mem hx)
      have e : (blocks (a :: r)).getD i 0 = 4 * a.1 + a.2[i] := by
        show (a.2.map (fun p => 4 * a.1 + p) ++ blocks r).getD i 0 = _
        rw [List.getD_eq_getElem?_getD, List.getElem?_append_left (by rw [hlen]; exact hi4), List.getElem?_map, List.getElem?_eq_getElem hx]
        rfl
      rw [e]
      simp at hm
      omega
    · have hi' : i - 4 < 4 * r.length := by simp at hi; omega
      obtain ⟨b, hb, h1, h2⟩ := blocks_get (l := r) (fun b hb => h b (List.mem_cons.mpr (.inr hb))) (i - 4) hi'
      refine ⟨b, List.mem_cons.mpr (.inr hb), ?_, ?_⟩
      · rw [show i / 4 = (i - 4) / 4 + 1 by omega]
        exact h1
      · have e : (blocks (a :: r)).getD i 0 = (blocks r).getD (i - 4) 0 := by
          show (a.2.map (fun p => 4 * a.1 + p) ++ blocks r).getD i 0 = _
          rw [List.getD_eq_getElem?_getD, List.getElem?_append_right (by rw [hlen]; omega), hlen, List.getD_eq_getElem?_getD]
        rw [e]
        exact h2
theorem blocks_perm : ∀ {l m : List (Nat × List Nat)}, l.Perm m → (blocks l).Perm (blocks m) := fun h => by
  induction h with
  | nil => exact .refl _
  | cons x _ ih => exact List.Perm.append_left _ ih
  | swap x y l =>
    show (y.2.map (fun p => 4 * y.1 + p) ++ (x.2.map (fun p => 4 * x.1 + p) ++ blocks l)).Perm (x.2.map (fun p => 4 * x.1 + p) ++ (y.2.map (fun p => 4 * y.1 + p) ++ blocks l))
    rw [← List.append_assoc, ← List.append_assoc]
    exact List.Perm.append_right _ List.perm_append_comm
  | trans _ _ i j => exact i.trans j
theorem blocks_std : ∀ (l : List (Nat × List Nat)), (∀ b ∈ l, b.2.Perm [0, 1, 2, 3]) → (blocks l).Perm (blocks (l.map fun b => (b.1, [0, 1, 2, 3])))
  | [], _ => .refl _
  | a :: r, h => List.Perm.append (List.Perm.map _ (h a (List.mem_cons.mpr (.inl rfl)))) (blocks_std r fun b hb => h b (List.mem_cons.mpr (.inr hb)))
theorem blocks_range : ∀ n : Nat, blocks ((List.range n).map fun c => (c, [0, 1, 2, 3])) = List.range (4 * n)
  | 0 => rfl
  | n + 1 => by
    rw [List.range_succ, List.map_append, List.map_cons, List.map_nil, blocks_snoc, blocks_range n, show 4 * (n + 1) = 4 * n + 4 by omega]
    rw [show 4 * n + 4 = (4 * n + 3) + 1 by omega, List.range_succ, show 4 * n + 3 = (4 * n + 2) + 1 by omega, List.range_succ, show 4 * n + 2 = (4 * n + 1) + 1 by omega, List.range_succ, List.range_succ]
    simp
theorem called_of_blocks {n : Nat} {l : List (Nat × List Nat)} (hp : (l.map Prod.fst).Perm (List.range n)) (hb : ∀ b ∈ l, b.2.Perm [0, 1, 2, 3]) : Called n (blocks l) := by
  have hlen : l.length = n := by rw [← List.length_map (f := Prod.fst) (as := l), hp.length_eq, List.length_range]
  refine ⟨?_, fun i j hi hj e => ?_⟩
  · refine (blocks_std l hb).trans ?_
    rw [← blocks_range n]
    refine blocks_perm ?_
    rw [show (fun b : Nat × List Nat => (b.1, [0, 1, 2, 3])) = (fun c => (c, [0, 1, 2, 3])) ∘ Prod.fst from rfl, ← List.map_map]
    exact List.Perm.map _ hp
  · obtain ⟨b, _, h1, h2⟩ := blocks_get hb i (by rw [hlen]; exact hi)
    obtain ⟨d, _, h3, h4⟩ := blocks_get hb j (by rw [hlen]; exact hj)
    rw [e, h3] at h1
    cases h1
    rw [h2, h4]
end One
end P_M2

section P_N0
set_option linter.all false
set_option maxRecDepth 100000
set_option maxHeartbeats 4000000
namespace One
open PySem PySem.Spec PyProof.Rows L2
def top (i : Nat) : Stmt := PySem.Challenge.pw_oneround_k15_leads_judged.main.body.getD i (.Pass ⟨0, 0, 0, 0⟩)

/-! ### a list that is only read, with a list behind it -/
theorem add_read (l : Addr) (items : Array Value) (n : Nat) (sl : Array (Option Value)) (b : Addr) (items2 : Array Value) (n2 : Nat) (hc0 : items.size + items2.size ≤ sizeLine) :
    Meets (Builtin.«list.__add__» ⟨[.ref l, .ref b], []⟩) (fun _ R s => s.heap.get? l = some ⟨.type "list", none, .seq items n, sl⟩ ∧ s.heap.get? b = some ⟨.type "list", none, .seq items2 n2, #[]⟩ ∧
      R (.ok (.ret (Value.ref s.heap.objs.size))) { s with heap := s.heap.push { cls := Value.type "list", data := Data.seq (items ++ items2) }, toks := s.toks }) :=
  .of_wp fun prog w A R s h => by
    obtain ⟨hp, g, d, tk, os⟩ := s
    obtain ⟨hl, hb, h⟩ := h
    have f1 := PySem.AutoSeq1.idx_int
    have f3 := PySem.AutoSeq1.sub_list_list
    wp_walk using PySem.AutoSeq1.wpAny_loadPart' hl, PySem.AutoSeq1.wpAny_loadPart' hb
    exact ⟨_, rfl, h⟩
section
variable {X : Cx}
def rCatS (K : PySem.W.Frag) : R2 := fun x y H Q => ∃ l b xs zs, x = .ref l ∧ y = .ref b ∧ SqL K H l xs ∧ H b = some (.lst zs) ∧ xs.length + zs.length ≤ sizeLine ∧ ∀ p, H p = none → Q (.ref p) (upd H p (.lst (xs ++ zs)))
theorem op_catS : OpR X (binaryOp .Add) (rCatS X.K) := by
  intro pins s σ H x y v u Q I rx ry h
  obtain ⟨l, b, xs, zs, rfl, rfl, hS, hB, hz, q⟩ := h
  cases rx
  cases ry
  obtain ⟨its, r, ⟨⟨oc, od, oda, osl⟩, n, e, ec, ed, edd⟩, hl⟩ := I.list hS
  dsimp only at ec ed edd
  subst ec ed edd
  obtain ⟨z2, its2, n2, r2, hl2, e2⟩ := I.lstM hB
  have ha : s.TypeIs (.ref l) "list" := ⟨_, e, rfl⟩
  have hb : s.TypeIs (.ref b) "list" := ⟨_, e2, rfl⟩
  have hsz : its.toArray.size + its2.toArray.size ≤ sizeLine := by
    rw [List.size_toArray, List.size_toArray, ← r.length, ← r2.length]
    exact hz
  refine PySem.concat_meets ha hb PySem.noFill_list_add PySem.seq_list_add F.slot_list_add F.entry_list_add (F.args_list_add_2 _ _) (add_read l its.toArray n osl b its2.toArray n2 hsz) ⟨e, e2, ?_⟩
  have ea : its.toArray ++ its2.toArray = (its ++ its2).toArray := by simp
  rw [ea]
  exact ⟨.ref _, _, I.lnew (t' := s.toks) (r.append r2) (by rw [List.length_append]; exact hz), rfl, q _ I.fresh⟩
end
/-- all but p stands as it stood -/
def But (p : Addr) (H H' : Hp) : Prop := ∀ b, b ≠ p → H' b = H b
/-- all that stood but p stands as it stood -/
def Ext (p : Addr) (H H' : Hp) : Prop := ∀ b o, b ≠ p → H b = some o → H' b = some o
theorem But.ext {p : Addr} {H H' : Hp} (h : But p H H') : Ext p H H' := fun b o hb e => (h b hb).trans e
theorem But.trans {p : Addr} {H H1 H2 : Hp} (h : But p H H1) (k : But p H1 H2) : But p H H2 := fun b hb => (k b hb).trans (h b hb)
theorem Ext.refl (p : Addr) (H : Hp) : Ext p H H := fun _ _ _ e => e
theorem Ext.trans {p : Addr} {H H1 H2 : Hp} (h : Ext p H H1) (k : Ext p H1 H2) : Ext p H H2 := fun b o hb e => k b o hb (h b o hb e)
theorem Ext.same {p : Addr} {H H1 : Hp} (h : Same H H1) : Ext p H H1 := fun b o _ e => h b o e
theorem Ext.new {p q : Addr} {H : Hp} {o : HO} (h : H q = none) : Ext p H (upd H q o) := fun b u _ e => by
  rw [upd_ne (ne_of_none e h)]
  exact e
/-- the names that the program's top leaves to the built-ins -/
structure TB (mg : Str → Option Value) : Prop where
  len : mg "len" = none
  range : mg "range" = none
  tuple : mg "tuple" = none
  list : mg "list" = none
  sorted : mg "sorted" = none
  enumerate : mg "enumerate" = none
  isinstance : mg "isinstance" = none
  int : mg "int" = none
  bool : mg "bool" = none
  repr : mg "repr" = none
  all : mg "all" = none
theorem get_cell {cells : List Int} {i : Int} (h0 : 0 ≤ i) (h1 : i < (cells.length : Int)) : ∃ z, atI (cells.map V.int) i = some (V.int z) := by
  have hlt : i.toNat < cells.length := by omega
  refine ⟨cells[i.toNat], at_of (j := i.toNat) (by omega) ?_⟩
  rw [List.getElem?_map, List.getElem?_eq_getElem hlt]
  rfl
theorem But.upd {p : Addr} {H H' : Hp} {o : HO} (h : But p H H') : But p H (upd H' p o) := fun b hb => (upd_ne hb).trans (h b hb)
/-- a test, then what comes of it, with a word between them -/
def tMid (t : TT) : TT := fun σ H Q => ∃ M : Bool → Hp → Prop, t σ H M ∧ ∀ b H', M b H' → Q b H'
theorem pt_mid {X : Cx} {e : Expr} {t : TT} (h : PT X e t) : PT X e (tMid t) := ⟨fun pins s σ H Q I ⟨M, h1, h2⟩ =>
  thn (h.run pins s σ H M I h1) fun b s' ⟨H', I', q⟩ => ⟨H', I', h2 b H' q⟩⟩
/-- an expression, then what comes of it, with a word between them -/
def tMidE (t : TE) : TE := fun σ H Q => ∃ M : V → Hp → Prop, t σ H M ∧ ∀ v H', M v H' → Q v H'
theorem pe_mid {X : Cx} {e : Expr} {t : TE} (h : PE X e t) : PE X e (tMidE t) := ⟨fun pins s σ H Q I ⟨M, h1, h2⟩ =>
  thn (h.run pins s σ H M I h1) fun u s' ⟨v, H', I', r, q⟩ => ⟨v, H', I', r, h2 v H' q⟩⟩

/-- a def that is called by its name -/
structure Cal (K : PySem.W.Frag) (mg : Str → Option Value) (x : Str) (f : Addr) (fd : FuncData) (ps : List Str) : Prop where
  g : mg x = some (.ref f)
  kp : PySem.W.keepIn K (.ref f) = true
  b : Binds K fd ps []
/-- at a stands the pair p -/
def PAt (H : Hp) (a : Addr) (p : Nat × Nat) : Prop := H a = some (.tup [.int (p.1 : Nat), .int (p.2 : Nat)])
/-- at these addresses stand these pairs -/
inductive PL (H : Hp) : List Addr → List (Nat × Nat) → Prop
  | nil : PL H [] []
  | cons {a p as ps} : PAt H a p → PL H as ps → PL H (a :: as) (p :: ps)
theorem PL.len {H : Hp} {as : List Addr} {ps : List (Nat × Nat)} (h : PL H as ps) : as.length = ps.length := by
  induction h with
  | nil => rfl
  | cons _ _ ih => simp [ih]
theorem PL.get {H : Hp} {as : List Addr} {ps : List (Nat × Nat)} (h : PL H as ps) : ∀ {i : Nat} {p : Nat × Nat}, ps[i]? = some p → ∃ a, as[i]? = some a ∧ PAt H a p := by
  induction h with
  | nil => intro i p e; simp at e
  | cons h1 _ ih =>
    intro i p e
    cases i with
    | zero =>
      have e := Option.some.inj e
      subst e
      exact ⟨_, rfl, h1⟩
    | succ i => exact ih (i := i) (by simpa using e)
theorem PL.got {H : Hp} {as : List Addr} {ps : List (Nat × Nat)} (h : PL H as ps) : ∀ {i : Nat} {a : Addr}, as[i]? = some a → ∃ p, ps[i]? = some p ∧ PAt H a p := by
  induction h with
  | nil => intro i p e; simp at e
  | cons h1 _ ih =>
    intro i p e
    cases i with
    | zero =>
      have e := Option.some.inj e
      subst e
      exact ⟨_, rfl, h1⟩
    | succ i => exact ih (i := i) (by simpa using e)
theorem PL.app {H : Hp} {as bs : List Addr} {ps qs : List (Nat × Nat)} (h : PL H as ps) (k : PL H bs qs) : PL H (as ++ bs) (ps ++ qs) := by
  induction h with
  | nil => exact k
  | cons h1 _ ih => exact .cons h1 ih
theorem PL.mono {H H' : Hp} {as : List Addr} {ps : List (Nat × Nat)} (h : PL H as ps) (k : ∀ b xs, H b = some (.tup xs) → H' b = some (.tup xs)) : PL H' as ps := by
  induction h with
  | nil => exact .nil
  | cons h1 _ ih => exact .cons (k _ _ h1) ih
theorem PL.keep {H : Hp} {as : List Addr} {ps : List (Nat × Nat)} (h : PL H as ps) (f : Nat → Bool) : ∀ k, PL H (keepIx f k as) (keepIx f k ps) := by
  induction h with
  | nil => intro k; exact .nil
  | cons h1 _ ih =>
    intro k
    unfold keepIx
    split
    · exact .cons h1 (ih _)
    · exact ih _
theorem sameT {H H' : Hp} (e : Same H H') : ∀ b xs, H b = some (.tup xs) → H' b = some (.tup xs) := fun b xs h => e b _ h
theorem Same.new {H : Hp} {q : Addr} {o : HO} (h : H q = none) : Same H (upd H q o) := fun b u e => by
  rw [upd_ne (ne_of_none e h)]
  exact e
abbrev refs (as : List Addr) : List V := as.map V.ref
/-- a display of two pairs of written numbers -/
theorem rd_two {a b c d : Int} {σ : L2.St} {H : Hp} {Q : VK} (h : ∀ (H' : Hp) (l t1 t2 : Addr), Same H H' → H' l = some (.lst [.ref t1, .ref t2]) → H' t1 = some (.tup [.int a, .int b]) → H' t2 = some (.tup [.int c, .int d]) → Q (.ref l) H') :
    tLst (tCons (tTup (tCons (tC (.int a)) (tCons (tC (.int b)) tNil))) (tCons (tTup (tCons (tC (.int c)) (tCons (tC (.int d)) tNil))) tNil)) σ H Q := by
  refine ⟨by show 2 ≤ sizeLine; decide, fun t1 h1 => ⟨by show 2 ≤ sizeLine; decide, fun t2 h2 => ⟨by show 2 ≤ sizeLine; decide, fun l hl => ?_⟩⟩⟩
  have s1 := Same.new (o := .tup [.int a, .int b]) h1
  have s2 := Same.new (o := .tup [.int c, .int d]) h2
  have s3 := Same.new (o := .lst [.ref t1, .ref t2]) hl
  exact h _ l t1 t2 (s1.trans (s2.trans s3)) upd_same (s3 _ _ (s2 _ _ upd_same)) (s3 _ _ upd_same)
/-- where the dict of the draws stands -/
def DictAt (H : Hp) (p : Addr) : Prop := ∃ kvs, H p = some (.dK kvs)
theorem tupD {p : Addr} {H H' : Hp} (hd : DictAt H p) (e : Ext p H H') : ∀ b xs, H b = some (.tup xs) → H' b = some (.tup xs) := fun b xs h => by
  obtain ⟨kvs, h1⟩ := hd
  exact e b _ (ne_of h h1 (by intro z; cases z)) h
theorem DictAt.neL {p L : Addr} {H : Hp} {xs : List V} (hd : DictAt H p) (h : H L = some (.lst xs)) : L ≠ p := fun z => by
  obtain ⟨kvs, h1⟩ := hd
  rw [z, h1] at h
  cases h
theorem two_le : 2 ≤ sizeLine := by decide
/-- two tuples and a list of both, made one behind another -/
theorem made_two {H : Hp} {t1 t2 l : Addr} {x y : List V} {zs : List V} (h1 : H t1 = none) (h2 : upd H t1 (.tup x) t2 = none) (h3 : upd (upd H t1 (.tup x)) t2 (.tup y) l = none) :
    ∃ H', H' = upd (upd (upd H t1 (.tup x)) t2 (.tup y)) l (.lst zs) ∧ Same H H' ∧ H' l = some (.lst zs) ∧ H' t1 = some (.tup x) ∧ H' t2 = some (.tup y) := by
  have s1 := Same.new (o := .tup x) h1
  have s2 := Same.new (o := .tup y) h2
  have s3 := Same.new (o := .lst zs) h3
  exact ⟨_, rfl, s1.trans (s2.trans s3), upd_same, s3 _ _ (s2 _ _ upd_same), s3 _ _ upd_same⟩
theorem PAt.of {H : Hp} {t : Addr} {x y : Int} {a b : Nat} (h : H t = some (.tup [.int x, .int y])) (hx : x = (a : Nat)) (hy : y = (b : Nat)) : PAt H t (a, b) := by
  subst hx hy
  exact h
theorem refs_app (a b : List Addr) : refs (a ++ b) = refs a ++ refs b := List.map_append
theorem in_two (j j1 j2 : Nat) : (!inV (V.int (j : Nat)) [V.int (j1 : Nat), V.int (j2 : Nat)]) = notIJ j1 j2 j := by
  unfold inV notIJ
  simp only [List.any_cons, List.any_nil, Bool.or_false]
  have e : ∀ k : Nat, eqV (V.int (k : Nat)) (V.int (j : Nat)) = decide (j = k) := by
    intro k
    show ((k : Int) == (j : Int)) = decide (j = k)
    by_cases q : j = k
    · subst q
      simp
    · have q' : ¬ (k : Int) = (j : Int) := by omega
      simp [q, q']
  rw [e, e, Bool.not_or]
theorem ref_at {as : List Addr} {i : Nat} {a : Addr} (h : as[i]? = some a) : atI (refs as) (i : Nat) = some (.ref a) := at_of (j := i) rfl (by rw [List.getElem?_map, h]; rfl)
abbrev nats (ns : List Nat) : List V := ns.map fun x => V.int (x : Nat)
theorem nats_app (a b : List Nat) : nats (a ++ b) = nats a ++ nats b := List.map_append
theorem nats_at {ns : List Nat} {i x : Nat} (h : ns[i]? = some x) : (nats ns)[i]? = some (V.int (x : Nat)) := by rw [List.getElem?_map, h]; rfl
theorem nats_erase : ∀ (ns : List Nat) (k : Nat), (nats ns).eraseIdx k = nats (ns.eraseIdx k)
  | [], _ => rfl
  | x :: r, 0 => rfl
  | x :: r, k + 1 => by
    show V.int (x : Nat) :: (nats r).eraseIdx k = V.int (x : Nat) :: nats (r.eraseIdx k)
    rw [nats_erase r k]
theorem nats_range (n : Nat) : rgV 0 (n : Nat) = nats (List.range n) := by
  unfold rgV
  have e : (((n : Nat) : Int) - 0).toNat = n := by omega
  rw [e]
  refine List.map_congr_left fun x _ => ?_
  rw [Int.zero_add]
theorem seq_ix {j n : Nat} (h : j < n) : seqIndex? ((j : Nat) : Int) n = some j := by
  unfold seqIndex?
  simp
  omega
theorem erase_perm : ∀ {l : List Nat} {k x : Nat}, l[k]? = some x → l.Perm (x :: l.eraseIdx k)
  | [], k, x, h => by simp at h
  | y :: r, 0, x, h => by
    have e : y = x := Option.some.inj h
    subst e
    exact .refl _
  | y :: r, k + 1, x, h => (List.Perm.cons y (erase_perm (l := r) (k := k) (by simpa using h))).trans (.swap _ _ _)
theorem Ext.wr {p q : Addr} {H H' : Hp} {o : HO} (e : Ext p H H') (h : H q = none) : Ext p H (upd H' q o) := fun b u hb hu => by
  rw [upd_ne (ne_of_none hu h)]
  exact e b u hb hu
theorem Ext.free {p q : Addr} {H H' : Hp} (e : Ext p H H') (hq : q ≠ p) (h : H' q = none) : H q = none := by
  cases z : H q with
  | none => rfl
  | some o =>
    rw [e q o hq z] at h
    cases h
theorem yes {σ : L2.St} {H : Hp} {A B : Hp → Prop} (h : A H) : tYes σ H (fun b H3 => if b = true then A H3 else B H3) := by
  show if true = true then A H else B H
  rw [if_pos rfl]
  exact h
def rLen (K : PySem.W.Frag) : List V → Hp → VK → Prop := fun xs H Q => ∃ p ys, xs = [.ref p] ∧ (SqL K H p ys ∨ SqT K H p ys) ∧ Q (.int ys.length) H

/-! ### sorting pairs -/
/-- the pair that stands at an address -/
def keyN (H : Hp) (a : Addr) : Nat × Nat := match H a with
  | some (.tup [.int i, .int j]) => (i.toNat, j.toNat)
  | _ => (0, 0)
theorem keyN_of {H : Hp} {a : Addr} {p : Nat × Nat} (h : PAt H a p) : keyN H a = p := by
  unfold keyN
  rw [show H a = some (.tup [.int (p.1 : Nat), .int (p.2 : Nat)]) from h]
  rfl
theorem PL.keys {H : Hp} {as : List Addr} {ps : List (Nat × Nat)} (h : PL H as ps) : ps = as.map (keyN H) ∧ ∀ a ∈ as, PAt H a (keyN H a) := by
  induction h with
  | nil => exact ⟨rfl, fun a m => absurd m (by simp)⟩
  | cons h1 _ ih =>
    rw [List.map_cons, keyN_of h1]
    refine ⟨by rw [← ih.1], fun a m => ?_⟩
    rcases List.mem_cons.mp m with e | m
    · subst e
      rw [keyN_of h1]
      exact h1
    · exact ih.2 a m
theorem PL.of_keys {H : Hp} : ∀ {as : List Addr}, (∀ a ∈ as, PAt H a (keyN H a)) → PL H as (as.map (keyN H))
  | [], _ => .nil
  | a :: r, h => .cons (h a (List.mem_cons.mpr (.inl rfl))) (PL.of_keys fun b hb => h b (List.mem_cons.mpr (.inr hb)))
def backA : V → Addr
  | .ref a => a
  | _ => 0
theorem refs_of : ∀ {ys : List V}, (∀ y ∈ ys, ∃ a, y = V.ref a) → ys = refs (ys.map backA)
  | [], _ => rfl
  | y :: r, h => by
    obtain ⟨a, rfl⟩ := h y (List.mem_cons.mpr (.inl rfl))
    show V.ref a :: r = V.ref a :: refs (r.map backA)
    rw [← refs_of fun z hz => h z (List.mem_cons.mpr (.inr hz))]
theorem back_refs (as : List Addr) : (refs as).map backA = as := by
  rw [refs, List.map_map]
  exact List.map_id' as
/-- sorted(xs), xs a list of pairs -/
theorem rd_sorted {K : PySem.W.Frag} {H : Hp} {Q : VK} {a : Addr} {as : List Addr} {ps : List (Nat × Nat)} (hs : SqL K H a (refs as)) (hP : PL H as ps)
    (h : ∀ (bs : List Addr) (qs : List (Nat × Nat)) (p : Addr), PL H bs qs → qs.Perm ps → qs.Pairwise leP → H p = none → Q (.ref p) (upd H p (.lst (refs bs)))) : rSortedPO K [.ref a] H Q := by
  obtain ⟨e1, e2⟩ := hP.keys
  refine ⟨a, refs as, fun v => (((keyN H (backA v)).1 : Nat), ((keyN H (backA v)).2 : Nat)), rfl, hs, fun x hx => ?_, fun ys p h1 h2 hp => ?_⟩
  · obtain ⟨b, hb, rfl⟩ := List.mem_map.mp hx
    exact ⟨b, rfl, e2 b hb⟩
  · have hy : ys = refs (ys.map backA) := refs_of fun y m => by
      obtain ⟨b, _, e⟩ := List.mem_map.mp (h2.perm.mem_iff.mp m)
      exact ⟨b, e.symm⟩
    have hb : (ys.map backA).Perm as := by
      have := h2.perm.map backA
      rwa [back_refs] at this
    rw [hy]
    refine h (ys.map backA) ((ys.map backA).map (keyN H)) p (PL.of_keys fun b m => e2 b (hb.mem_iff.mp m)) (by rw [e1]; exact hb.map _) ?_ hp
    rw [List.map_map, List.pairwise_map]
    refine List.Pairwise.imp ?_ h1
    intro x y hxy
    have q := SrtO.lexB_no.mp hxy
    show leP (keyN H (backA x)) (keyN H (backA y))
    unfold leP
    simp only at q
    omega
/-- sorted([x, y]) -/
theorem low_of {x y : Nat} {ns : List Int} (hp : ns.Perm [((x : Nat) : Int), ((y : Nat) : Int)]) (hs : ns.Pairwise (· ≤ ·)) : ns = [(((low x y).1 : Nat) : Int), (((low x y).2 : Nat) : Int)] := by
  have hl := hp.length_eq
  match ns, hl with
  | [a, b], _ =>
    have hab : a ≤ b := by
      have := (List.pairwise_cons.mp hs).1 b (by simp)
      exact this
    have ha := hp.mem_iff (a := a)
    have hb := hp.mem_iff (a := b)
    have c1 := hp.count_eq a
    have c2 := hp.count_eq b
    simp only [List.mem_cons, List.not_mem_nil, or_false, true_or, or_true, true_iff] at ha hb
    unfold low
    rcases ha with rfl | rfl <;> rcases hb with rfl | rfl
    · simp only [List.count_cons, List.count_nil, beq_self_eq_true, if_true] at c1
      by_cases q : ((y : Int) == (x : Int)) = true
      · have : y = x := by
          have z : (y : Int) = (x : Int) := by simpa using q
          omega
        subst this
        split <;> rfl
      · rw [if_neg q] at c1
        omega
    · rw [if_neg (by omega)]
    · by_cases q : y < x
      · rw [if_pos q]
      · have : x = y := by omega
        subst this
        rw [if_neg q]
    · simp only [List.count_cons, List.count_nil, beq_self_eq_true, if_true] at c1
      by_cases q : ((x : Int) == (y : Int)) = true
      · have : x = y := by
          have z : (x : Int) = (y : Int) := by simpa using q
          omega
        subst this
        split <;> rfl
      · rw [if_neg q] at c1
        omega
/-- at t stands a yard of n crossings, a tuple of these pairs -/
def YAt (H : Hp) (t : Addr) (n : Nat) (ps : List (Nat × Nat)) : Prop := Yard n ps ∧ ∃ as : List Addr, H t = some (.tup (refs as)) ∧ PL H as ps
theorem YAt.mono {H H' : Hp} {t : Addr} {n : Nat} {ps : List (Nat × Nat)} (h : YAt H t n ps) (k : ∀ b xs, H b = some (.tup xs) → H' b = some (.tup xs)) : YAt H' t n ps := by
  obtain ⟨y, as, h1, h2⟩ := h
  exact ⟨y, as, k _ _ h1, h2.mono k⟩

end One
end P_N0

section P_E1
set_option linter.all false
set_option maxRecDepth 100000
set_option maxHeartbeats 4000000
/-! Ranges with a step as values; what kind a value is. -/
namespace One
open PySem PySem.Spec PyProof.Rows L2
def RngO (a : Addr) (lo hi c : Int) : HO := .ext fun h => ∃ t u v, h.get? a = some { cls := .type "range", data := .fields #[.int lo t, .int hi u, .int c v] }
theorem rng_has (r : Addr) (a b c i : Int) (t u v k : Tok) :
    Meets (Builtin.«range.__contains__» ⟨[.ref r, .int i k], []⟩) (fun _ R s => s.heap.get? r = some ⟨.type "range", none, .fields #[.int a t, .int b u, .int c v], #[]⟩ ∧ R (.ok (.ret (.bool (Builtin.Range.rangePlace? a b c i).isSome))) s) :=
  .of_wp fun prog w A R s h => by
    obtain ⟨hp, g, d, tk, os⟩ := s
    obtain ⟨hl, h⟩ := h
    wp_walk
    exact ⟨_, rfl, h⟩
section
variable {X : Cx}
theorem op_in_rngC : OpR X (compareOp .In) (fun x y H Q => ∃ i a lo hi c, x = V.int i ∧ y = V.ref a ∧ H a = some (RngO a lo hi c) ∧ Q (.bl (Builtin.Range.rangePlace? lo hi c i).isSome) H) := by
  intro pins s σ H x y v u Q I rx ry h
  obtain ⟨i, a, lo, hi, c, rfl, rfl, ha, q⟩ := h
  obtain ⟨k, rfl⟩ := rx
  obtain rfl : u = Value.ref a := ry
  obtain ⟨⟨t1, t2, t3, ho⟩, _, _⟩ := I.hok a _ ha
  refine (show wpAny _ _ (do return Value.bool (← contains (Value.ref a) (Value.int i k))) _ _ s from ?_)
  exact wpAny_bind (wpAny_contains_slot (T := "range") ⟨_, ho, rfl⟩ F.slot_range_contains (call_meets F.slot_range_contains ⟨_, ho, rfl⟩ F.entry_range_contains (F.args_range_contains_2 _ _) (rng_has a lo hi c i t1 t2 t3 k)
    ⟨ho, wpAny_truthy_bool (wpAny_pure ⟨.bl _, H, I, rfl, q⟩)⟩))
theorem cr_range3 : CallR X (.type "range") (fun vs H Q => ∃ i j c, vs = [V.int i, V.int j, V.int c] ∧ (c ≠ 0 ∧ c.natAbs < 1073741824) ∧ ∀ p, H p = none → Q (.ref p) (upd H p (RngO p i j c))) := by
  intro pins s σ H vs us Q I r h
  obtain ⟨i, j, c, rfl, hc, q⟩ := h
  obtain ⟨u1, u2, u3, rfl, ri, rj, rc⟩ : ∃ u1 u2 u3, us = [u1, u2, u3] ∧ RelV (V.int i) u1 ∧ RelV (V.int j) u2 ∧ RelV (V.int c) u3 := by
    cases r with
    | cons p q =>
      cases q with
      | cons p' q' =>
        cases q' with
        | cons p'' q'' =>
          cases q''
          exact ⟨_, _, _, rfl, p, p', p''⟩
  obtain ⟨t, rfl⟩ := ri
  obtain ⟨t2, rfl⟩ := rj
  obtain ⟨t3, rfl⟩ := rc
  have hget : (s.heap.push { cls := .type "range", data := .fields #[.int i t, .int j t2, .int c t3] }).get? s.heap.objs.size = some { cls := .type "range", data := .fields #[.int i t, .int j t2, .int c t3] } := Heap.get?_push_size _ rfl
  refine call_range_3 hc.1 ?_ (.inl (PyProof.noPylong_small hc.2))
  exact ⟨.ref s.heap.objs.size, upd H s.heap.objs.size (RngO s.heap.objs.size i j c), I.laid (t' := s.toks) (fun b o e => Heap.get?_push_of_some _ e) (Nat.le_refl _) ⟨⟨t, t2, t3, hget⟩, ⟨_, hget⟩, fun h1 h2 ⟨a, b, d, e⟩ st => ⟨a, b, d, st _ e⟩⟩, rfl, q _ (I.hok.fresh (Nat.le_refl _))⟩
end
end One
end P_E1

section P_E2
set_option linter.all false
set_option maxRecDepth 100000
set_option maxHeartbeats 4000000
namespace One
open PySem PySem.Spec PyProof.Rows L2
/-! ### what kind a value is -/
inductive TV (H : Hp) : V → String → Prop
  | non : TV H .non "NoneType"
  | bl (b : Bool) : TV H (.bl b) "bool"
  | int (i : Int) : TV H (.int i) "int"
  | str (x : Str) : TV H (.str x) "str"
  | tup {a : Addr} {xs : List V} (e : H a = some (.tup xs)) : TV H (.ref a) "tuple"
  | lst {a : Addr} {xs : List V} (e : H a = some (.lst xs)) : TV H (.ref a) "list"
  | dct {a : Addr} {kvs : List (Key × V)} (e : H a = some (.dK kvs)) : TV H (.ref a) "dict"
theorem TV.tyx {K : PySem.W.Frag} {H : Hp} {v : V} {T : String} (h : TV H v T) : TyX K H v (.type T) := by
  cases h with
  | non => exact .base .non
  | bl b => exact .base (.bl b)
  | int i => exact .base (.int i)
  | str x => exact .base (.str x)
  | tup e => exact .base (.tup e)
  | lst e => exact .base (.lst e)
  | dct e => exact .base (.dK e)
def isI : V → Bool
  | .int _ => true
  | _ => false
def belowV (v : V) (n : Int) : Bool := match v with
  | .int i => decide (0 ≤ i) && decide (i < n)
  | _ => false
theorem nof {p : Prop} (z : false = true) : p := by cases z
theorem noT {p : Prop} (z : true = false) : p := by cases z
theorem TV.kInt {K : PySem.W.Frag} {H : Hp} {v : V} {T : String} (h : TV H v T) : ∃ b, PySem.W.kitOne K (.type T) (.type "int") = some b ∧ (b = true → ∃ b2, PySem.W.kitOne K (.type T) (.type "bool") = some b2 ∧ isI v = !b2) ∧ (b = false → isI v = false) := by
  cases h with
  | non => exact ⟨false, kit_ty (by decide +kernel), nof, fun _ => rfl⟩
  | bl b => exact ⟨true, kit_ty (by decide +kernel), fun _ => ⟨true, kit_ty (by decide +kernel), rfl⟩, noT⟩
  | int i => exact ⟨true, kit_ty (by decide +kernel), fun _ => ⟨false, kit_ty (by decide +kernel), rfl⟩, noT⟩
  | str x => exact ⟨false, kit_ty (by decide +kernel), nof, fun _ => rfl⟩
  | tup e => exact ⟨false, kit_ty (by decide +kernel), nof, fun _ => rfl⟩
  | lst e => exact ⟨false, kit_ty (by decide +kernel), nof, fun _ => rfl⟩
  | dct e => exact ⟨false, kit_ty (by decide +kernel), nof, fun _ => rfl⟩
def isTup (T : String) : Bool := T == "tuple"
theorem TV.kTup {K : PySem.W.Frag} {H : Hp} {v : V} {T : String} (h : TV H v T) : PySem.W.kitOne K (.type T) (.type "tuple") = some (isTup T) := by
  cases h <;> exact kit_ty (by decide +kernel)
/-- the constants of the program's top -/
structure TC (mg : Str → Option Value) : Prop where
  most : ∃ t, mg "MOST_CROSSINGS" = some (.int 40 t)
  places : ∃ t, mg "PLACES" = some (.int 4 t)
abbrev sIsNum : Stmt := top 22
abbrev sIsBelow : Stmt := top 23
abbrev sCanBe : Stmt := top 32
abbrev sIsLine : Stmt := top 33
theorem scIsNum : FnScope ["thing"] ["thing"] (defScope sIsNum) := ⟨rfl, rfl, rfl, by decide +kernel, rfl, by decide +kernel, by decide +kernel⟩
theorem scIsBelow : FnScope ["thing", "many"] ["thing", "many"] (defScope sIsBelow) := ⟨rfl, rfl, rfl, by decide +kernel, rfl, by decide +kernel, by decide +kernel⟩
theorem scCanBe : FnScope ["many"] ["many"] (defScope sCanBe) := ⟨rfl, rfl, rfl, by decide +kernel, rfl, by decide +kernel, by decide +kernel⟩
theorem scIsLine : FnScope ["thing", "many_ends", "low", "high"] ["thing", "many_ends"] (defScope sIsLine) := ⟨rfl, rfl, rfl, by decide +kernel, rfl, by decide +kernel, by decide +kernel⟩
def spIsNum : Sp := fun vs H Q _ => ∃ (v : V) (T : String), vs = [v] ∧ TV H v T ∧ Q (.bl (isI v)) H
def spIsBelow : Sp := fun vs H Q _ => ∃ (v : V) (n : Int) (T : String), vs = [v, .int n] ∧ TV H v T ∧ Q (.bl (belowV v n)) H
/-- as many lines as a yard may have -/
def canBe (n : Int) : Bool := decide (2 ≤ n) && decide (n ≤ 80) && decide (n % 2 = 0)
def spCanBe : Sp := fun vs H Q _ => ∃ n : Int, vs = [.int n] ∧ ∀ H', Same H H' → Q (.bl (canBe n)) H'
section
variable {P : Program} {w : World} {K : PySem.W.Frag} {mg : Str → Option Value} {base : Heap}
theorem ok_isnum {f : Addr} {fd : FuncData} (F : Fun K "is_number" "is_number" sIsNum f fd) (T : TB mg) : FnOk P w K mg base CX0 1 f fd ["thing"] spIsNum := by
  refine F.ok scIsNum (fun vs H Q E h => ?_) (fun cdv A outer s H vs Q E hr h => ?_)
  · obtain ⟨v, _, rfl, _⟩ := h
    rfl
  · obtain ⟨v, ty, rfl, hv, k⟩ := h
    refine ⟨_, pss_one (ps_ret (pe_and (pe_callB call_isi (by rfl) T.isinstance boot_isinstance (pa_cons (pv 0) (pa_cons (pe_bltn (v := .ty "int") (by rfl) T.int PyProof.Rows.boot_int rfl) pa_nil)))
      (pe_one (pe_not (pe_callB call_isi (by rfl) T.isinstance boot_isinstance (pa_cons (pv 0) (pa_cons (pe_bltn (v := .ty "bool") (by rfl) T.bool (by decide +kernel) rfl) pa_nil))))))), ?_⟩
    obtain ⟨b, kb, h1, h2⟩ := hv.kInt (K := K)
    refine ⟨_, rfl, v, _, _, _, b, rfl, .ty _, hv.tyx, kb, b, rfl, ?_⟩
    cases b with
    | true =>
      obtain ⟨b2, kb2, e⟩ := h1 rfl
      refine iteT ⟨_, rfl, v, _, _, _, b2, rfl, .ty _, hv.tyx, kb2, b2, rfl, ?_⟩
      rw [← e]
      exact k
    | false =>
      refine iteF ?_
      rw [h2 rfl] at k
      exact k
theorem ok_isbelow {f fN : Addr} {fd fdN : FuncData} (F : Fun K "is_below" "is_below" sIsBelow f fd) (N : Cal K mg "is_number" fN fdN ["thing"]) (GN : FnOk P w K mg base CX0 1 fN fdN ["thing"] spIsNum) : FnOk P w K mg base CX0 2 f fd ["thing", "many"] spIsBelow := by
  refine F.ok scIsBelow (fun vs H Q E h => ?_) (fun cdv A outer s H vs Q E hr h => ?_)
  · obtain ⟨v, n, _, rfl, _⟩ := h
    rfl
  · obtain ⟨v, n, ty, rfl, hv, k⟩ := h
    refine ⟨_, pss_one (ps_ret (pe_and (pe_call GN hr rfl N.g N.kp N.b .nil pass0 (pa_cons (pv 0) pa_nil)) (pe_one (pe_chain op_le op_lt pe_int (pv 0) (pv 1))))), ?_⟩
    refine ⟨_, rfl, v, ty, rfl, hv, _, rfl, ?_⟩
    cases v with
    | int i =>
      refine iteT ⟨_, rfl, _, _, rfl, rfl, _, rfl, ?_⟩
      by_cases h0 : 0 ≤ i
      · rw [if_pos (decide_eq_true h0)]
        refine ⟨_, rfl, _, _, rfl, rfl, ?_⟩
        have e : belowV (.int i) n = decide (i < n) := by
          show (decide (0 ≤ i) && decide (i < n)) = _
          rw [decide_eq_true h0, Bool.true_and]
        rw [e] at k
        exact k
      · rw [if_neg (by rw [decide_eq_false h0]; decide)]
        have e : belowV (.int i) n = false := by
          show (decide (0 ≤ i) && decide (i < n)) = _
          rw [decide_eq_false h0, Bool.false_and]
        rw [e] at k
        exact k
    | _ => exact iteF k
theorem ok_canbe {f : Addr} {fd : FuncData} (F : Fun K "can_be_many_lines" "can_be_many_lines" sCanBe f fd) (T : TB mg) (C : TC mg) : FnOk P w K mg base CX0 1 f fd ["many"] spCanBe := by
  refine F.ok scCanBe (fun vs H Q E h => ?_) (fun cdv A outer s H vs Q E hr h => ?_)
  · obtain ⟨n, rfl, _⟩ := h
    rfl
  · obtain ⟨n, rfl, k⟩ := h
    obtain ⟨t, ht⟩ := C.most
    refine ⟨_, pss_one (ps_ret (pe_cmpR op_in_rngC (pv 0) (pe_callTy cr_range3 (by rfl) T.range boot_range (pa_cons pe_int (pa_cons (pe_op op_add (pe_op op_mul pe_int (pe_glob (v := .int 40) rfl ht ⟨_, rfl⟩)) pe_int) (pa_cons pe_int pa_nil)))) (by rfl))), ?_⟩
    refine ⟨_, rfl, _, _, rfl, rfl, .inl ⟨by decide, by decide⟩, _, _, rfl, rfl, _, _, _, rfl, ⟨by decide, by decide⟩, fun p hp => ?_⟩
    refine ⟨n, p, _, _, _, rfl, rfl, upd_same, ?_⟩
    have e : (Builtin.Range.rangePlace? 2 (2 * 40 + 1) 2 n).isSome = canBe n := by
      unfold Builtin.Range.rangePlace? canBe
      rw [Bool.eq_iff_iff]
      simp only [show (2 : Int) > 0 from by decide, if_true, Bool.and_eq_true, decide_eq_true_eq, beq_iff_eq]
      constructor
      · intro q
        split at q
        · omega
        · cases q
      · intro q
        rw [if_pos (by omega)]
        rfl
    show Q (.bl (Builtin.Range.rangePlace? 2 (2 * 40 + 1) 2 n).isSome) _
    rw [e]
    exact k _ (Same.new hp)
end
end One
end P_E2

section P_M3
set_option linter.all false
namespace One
/-! ### going to all that is beside -/
def R (r : List Bool) (i : Nat) : Prop := r[i]? = some true
structure Dfs (s n : Nat) (f : Nat → List Nat) (r : List Bool) (w : List Nat) (cur : Nat → Prop) : Prop where
  len : r.length = n
  z : R r s
  wt : ∀ i ∈ w, R r i
  cl : ∀ i, R r i → i ∈ w ∨ cur i ∨ ∀ j ∈ f i, R r j
  so : ∀ P : Nat → Prop, (∀ i j, j ∈ f i → P i → P j) → P s → ∀ i, R r i → P i
theorem R_set {r : List Bool} {i j : Nat} (h : R r i) : R (r.set j true) i := by
  unfold R at *
  by_cases e : j = i
  · subst e
    have : j < r.length := (List.getElem?_eq_some_iff.mp h).1
    rw [List.getElem?_set_self this]
  · rw [List.getElem?_set_ne e]
    exact h
theorem R_new {r : List Bool} {j : Nat} (h : j < r.length) : R (r.set j true) j := by
  unfold R
  rw [List.getElem?_set_self h]
theorem R_back {r : List Bool} {i j : Nat} (h : R (r.set j true) i) : i = j ∨ R r i := by
  unfold R at *
  by_cases e : j = i
  · exact .inl e.symm
  · rw [List.getElem?_set_ne e] at h
    exact .inr h
theorem dfs_start {s n : Nat} (f : Nat → List Nat) (hn : s < n) : Dfs s n f ((List.replicate n false).set s true) [s] (fun _ => False) := by
  have h0 : s < (List.replicate n false).length := by rw [List.length_replicate]; exact hn
  have back : ∀ i, R ((List.replicate n false).set s true) i → i = s := fun i h => by
    rcases R_back h with e | e
    · exact e
    · unfold R at e
      have hi := (List.getElem?_eq_some_iff.mp e).2
      simp at hi
  refine ⟨by simp, R_new h0, fun i hi => ?_, fun i hi => .inl ?_, fun P _ h i hi => ?_⟩
  · rw [List.mem_singleton.mp hi]
    exact R_new h0
  · rw [back i hi]
    exact List.mem_singleton.mpr rfl
  · rw [back i hi]
    exact h
theorem dfs_pop {s n c : Nat} {f : Nat → List Nat} {r : List Bool} {w : List Nat} (d : Dfs s n f r (w ++ [c]) fun _ => False) : Dfs s n f r w (· = c) := by
  refine ⟨d.len, d.z, fun i hi => d.wt i (List.mem_append.mpr (.inl hi)), fun i hi => ?_, d.so⟩
  rcases d.cl i hi with h | h | h
  · rcases List.mem_append.mp h with h | h
    · exact .inl h
    · exact .inr (.inl (List.mem_singleton.mp h))
  · exact h.elim
  · exact .inr (.inr h)
theorem dfs_mark {s n c j : Nat} {f : Nat → List Nat} {r : List Bool} {w : List Nat} (d : Dfs s n f r w (· = c)) (hc : R r c) (hj : j ∈ f c) (hlt : j < n) : Dfs s n f (r.set j true) (w ++ [j]) (· = c) := by
  have hjl : j < r.length := by rw [d.len]; exact hlt
  refine ⟨by rw [List.length_set]; exact d.len, R_set d.z, fun i hi => ?_, fun i hi => ?_, fun P hP h0 i hi => ?_⟩
  · rcases List.mem_append.mp hi with h | h
    · exact R_set (d.wt i h)
    · rw [List.mem_singleton.mp h]
      exact R_new hjl
  · rcases R_back hi with e | h
    · exact .inl (List.mem_append.mpr (.inr (List.mem_singleton.mpr e)))
    · rcases d.cl i h with q | q | q
      · exact .inl (List.mem_append.mpr (.inl q))
      · exact .inr (.inl q)
      · exact .inr (.inr fun k hk => R_set (q k hk))
  · rcases R_back hi with e | h
    · rw [e]
      exact hP c j hj (d.so P hP h0 c hc)
    · exact d.so P hP h0 i h
theorem dfs_finish {s n c : Nat} {f : Nat → List Nat} {r : List Bool} {w : List Nat} (d : Dfs s n f r w (· = c)) (h : ∀ j ∈ f c, R r j) : Dfs s n f r w fun _ => False := by
  refine ⟨d.len, d.z, d.wt, fun i hi => ?_, d.so⟩
  rcases d.cl i hi with q | q | q
  · exact .inl q
  · subst q
    exact .inr (.inr h)
  · exact .inr (.inr q)
theorem count_set {r : List Bool} {j : Nat} (h : r[j]? = some false) : (r.set j true).count false + 1 = r.count false := by
  induction r generalizing j with
  | nil => simp at h
  | cons a r ih =>
    cases j with
    | zero =>
      have e : a = false := Option.some.inj h
      subst e
      simp
    | succ j =>
      have := ih (j := j) (by simpa using h)
      show ((a :: r.set j true).count false) + 1 = (a :: r).count false
      rw [List.count_cons, List.count_cons]
      omega
/-- what is beside each crossing by these lines -/
def Beside (ps : List (Nat × Nat)) (f : Nat → List Nat) : Prop := ∀ i j, j ∈ f i ↔ ∃ p ∈ ps, (p.1 / 4 = i ∧ p.2 / 4 = j) ∨ (p.2 / 4 = i ∧ p.1 / 4 = j)
theorem dfs_whole {n : Nat} {ps : List (Nat × Nat)} {f : Nat → List Nat} {r : List Bool} (hb : Beside ps f) (d : Dfs 0 n f r [] fun _ => False) : r.all id = true ↔ Whole n ps := by
  constructor
  · intro h P hP h0 c hc
    refine d.so P (fun i j hj hi => ?_) h0 c ?_
    · obtain ⟨p, hp, q⟩ := (hb i j).mp hj
      rcases q with ⟨q1, q2⟩ | ⟨q1, q2⟩
      · rw [← q2]
        rw [← q1] at hi
        exact (hP p hp).mp hi
      · rw [← q2]
        rw [← q1] at hi
        exact (hP p hp).mpr hi
    · have hl : c < r.length := by rw [d.len]; exact hc
      unfold R
      rw [List.getElem?_eq_getElem hl]
      have := List.all_eq_true.mp h r[c] (List.getElem_mem hl)
      exact congrArg some this
  · intro w
    have all := w (fun i => R r i) (fun p hp => ?_) d.z
    · refine List.all_eq_true.mpr fun b hb' => ?_
      obtain ⟨i, hi, e⟩ := List.mem_iff_getElem.mp hb'
      have q := all i (by rw [← d.len]; exact hi)
      unfold R at q
      rw [List.getElem?_eq_getElem hi, e] at q
      exact Option.some.inj q
    · have clo : ∀ i j, j ∈ f i → R r i → R r j := fun i j hj hi => by
        rcases d.cl i hi with q | q | q
        · exact absurd q (by simp)
        · exact q.elim
        · exact q j hj
      exact ⟨clo _ _ ((hb _ _).mpr ⟨p, hp, .inl ⟨rfl, rfl⟩⟩), clo _ _ ((hb _ _).mpr ⟨p, hp, .inr ⟨rfl, rfl⟩⟩)⟩
/-- the lists with one more at one of them -/
def addTo (f : Nat → List Nat) (i x : Nat) : Nat → List Nat := fun k => if k = i then f k ++ [x] else f k
theorem beside_nil : Beside [] fun _ => [] := fun i j => ⟨fun h => absurd h (by simp), fun ⟨p, hp, _⟩ => absurd hp (by simp)⟩
theorem mem_addTo {f : Nat → List Nat} {i x k j : Nat} : j ∈ addTo f i x k ↔ j ∈ f k ∨ (k = i ∧ j = x) := by
  unfold addTo
  by_cases e : k = i
  · rw [if_pos e, List.mem_append, List.mem_singleton]
    exact or_congr Iff.rfl ⟨fun h => ⟨e, h⟩, fun h => h.2⟩
  · rw [if_neg e]
    exact ⟨.inl, fun h => h.elim id fun q => absurd q.1 e⟩
theorem beside_add {ps : List (Nat × Nat)} {f : Nat → List Nat} (p : Nat × Nat) (h : Beside ps f) : Beside (ps ++ [p]) (addTo (addTo f (p.1 / 4) (p.2 / 4)) (p.2 / 4) (p.1 / 4)) := by
  intro i j
  rw [mem_addTo, mem_addTo, h i j]
  constructor
  · rintro ((⟨q, hq, z⟩ | ⟨rfl, rfl⟩) | ⟨rfl, rfl⟩)
    · exact ⟨q, List.mem_append.mpr (.inl hq), z⟩
    · exact ⟨p, List.mem_append.mpr (.inr (List.mem_singleton.mpr rfl)), .inl ⟨rfl, rfl⟩⟩
    · exact ⟨p, List.mem_append.mpr (.inr (List.mem_singleton.mpr rfl)), .inr ⟨rfl, rfl⟩⟩
  · rintro ⟨q, hq, z⟩
    rcases List.mem_append.mp hq with hq | hq
    · exact .inl (.inl ⟨q, hq, z⟩)
    · rw [List.mem_singleton.mp hq] at z
      rcases z with ⟨a, b⟩ | ⟨a, b⟩
      · exact .inl (.inr ⟨a.symm, b.symm⟩)
      · exact .inr ⟨a.symm, b.symm⟩
end One
end P_M3

section P_E3
set_option linter.all false
set_option maxRecDepth 100000
set_option maxHeartbeats 4000000
namespace One
open PySem PySem.Spec PyProof.Rows L2
abbrev sIsWhole : Stmt := top 34
abbrev nWhole : List Str := ["lines"]
theorem scIsWhole : FnScope nWhole ["lines"] (defScope sIsWhole) := ⟨rfl, rfl, rfl, by decide +kernel, rfl, by decide +kernel, by decide +kernel⟩
def ltB : V → V → Bool
  | .int a, .int b => decide (a < b)
  | _, _ => false
def lineB (xs : List V) (n : Int) : Bool := match xs with
  | [x, y] => belowV x n && belowV y n && ltB x y
  | _ => false
def spIsLine : Sp := fun vs H Q _ => ∃ (v : V) (n : Int), vs = [v, .int n] ∧ ((∃ T, TV H v T ∧ isTup T = false ∧ Q (.bl false) H) ∨ ∃ (a : Addr) (xs : List V), v = .ref a ∧ H a = some (.tup xs) ∧ (∀ x ∈ xs, ∃ T, TV H x T) ∧ Q (.bl (lineB xs n)) H)
/-- lines that are asked whether they hang together -/
structure Asked (n : Nat) (ps : List (Nat × Nat)) : Prop where
  pos : 0 < n
  len : ps.length = 2 * n
  lt : ∀ p ∈ ps, p.1 < 4 * n ∧ p.2 < 4 * n
def spIsWhole : Sp := fun vs H Q _ => ∃ (t : Addr) (n : Nat) (as : List Addr) (ps : List (Nat × Nat)), vs = [.ref t] ∧ H t = some (.tup (refs as)) ∧ PL H as ps ∧ Asked n ps ∧ n ≤ 100 ∧
  ∀ (H' : Hp) (b : Bool), Same H H' → (b = true ↔ Whole n ps) → Q (.bl b) H'
section
variable {P : Program} {w : World} {K : PySem.W.Frag} {mg : Str → Option Value} {base : Heap}
theorem ok_isline {f fB : Addr} {fd fdB : FuncData} (F : Fun K "is_line" "is_line" sIsLine f fd) (T : TB mg) (B : Cal K mg "is_below" fB fdB ["thing", "many"]) (GB : FnOk P w K mg base CX0 2 fB fdB ["thing", "many"] spIsBelow) :
    FnOk P w K mg base CX0 3 f fd ["thing", "many_ends"] spIsLine := by
  refine F.ok scIsLine (fun vs H Q E h => ?_) (fun cdv A outer s H vs Q E hr h => ?_)
  · obtain ⟨v, n, rfl, _⟩ := h
    rfl
  · obtain ⟨v, n, rfl, h⟩ := h
    have nd := scIsLine.nd
    refine ⟨_, pss_cons (ps_if (PW.pt (pw_or (pt_not (pt_val (pe_callB call_isi (by rfl) T.isinstance boot_isinstance (pa_cons (pv 0) (pa_cons (pe_bltn (v := .ty "tuple") (by rfl) T.tuple boot_tuple rfl) pa_nil)))))
        (pw_or1 (pt_cmpR op_ne (pe_callB call_len_seq (by rfl) T.len PySem.boot_len (pa_cons (pv 0) pa_nil)) pe_int (nomark _))))) (pss_one (ps_ret pe_bl)) pss_nil)
      (pss_cons (ps_asg (pv 0) (pg_tup rfl (pgs_cons (pg_name (i := 2) nd rfl (Or.inl rfl)) (pgs_cons (pg_name (i := 3) nd rfl (Or.inl rfl)) pgs_nil))))
      (pss_one (ps_ret (pe_and (pe_call GB hr rfl B.g B.kp B.b .nil pass0 (pa_cons (pv 2) (pa_cons (pv 1) pa_nil))) (pe_and (pe_call GB hr rfl B.g B.kp B.b .nil pass0 (pa_cons (pv 3) (pa_cons (pv 1) pa_nil)))
        (pe_one (pe_cmpR op_lt (pv 2) (pv 3) (nomark _)))))))), ?_⟩
    rcases h with ⟨ty, hv, hT, k⟩ | ⟨a, xs, rfl, ha, hx, k⟩
    · refine ⟨_, rfl, v, _, _, _, _, rfl, .ty _, hv.tyx, hv.kTup, _, rfl, ?_⟩
      rw [hT]
      exact iteT k
    · refine ⟨_, rfl, _, _, _, _, _, rfl, .ty _, (TV.tup ha).tyx, (TV.tup ha).kTup, _, rfl, ?_⟩
      refine iteF ⟨_, rfl, a, _, rfl, .inr (SqT.of ha), rfl, _, rfl, ?_⟩
      refine ite2 (fun hne => ?_) (fun heq => ?_)
      · have e : lineB xs n = false := by
          match xs, hne with
          | [], _ => rfl
          | [_], _ => rfl
          | [_, _], hne => simp at hne
          | _ :: _ :: _ :: _, _ => rfl
        rw [e] at k
        exact k
      · have hl : xs.length = 2 := by
          have q : ((xs.length : Nat) : Int) = 2 := by simpa using heq
          omega
        match xs, hl, hx, ha, k with
        | [x, y], _, hx, ha, k =>
          obtain ⟨t1, h1⟩ := hx x (by simp)
          obtain ⟨t2, h2⟩ := hx y (by simp)
          refine ⟨_, rfl, a, _, rfl, SqT.of ha, rfl, _, _, rfl, _, _, rfl, rfl, ?_⟩
          refine ⟨_, rfl, _, rfl, x, n, t1, rfl, h1, _, rfl, ?_⟩
          have k : Q (.bl (belowV x n && belowV y n && ltB x y)) H := k
          refine ite2 (fun b1 => ?_) (fun b1 => ?_)
          · refine ⟨_, rfl, _, rfl, y, n, t2, rfl, h2, _, rfl, ?_⟩
            refine ite2 (fun b2 => ?_) (fun b2 => ?_)
            · rw [b1, b2] at k
              cases x with
              | int i =>
                cases y with
                | int j => exact ⟨_, rfl, _, rfl, _, _, rfl, rfl, k⟩
                | _ => cases b2
              | _ => cases b1
            · rw [b1, Bool.eq_false_iff.mpr b2] at k
              exact k
          · rw [Bool.eq_false_iff.mpr b1] at k
            exact k
end
end One
end P_E3

section P_R1
set_option linter.all false
set_option maxRecDepth 100000
set_option maxHeartbeats 8000000
namespace One
open PySem PySem.Spec PyProof.Rows L2
/-- a list of lists of numbers at B, at bl, f says what stands in each; all made behind H0 -/
structure BSt (H0 H : Hp) (B : Addr) (bl : List Addr) (f : Nat → List Nat) : Prop where
  same : Same H0 H
  b : H B = some (.lst (refs bl))
  at_ : ∀ i a, bl[i]? = some a → H a = some (.lst (nats (f i)))
  new : ∀ a ∈ bl, H0 a = none
  nd : bl.Nodup
  nb : B ∉ bl
theorem BSt.keep {H0 H H' : Hp} {B : Addr} {bl : List Addr} {f : Nat → List Nat} (s : BSt H0 H B bl f) (k : Same H H') : BSt H0 H' B bl f :=
  ⟨s.same.trans k, k _ _ s.b, fun i a h => k _ _ (s.at_ i a h), s.new, s.nd, s.nb⟩
theorem BSt.wr {H0 H : Hp} {B q : Addr} {bl : List Addr} {f : Nat → List Nat} {o : HO} (s : BSt H0 H B bl f) (h0 : H0 q = none) (h1 : q ≠ B) (h2 : q ∉ bl) : BSt H0 (upd H q o) B bl f := by
  refine ⟨fun b u e => ?_, by rw [upd_ne (Ne.symm h1)]; exact s.b, fun i a h => ?_, s.new, s.nd, s.nb⟩
  · rw [upd_ne (ne_of_none e h0)]
    exact s.same _ _ e
  · rw [upd_ne (fun z => h2 (by rw [← z]; exact List.mem_of_getElem? h))]
    exact s.at_ i a h
theorem BSt.add {H0 H : Hp} {B a : Addr} {bl : List Addr} {f : Nat → List Nat} {i x : Nat} (s : BSt H0 H B bl f) (ha : bl[i]? = some a) : BSt H0 (upd H a (.lst (nats (f i) ++ [V.int (x : Nat)]))) B bl (addTo f i x) := by
  have hm := List.mem_of_getElem? ha
  refine ⟨fun b u e => ?_, by rw [upd_ne (fun z => s.nb (by rw [z]; exact hm))]; exact s.b, fun j c h => ?_, s.new, s.nd, s.nb⟩
  · rw [upd_ne (ne_of_none e (s.new a hm))]
    exact s.same _ _ e
  · unfold addTo
    by_cases e : j = i
    · subst e
      rw [ha] at h
      cases h
      rw [if_pos rfl, upd_same, nats_app]
      rfl
    · rw [if_neg e, upd_ne (fun z => e (nd_ix s.nd h (by rw [z]; exact ha)))]
      exact s.at_ j c h
def lenAt (H : Hp) (a : Addr) : Nat := match H a with
  | some (.lst xs) => xs.length
  | _ => 0
def noAt (H : Hp) (a : Addr) : Nat := match H a with
  | some (.lst xs) => xs.countP fun v => match v with | .bl b => !b | _ => false
  | _ => 0
theorem lenAt_of {H : Hp} {a : Addr} {ns : List Nat} (h : H a = some (.lst (nats ns))) : lenAt H a = ns.length := by
  unfold lenAt
  rw [h]
  exact List.length_map _
theorem noAt_of {H : Hp} {a : Addr} {r : List Bool} (h : H a = some (.lst (r.map V.bl))) : noAt H a = r.count false := by
  unfold noAt
  rw [h]
  show (r.map V.bl).countP _ = _
  rw [List.countP_map]
  refine List.countP_congr fun b _ => ?_
  cases b <;> simp
theorem take_ends {H : Hp} {ps : List (Nat × Nat)} {i : Nat} {p : Nat × Nat} (h : ps[i]? = some p) : ps.take (i + 1) = ps.take i ++ [p] := by
  rw [List.take_succ, h]
  rfl
theorem fdiv4 (x : Nat) : ((x : Nat) : Int) / 4 = ((x / 4 : Nat) : Int) := by omega
theorem nodup_app {α : Type} {l : List α} {x : α} (h : l.Nodup) (hx : x ∉ l) : (l ++ [x]).Nodup := by
  refine List.nodup_append.mpr ⟨h, by simp, fun a ha b hb => ?_⟩
  rw [List.mem_singleton.mp hb]
  exact fun e => hx (e ▸ ha)
theorem ix_nat {n j : Nat} (h : j < n) : ixN n ((j : Nat) : Int) = some j := by
  unfold ixN
  rw [if_pos (by omega), if_pos (by omega)]
  rfl
theorem flat_rep {α : Type} (x : α) : ∀ n : Nat, (List.replicate n [x]).flatten = List.replicate n x
  | 0 => rfl
  | n + 1 => by
    rw [List.replicate_succ, List.flatten_cons, flat_rep x n, List.replicate_succ]
    rfl
abbrev sBesideX : Stmt := top 35
abbrev nBesideX : List Str := ["lines", "many", "beside", "low", "high", "_"]
theorem scBesideX : FnScope nBesideX ["lines", "many"] (defScope sBesideX) := ⟨rfl, rfl, rfl, by decide +kernel, rfl, by decide +kernel, by decide +kernel⟩
/-- what is beside each of n crossings by these lines, told as lists in a list, all new -/
def spBesideX : Sp := fun vs H Q _ => ∃ (t : Addr) (n : Nat) (as : List Addr) (ps : List (Nat × Nat)), vs = [.ref t, .int (n : Nat)] ∧ H t = some (.tup (refs as)) ∧ PL H as ps ∧ (∀ p ∈ ps, p.1 < 4 * n ∧ p.2 < 4 * n) ∧ n ≤ 200 ∧ ps.length ≤ 400 ∧
  ∀ (H' : Hp) (D : Addr) (bl : List Addr) (f : Nat → List Nat), BSt H H' D bl f → H D = none → bl.length = n → Beside ps f → Q (.ref D) H'
section
variable {P : Program} {w : World} {K : PySem.W.Frag} {mg : Str → Option Value} {base : Heap}
theorem ok_besideX {f : Addr} {fd : FuncData} (F : Fun K "crossings_beside" "crossings_beside" sBesideX f fd) (T : TB mg) (C : TC mg) : FnOk P w K mg base CX0 1 f fd ["lines", "many"] spBesideX := by
  refine F.ok scBesideX (fun vs H Q E h => ?_) (fun cdv A outer s H vs Q E hr h => ?_)
  · obtain ⟨t, n, as, ps, rfl, _⟩ := h
    rfl
  · obtain ⟨t, n, as, ps, rfl, ht, hP, hA, hn, hpl, k⟩ := h
    have nd := scBesideX.nd
    obtain ⟨t4, ht4⟩ := C.places
    refine ⟨_, pss_cons (ps_setLc (i := 2) (own := [("_", 5)]) (g := gName 5) (tt := tYes) (te := tLst tNil) rfl nd rfl rfl (sw_true rfl rfl rfl (by decide +kernel)) (pi_range1 (by rfl) T.range (pa_cons (pv 1) pa_nil)) (blkOk_by (N := nBesideX) (sc := defScope sBesideX) (by decide +kernel))
        (fun _ _ _ _ _ => pg_name (i := 5) nd rfl (Or.inl rfl)) (fun _ _ _ _ _ => pts_nil) (fun _ _ _ _ _ => pe_lst pa_nil))
      (pss_cons (ps_for PassesOwn.never rfl (pi_tup (pv 0)) (pg_tup rfl (pgs_cons (pg_name (i := 3) nd rfl (Or.inl rfl)) (pgs_cons (pg_name (i := 4) nd rfl (Or.inl rfl)) pgs_nil)))
        (pss_cons (ps_expr (pe_bm PySem.F.plainAttrs_list PySem.F.slot_list_append PySem.F.type_list_append mt_append (pe_ix ix_list (pv 2) (pe_op op_fdiv (pv 3) (pe_glob (v := .int 4) rfl ht4 ⟨_, rfl⟩)) (fun _ _ => rfl)) (pa_cons (pe_op op_fdiv (pv 4) (pe_glob (v := .int 4) rfl ht4 ⟨_, rfl⟩)) pa_nil)))
        (pss_one (ps_expr (pe_bm PySem.F.plainAttrs_list PySem.F.slot_list_append PySem.F.type_list_append mt_append (pe_ix ix_list (pv 2) (pe_op op_fdiv (pv 4) (pe_glob (v := .int 4) rfl ht4 ⟨_, rfl⟩)) (fun _ _ => rfl)) (pa_cons (pe_op op_fdiv (pv 3) (pe_glob (v := .int 4) rfl ht4 ⟨_, rfl⟩)) pa_nil))))))
      (pss_one (ps_ret (pv 2)))), ?_⟩
    have hal : as.length = ps.length := hP.len
    have nl : (refs as).length = as.length := List.length_map _
    refine ⟨_, rfl, n, rfl, by omega, by omega, fun D hD => ?_⟩
    refine lc_it (walk_range (lo := 0) (n := ((n : Nat) : Int).toNat)) (fun i H6 => ∃ bl : List Addr, BSt H H6 D bl (fun _ => []) ∧ bl.length = i) ⟨[], ⟨Same.new hD, upd_same, fun i a h => absurd h (by simp), fun a h => absurd h (by simp), .nil, by simp⟩, rfl⟩ (fun _ _ _ _ => trivial) ?_ ?_
    · rintro i x H6 H7 hi ⟨bl, hB, hl⟩ ⟨rfl, rfl⟩
      refine ⟨rfl, yes ⟨Nat.zero_le _, fun l hl' => ⟨_, (Same.new hl') _ _ hB.b, small1000 ?_, bl ++ [l], ?_, ?_⟩⟩⟩
      · rw [List.length_map]
        omega
      · have s1 := Same.new (o := .lst []) hl'
        have h0 : H l = none := hB.same.free hl'
        have nlD : l ≠ D := (ne_of_none hB.b hl').symm
        have nlb : l ∉ bl := fun m => by
          obtain ⟨j, hj, e⟩ := List.mem_iff_getElem.mp m
          have q := hB.at_ j l (by rw [List.getElem?_eq_getElem hj, e])
          rw [hl'] at q
          cases q
        refine ⟨fun b u e => ?_, by rw [upd_same, refs_app]; rfl, fun j a h => ?_, fun a m => ?_, nodup_app hB.nd nlb, fun m => ?_⟩
        · rw [upd_ne (ne_of_none e hD)]
          exact s1 _ _ (hB.same _ _ e)
        · by_cases hj : j < bl.length
          · rw [List.getElem?_append_left hj] at h
            have q := hB.at_ j a h
            rw [upd_ne (fun z => hB.nb (by rw [← z]; exact List.mem_of_getElem? h))]
            exact s1 _ _ q
          · rw [List.getElem?_append_right (by omega)] at h
            have ea : a = l := by
              have := List.mem_of_getElem? h
              exact List.mem_singleton.mp this
            rw [ea, upd_ne nlD, upd_same]
            rfl
        · rcases List.mem_append.mp m with m | m
          · exact hB.new a m
          · rw [List.mem_singleton.mp m]
            exact h0
        · rcases List.mem_append.mp m with m | m
          · exact hB.nb m
          · exact nlD (List.mem_singleton.mp m).symm
      · rw [List.length_append, hl]
        rfl
    · rintro H6 ⟨bl, hB, hl⟩
      have hl : bl.length = n := by rw [hl]; omega
      refine ⟨_, rfl, t, rfl, ⟨_, SqT.of (hB.same _ _ ht)⟩, for_tup (K := K) (a := t) (xs := refs as) (fun i σ H7 => ∃ (f : Nat → List Nat) (v2 v3 : Option V), σ = [some (.ref t), some (.int (n : Nat)), some (.ref D), v2, v3, none] ∧ BSt H H7 D bl f ∧ Beside (ps.take i) f ∧ ∀ j, (f j).length ≤ 2 * i)
        ⟨fun _ => [], none, none, rfl, hB, beside_nil, fun _ => Nat.zero_le _⟩ (fun i σ H7 _ ⟨f, _, _, _, h, _⟩ => SqT.of (h.same _ _ ht)) ?_ ?_⟩
      · rintro i x σ H7 hx ⟨f, v2, v3, rfl, hB7, hbs, hfl⟩
        obtain ⟨a, ha⟩ : ∃ a, as[i]? = some a := by
          rw [List.getElem?_map] at hx
          cases e : as[i]? with
          | none =>
            rw [e] at hx
            cases hx
          | some a => exact ⟨a, rfl⟩
        rw [List.getElem?_map, ha] at hx
        cases hx
        obtain ⟨p, hp, pa⟩ := hP.got ha
        have hi : i < ps.length := by
          have := (List.getElem?_eq_some_iff.mp ha).1
          omega
        obtain ⟨q1, q2⟩ := hA p (List.mem_of_getElem? hp)
        have g1 : p.1 / 4 < bl.length := by omega
        have g2 : p.2 / 4 < bl.length := by omega
        obtain ⟨b1, hb1⟩ : ∃ b, bl[p.1 / 4]? = some b := ⟨_, List.getElem?_eq_getElem g1⟩
        obtain ⟨b2, hb2⟩ : ∃ b, bl[p.2 / 4]? = some b := ⟨_, List.getElem?_eq_getElem g2⟩
        have pa7 := hB7.same _ _ pa
        refine ⟨a, _, rfl, SqT.of pa7, rfl, _, _, rfl, _, _, rfl, rfl, ?_⟩
        have c1 := hB7.at_ _ _ hb1
        refine ⟨_, rfl, _, rfl, _, _, rfl, rfl, ⟨by decide, by decide⟩, D, _, _, .ref b1, rfl, rfl, SqL.of hB7.b, (by show atI _ (((p.1 : Nat) : Int) / 4) = _; rw [fdiv4]; exact ref_at hb1), .inl ⟨rfl, _, SqL.of c1⟩, _, rfl, _, _, rfl, rfl, ⟨by decide, by decide⟩, b1, _, _, rfl, rfl, c1, small1000 ?_, ?_⟩
        · rw [List.length_map]
          have := hfl (p.1 / 4)
          omega
        have hB8 : BSt H (upd H7 b1 (.lst (nats (f (p.1 / 4)) ++ [V.int (((p.2 : Nat) : Int) / 4)]))) D bl (addTo f (p.1 / 4) (p.2 / 4)) := by
          rw [fdiv4]
          exact hB7.add hb1
        have c2 := hB8.at_ _ _ hb2
        refine ⟨_, rfl, _, rfl, _, _, rfl, rfl, ⟨by decide, by decide⟩, D, _, _, .ref b2, rfl, rfl, SqL.of hB8.b, (by show atI _ (((p.2 : Nat) : Int) / 4) = _; rw [fdiv4]; exact ref_at hb2), .inl ⟨rfl, _, SqL.of c2⟩, _, rfl, _, _, rfl, rfl, ⟨by decide, by decide⟩, b2, _, _, rfl, rfl, c2, small1000 ?_, ?_⟩
        · rw [List.length_map]
          have := hfl (p.2 / 4)
          unfold addTo
          split
          · rw [List.length_append, List.length_singleton]
            omega
          · omega
        have hB9 : BSt H (upd (upd H7 b1 (.lst (nats (f (p.1 / 4)) ++ [V.int (((p.2 : Nat) : Int) / 4)]))) b2 (.lst (nats (addTo f (p.1 / 4) (p.2 / 4) (p.2 / 4)) ++ [V.int (((p.1 : Nat) : Int) / 4)]))) D bl (addTo (addTo f (p.1 / 4) (p.2 / 4)) (p.2 / 4) (p.1 / 4)) := by
          rw [fdiv4 p.1]
          exact hB8.add hb2
        refine ⟨_, _, _, rfl, hB9, ?_, fun j => ?_⟩
        · rw [take_ends (H := H) hp]
          exact beside_add p hbs
        · have := hfl j
          unfold addTo
          split <;> split <;> (try simp only [List.length_append, List.length_singleton]) <;> omega
      · rintro σ H7 ⟨f, v2, v3, rfl, hB7, hbs, hfl⟩
        rw [nl, hP.len, List.take_length] at hbs
        exact ⟨_, rfl, k _ D bl f hB7 hD hl hbs⟩
end
end One
end P_R1

section P_R2
set_option linter.all false
set_option maxRecDepth 100000
set_option maxHeartbeats 8000000
namespace One
open PySem PySem.Spec PyProof.Rows L2
abbrev sReached : Stmt := top 25
abbrev nReached : List Str := ["beside", "start", "told", "waiting", "other"]
theorem scReached : FnScope nReached ["beside", "start"] (defScope sReached) := ⟨rfl, rfl, rfl, by decide +kernel, rfl, by decide +kernel, by decide +kernel⟩
/-- lists of numbers in a list -/
structure LL (H : Hp) (B : Addr) (bl : List Addr) (f : Nat → List Nat) : Prop where
  b : H B = some (.lst (refs bl))
  at_ : ∀ i a, bl[i]? = some a → H a = some (.lst (nats (f i)))
theorem LL.keep {H H' : Hp} {B : Addr} {bl : List Addr} {f : Nat → List Nat} (s : LL H B bl f) (k : Same H H') : LL H' B bl f := ⟨k _ _ s.b, fun i a h => k _ _ (s.at_ i a h)⟩
theorem BSt.ll {H0 H : Hp} {B : Addr} {bl : List Addr} {f : Nat → List Nat} (s : BSt H0 H B bl f) : LL H B bl f := ⟨s.b, s.at_⟩
/-- to which numbers one comes from s, told as a new list of truths -/
def spReached : Sp := fun vs H Q _ => ∃ (B : Addr) (bl : List Addr) (f : Nat → List Nat) (n s : Nat), vs = [.ref B, .int (s : Nat)] ∧ LL H B bl f ∧ bl.length = n ∧ s < n ∧ n ≤ 200 ∧ (∀ i j, i < n → j ∈ f i → j < n) ∧
  ∀ (H' : Hp) (R4 : Addr) (r : List Bool), Same H H' → H R4 = none → H' R4 = some (.lst (r.map V.bl)) → Dfs s n f r [] (fun _ => False) → Q (.ref R4) H'
section
variable {P : Program} {w : World} {K : PySem.W.Frag} {mg : Str → Option Value} {base : Heap}
theorem ok_reached {f : Addr} {fd : FuncData} (F : Fun K "reached" "reached" sReached f fd) (T : TB mg) : FnOk P w K mg base CX0 1 f fd ["beside", "start"] spReached := by
  refine F.ok scReached (fun vs H Q E h => ?_) (fun cdv A outer s H vs Q E hr h => ?_)
  · obtain ⟨B, bl, g, n, st, rfl, _⟩ := h
    rfl
  · obtain ⟨B, bl, g, n, st, rfl, hL, hl, hs, hn, flt, k⟩ := h
    have nd := scReached.nd
    refine ⟨_, pss_cons (ps_set (i := 2) nd rfl (Or.inl rfl) (pe_op op_rep (pe_lst (pa_cons pe_bl pa_nil)) (pe_callB call_len_seq (by rfl) T.len PySem.boot_len (pa_cons (pv 0) pa_nil))))
      (pss_cons (ps_asg pe_bl (pg_sub (pv 2) (pv 1) set_list))
      (C8.pss_cut (ps_set (i := 3) nd rfl (Or.inl rfl) (pe_lst (pa_cons (pv 1) pa_nil)))
      (pss_cons (ps_while PassesOwn.never (pt_truth (pv 3) (by intro _; rfl))
        (pss_one (ps_for PassesOwn.never rfl (pi_list (pe_ix ix_list (pv 0) (pe_bm0 PySem.F.plainAttrs_list PySem.F.slot_list_pop PySem.F.type_list_pop mt_pop (pv 3)) (fun _ _ => rfl))) (pg_name (i := 4) nd rfl (Or.inl rfl))
          (pss_one (ps_if (pt_not (pt_val (pe_ix ix_list (pv 2) (pv 4) (fun _ _ => rfl)))) (pss_cons (ps_asg pe_bl (pg_sub (pv 2) (pv 4) set_list))
            (pss_one (ps_expr (pe_bm PySem.F.plainAttrs_list PySem.F.slot_list_append PySem.F.type_list_append mt_append (pv 3) (pa_cons (pv 4) pa_nil))))) pss_nil)))))
      (pss_one (ps_ret (pv 2)))))), ?_⟩
    have nlb : (((refs bl).length : Nat)) = n := by rw [List.length_map]; exact hl
    refine ⟨by show 1 ≤ sizeLine; decide, fun l1 hl1 => ⟨_, rfl, B, _, rfl, .inl (SqL.of ((Same.new hl1) _ _ hL.b)), ?_⟩⟩
    have s1 := Same.new (o := .lst [V.bl false]) hl1
    refine ⟨l1, _, _, rfl, rfl, upd_same, by omega, by omega, (by rw [nlb]; show 1 * _ ≤ _; exact Nat.le_of_lt (small1000 (by omega))), fun R4 hR4 => ?_⟩
    have s2 := Same.new (o := .lst (List.replicate (((refs bl).length : Nat) : Int).toNat [V.bl false]).flatten) hR4
    have eR : (List.replicate (((refs bl).length : Nat) : Int).toNat [V.bl false]).flatten = (List.replicate n false).map V.bl := by
      rw [nlb, show ((n : Nat) : Int).toNat = n by omega, List.map_replicate]
      exact flat_rep _ n
    have hR0 : H R4 = none := s1.free hR4
    have s12 := s1.trans s2
    refine ⟨_, rfl, _, rfl, R4, _, _, st, rfl, rfl, upd_same, ix_nat (by rw [eR, List.length_map, List.length_replicate]; exact hs), ?_⟩
    rw [eR]
    rw [eR] at s12
    have sa : Same H (upd (upd (upd H l1 (.lst [V.bl false])) R4 (.lst ((List.replicate n false).map V.bl))) R4 (.lst (((List.replicate n false).map V.bl).set st (V.bl true)))) := fun b u e => by
      rw [upd_ne (ne_of_none e hR0)]
      exact s12 _ _ e
    have setR : ∀ (r : List Bool) (j : Nat), (r.map V.bl).set j (V.bl true) = (r.set j true).map V.bl := fun r j => (List.map_set).symm
    refine ⟨fun σ H9 => ∃ (W : Addr) (r : List Bool) (w : List Nat) (v4 : Option V), (H W = none ∧ W ≠ R4) ∧ σ = [some (.ref B), some (.int (st : Nat)), some (.ref R4), some (.ref W), v4] ∧ Same H H9 ∧ H9 R4 = some (.lst (r.map V.bl)) ∧ H9 W = some (.lst (nats w)) ∧ Dfs st n g r w (fun _ => False) ∧ w.length + r.count false ≤ n, ⟨_, rfl, ⟨by show 1 ≤ sizeLine; decide, fun W hW => ?_⟩⟩, ?_⟩
    · have s3 := Same.new (o := .lst [V.int (st : Nat)]) hW
      have hW0 : H W = none := sa.free hW
      have nWR : W ≠ R4 := (ne_of_none upd_same hW).symm
      refine ⟨W, (List.replicate n false).set st true, [st], none, ⟨hW0, nWR⟩, rfl, sa.trans s3, ?_, upd_same, dfs_start g hs, ?_⟩
      · rw [upd_ne (Ne.symm nWR), upd_same, setR]
      · have := count_set (r := List.replicate n false) (j := st) (by rw [List.getElem?_replicate, if_pos hs])
        rw [List.count_replicate_self] at this
        show 1 + _ ≤ n
        omega
    · rintro σ0 H0 ⟨W, r0, w0, v4', ⟨hW0, nWR⟩, rfl, sH0, hR0', hw0, hd0, hm0⟩
      unfold tSeq
      refine while_by (fun σ H9 => ∃ (r : List Bool) (w : List Nat) (v4 : Option V), σ = [some (.ref B), some (.int (st : Nat)), some (.ref R4), some (.ref W), v4] ∧ Same H H9 ∧ H9 R4 = some (.lst (r.map V.bl)) ∧ H9 W = some (.lst (nats w)) ∧ Dfs st n g r w (fun _ => False) ∧ w.length + r.count false ≤ n)
        (fun σ H9 => 2 * noAt H9 R4 + lenAt H9 W) ⟨r0, w0, v4', rfl, sH0, hR0', hw0, hd0, hm0⟩ ?_ ?_
      · rintro σ H9 ⟨r, w, v4, rfl, sH, hR, hw, hd, hm⟩
        refine ⟨_, rfl, _, .inl ⟨_, SqL.of hw, rfl⟩, ?_⟩
        rcases List.eq_nil_or_concat w with rfl | ⟨w', c, rfl⟩
        · refine iteF ?_
          exact ⟨_, rfl, k _ R4 r sH hR0 hR hd⟩
        · rw [List.concat_eq_append] at hw hd hm ⊢
          have hne : (!(nats (w' ++ [c])).isEmpty) = true := by
            rw [nats_app]
            cases nats w' <;> rfl
          rw [hne]
          refine iteT ?_
          have hlast : (nats (w' ++ [c]))[(nats (w' ++ [c])).length - 1]? = some (V.int (c : Nat)) := by
            rw [nats_app, List.length_append]
            show (nats w' ++ [V.int (c : Nat)])[(nats w').length + 1 - 1]? = _
            rw [Nat.add_sub_cancel, List.getElem?_append_right (Nat.le_refl _), Nat.sub_self]
            rfl
          have hdrop : (nats (w' ++ [c])).dropLast = nats w' := by
            rw [nats_app]
            exact List.dropLast_concat
          have sH1 : Same H (upd H9 W (.lst (nats w'))) := fun b u e => by
            rw [upd_ne (ne_of_none e hW0)]
            exact sH _ _ e
          have hL1 := hL.keep sH1
          refine ⟨_, rfl, _, rfl, .inl ⟨rfl, _, SqL.of hw⟩, W, _, _, rfl, rfl, hw, hlast, ?_⟩
          rw [hdrop]
          have hRc : R r c := hd.wt c (List.mem_append.mpr (.inr (List.mem_singleton.mpr rfl)))
          have hcn : c < n := by
            have := (List.getElem?_eq_some_iff.mp hRc).1
            rw [hd.len] at this
            exact this
          have hR1 : (upd H9 W (.lst (nats w'))) R4 = some (.lst (r.map V.bl)) := by
            rw [upd_ne (Ne.symm nWR)]
            exact hR
          obtain ⟨b, hb⟩ : ∃ b, bl[c]? = some b := ⟨_, List.getElem?_eq_getElem (by omega)⟩
          have hbf := hL.at_ _ _ hb
          rw [List.length_append, List.length_singleton] at hm
          have hmu : 2 * noAt H9 R4 + lenAt H9 W = 2 * r.count false + (w'.length + 1) := by
            rw [noAt_of hR, lenAt_of hw, List.length_append, List.length_singleton]
          refine ⟨B, _, _, .ref b, rfl, rfl, SqL.of hL1.b, ref_at hb, b, rfl, ⟨_, SqL.of (sH1 _ _ hbf)⟩, for_list (K := K) (a := b) (xs := nats (g c)) (fun m σ Hm => ∃ (r2 : List Bool) (w2 : List Nat) (v4 : Option V), σ = [some (.ref B), some (.int (st : Nat)), some (.ref R4), some (.ref W), v4] ∧
              Same H Hm ∧ Hm R4 = some (.lst (r2.map V.bl)) ∧ Hm W = some (.lst (nats w2)) ∧ Dfs st n g r2 w2 (· = c) ∧ R r2 c ∧ w2.length + r2.count false + 1 ≤ n ∧ 2 * r2.count false + w2.length + 1 ≤ 2 * r.count false + (w'.length + 1) ∧ ∀ j ∈ (g c).take m, R r2 j)
            ⟨r, w', v4, rfl, sH1, hR1, upd_same, dfs_pop hd, hRc, by omega, by omega, fun j hj => absurd hj (by simp)⟩ (fun m σ Hm _ ⟨_, _, _, _, h, _⟩ => SqL.of (h _ _ hbf)) ?_ ?_⟩
          · rintro m x σ Hm hx ⟨r2, w2, v4, rfl, sH2, hR2, hw2, hd2, hRc2, hm1, hm2, hdone⟩
            obtain ⟨j, hj⟩ : ∃ j, (g c)[m]? = some j := by
              rw [List.getElem?_map] at hx
              cases e : (g c)[m]? with
              | none =>
                rw [e] at hx
                cases hx
              | some a => exact ⟨a, rfl⟩
            rw [List.getElem?_map, hj] at hx
            cases hx
            have hjf : j ∈ g c := List.mem_of_getElem? hj
            have hjn : j < n := flt c j hcn hjf
            have hjr : j < r2.length := by rw [hd2.len]; exact hjn
            obtain ⟨b2, hb2⟩ : ∃ b, r2[j]? = some b := ⟨_, List.getElem?_eq_getElem hjr⟩
            have etake : (g c).take (m + 1) = (g c).take m ++ [j] := by
              rw [List.take_succ, hj]
              rfl
            refine ⟨_, rfl, _, rfl, R4, _, _, .bl b2, rfl, rfl, SqL.of hR2, at_of (j := j) rfl (by rw [List.getElem?_map, hb2]; rfl), b2, rfl, ?_⟩
            cases b2 with
            | true =>
              refine iteF ⟨r2, w2, _, rfl, sH2, hR2, hw2, hd2, hRc2, hm1, hm2, fun i hi => ?_⟩
              rw [etake] at hi
              rcases List.mem_append.mp hi with hi | hi
              · exact hdone i hi
              · rw [List.mem_singleton.mp hi]
                exact hb2
            | false =>
              have hcnt := count_set hb2
              refine iteT ⟨_, rfl, _, rfl, R4, _, _, j, rfl, rfl, hR2, ix_nat (by rw [List.length_map]; exact hjr), ?_⟩
              have hw3 : (upd Hm R4 (.lst ((r2.map V.bl).set j (V.bl true)))) W = some (.lst (nats w2)) := by
                rw [upd_ne nWR]
                exact hw2
              refine ⟨_, rfl, .inl ⟨rfl, _, SqL.of hw3⟩, _, rfl, W, _, _, rfl, rfl, hw3, small1000 (by rw [List.length_map]; omega), ?_⟩
              refine ⟨r2.set j true, w2 ++ [j], _, rfl, (fun b u e => ?_), ?_, ?_, dfs_mark hd2 hRc2 hjf hjn, R_set hRc2, ?_, ?_, fun i hi => ?_⟩
              · rw [upd_ne (ne_of_none e hW0), upd_ne (ne_of_none e hR0)]
                exact sH2 _ _ e
              · rw [upd_ne (Ne.symm nWR), upd_same, setR]
              · rw [upd_same, nats_app]
                rfl
              · rw [List.length_append, List.length_singleton]
                omega
              · rw [List.length_append, List.length_singleton]
                omega
              · rw [etake] at hi
                rcases List.mem_append.mp hi with hi | hi
                · exact R_set (hdone i hi)
                · rw [List.mem_singleton.mp hi]
                  exact R_new hjr
          · rintro σ Hm ⟨r2, w2, v4, rfl, sH2, hR2, hw2, hd2, hRc2, hm1, hm2, hdone⟩
            rw [List.length_map, List.take_length] at hdone
            refine ⟨⟨r2, w2, _, rfl, sH2, hR2, hw2, dfs_finish hd2 hdone, by omega⟩, ?_⟩
            show 2 * noAt Hm R4 + lenAt Hm W < 2 * noAt H9 R4 + lenAt H9 W
            rw [hmu, noAt_of hR2, lenAt_of hw2]
            omega
      · intro σ H1 Q1 Q2 hq h
        obtain ⟨v, e, kk, ht, q⟩ := h
        exact ⟨v, e, kk, ht, hq _ _ q⟩
end
end One
end P_R2

section P_E4
set_option linter.all false
set_option maxRecDepth 100000
set_option maxHeartbeats 4000000
namespace One
open PySem PySem.Spec PyProof.Rows L2
section
variable {P : Program} {w : World} {K : PySem.W.Frag} {mg : Str → Option Value} {base : Heap}
theorem ok_iswhole {f fR fB : Addr} {fd fdR fdB : FuncData} (F : Fun K "is_whole" "is_whole" sIsWhole f fd) (T : TB mg) (DR : Cal K mg "reached" fR fdR ["beside", "start"]) (GR : FnOk P w K mg base CX0 1 fR fdR ["beside", "start"] spReached)
    (DB : Cal K mg "crossings_beside" fB fdB ["lines", "many"]) (GB : FnOk P w K mg base CX0 1 fB fdB ["lines", "many"] spBesideX) : FnOk P w K mg base CX0 2 f fd ["lines"] spIsWhole := by
  refine F.ok scIsWhole (fun vs H Q E h => ?_) (fun cdv A outer s H vs Q E hr h => ?_)
  · obtain ⟨t, n, as, ps, rfl, _⟩ := h
    rfl
  · obtain ⟨t, n, as, ps, rfl, ht, hP, hA, hn, k⟩ := h
    refine ⟨_, pss_one (ps_ret (pe_callB (cr_all rfl) (by rfl) T.all boot_all (pa_cons (pe_call GR hr rfl DR.g DR.kp DR.b .nil pass0 (pa_cons (pe_call GB hr rfl DB.g DB.kp DB.b .nil pass0 (pa_cons (pv 0) (pa_cons (pe_op op_fdiv (pe_callB call_len_seq (by rfl) T.len PySem.boot_len (pa_cons (pv 0) pa_nil)) pe_int) pa_nil))) (pa_cons pe_int pa_nil))) pa_nil))), ?_⟩
    have hal : as.length = 2 * n := by rw [hP.len, hA.len]
    have nl : (refs as).length = as.length := List.length_map _
    have e2 : (((refs as).length : Nat) : Int) / 2 = (n : Nat) := by rw [nl, hal]; omega
    refine ⟨_, rfl, _, rfl, t, _, rfl, .inr (SqT.of ht), _, _, rfl, rfl, ⟨by decide, by decide⟩, t, n, as, ps, (by show [V.ref t, V.int ((((refs as).length : Nat) : Int) / 2)] = _; rw [e2]), ht, hP, hA.lt, by omega, (by rw [hA.len]; omega), fun H1 D bl g hB hD hl hbs => ?_⟩
    refine ⟨D, bl, g, n, 0, rfl, hB.ll, hl, hA.pos, by omega, fun i j hi hj => ?_, fun H2 R4 r s2 hR0 hR hd => ?_⟩
    · obtain ⟨p, hp, q⟩ := (hbs i j).mp hj
      obtain ⟨q1, q2⟩ := hA.lt p hp
      rcases q with ⟨_, q⟩ | ⟨_, q⟩ <;> omega
    · exact ⟨R4, r, rfl, SqL.of hR, k _ _ (hB.same.trans s2) (dfs_whole hbs hd)⟩
end
end One
end P_E4

section P_E5
set_option linter.all false
set_option maxRecDepth 100000
set_option maxHeartbeats 4000000
namespace One
open PySem PySem.Spec PyProof.Rows L2
/-! ### enumerate of a tuple -/
theorem enum_newT (tt : Addr) (xs : Array Value) (sz : Nat) (dc : Option Addr) (sl : Array (Option Value)) :
    Meets (Builtin.«enumerate.__new__» ⟨[.type "enumerate", .ref tt], []⟩) (fun _ R s => s.heap.get? tt = some ⟨.type "tuple", dc, .seq xs sz, sl⟩ ∧
      R (.ok (.ret (.ref (s.heap.push { cls := .type "tuple_iterator", data := .fields #[.ref tt, .int 0 0] }).objs.size)))
        { s with heap := (s.heap.push { cls := .type "tuple_iterator", data := .fields #[.ref tt, .int 0 0] }).push { cls := .type "enumerate", data := .fields #[.none, .bool false, .ref s.heap.objs.size, rawInt 0, .none, .none] } }) :=
  .of_wp fun prog w A R s q => by
    obtain ⟨hp, g, d, tk, os⟩ := s
    obtain ⟨hl, q⟩ := q
    have su := sub_enumerate
    have hT : Heap.IsTuple (Shared.heap ⟨hp, g, d, tk, os⟩) tt xs := ⟨_, hl, rfl, sz, rfl⟩
    wp_walk using AutoSeq1.wpAny_loadPart' hl
    refine wpAny_stack_any fun stk => wpAny_pure ?_
    split
    · rename_i cl _ _ _ _ _
      cases (cl == Value.type "enumerate") <;> (wp_walk using AutoSeq1.wpAny_loadPart' hl, wpAny_pyIter_tuple hT; exact ⟨_, rfl, q⟩)
    · wp_walk using AutoSeq1.wpAny_loadPart' hl, wpAny_pyIter_tuple hT
      exact ⟨_, rfl, q⟩
section
variable {prog : Program} {w : World} {A : Around} {E : Value → Shared → Prop} {s : Shared}
theorem call_enumT {tt : Addr} {xs : Array Value} {Q : Value → Shared → Prop} (hL : s.heap.IsTuple tt xs)
    (k : ∀ g, IsEnum g (s.heap.objs.size + 1) s.heap.objs.size 0 .none → g.IsTupleIter s.heap.objs.size tt 0 → (∀ b o, s.heap.get? b = some o → g.get? b = some o) → Q (.ref (s.heap.objs.size + 1)) { s with heap := g }) :
    wpAny (model prog w) A (call (.type "enumerate") [.ref tt]) Q E s := by
  obtain ⟨⟨cl, dc, da, sl⟩, hl, hcl, sz, hda⟩ := hL
  dsimp only at hcl hda
  subst hcl hda
  refine callType_new F.called_enumerate (by decide) (F.typeCall_enumerate_1 _) (F.newCall_enumerate_1 _) (fun ob => F.args_object_init_2 ob _) F.entry_enumerate_new (enum_newT tt xs sz dc sl) ⟨hl, ?_⟩
  have e1 : (s.heap.push { cls := .type "tuple_iterator", data := .fields #[.ref tt, .int 0 0] }).objs.size = s.heap.objs.size + 1 := Heap.size_push ..
  show _ ∧ _
  rw [e1]
  have e2 : IsEnum ((s.heap.push { cls := .type "tuple_iterator", data := .fields #[.ref tt, .int 0 0] }).push { cls := .type "enumerate", data := .fields #[.none, .bool false, .ref s.heap.objs.size, rawInt 0, .none, .none] }) (s.heap.objs.size + 1) s.heap.objs.size 0 .none := by
    have z := Heap.get?_push_size (s.heap.push { cls := .type "tuple_iterator", data := .fields #[.ref tt, .int 0 0] }) (o := { cls := .type "enumerate", data := .fields #[.none, .bool false, .ref s.heap.objs.size, rawInt 0, .none, .none] }) rfl
    rw [e1] at z
    exact z
  exact ⟨⟨_, e2, rfl⟩, k _ e2 ⟨_, Heap.get?_push_of_some _ (Heap.get?_push_size _ rfl), rfl, rfl⟩ fun b o x => Heap.get?_push_of_some _ (Heap.get?_push_of_some _ x)⟩
end
/-- the tuple at a, each item in a new pair with its number -/
def IteT (K : PySem.W.Frag) (a : Addr) : It :=
  ⟨fun i H => ∃ (xs : List V) (x : V), SqT K H a xs ∧ xs[i]? = some x, fun i H v H' => ∃ T x, v = .ref T ∧ H T = none ∧ H' = upd H T (.tup [.int (i : Nat), x]) ∧ ∀ xs, SqT K H a xs → xs[i]? = some x, fun i H => ∃ xs : List V, SqT K H a xs ∧ xs.length ≤ i⟩
theorem turn_enumT {P : Program} {w : World} {K : PySem.W.Frag} {elts : List Expr} {kk : Nat} {tpos : Pos} (a e it : Addr) (hat : a ≠ it) (hae : a ≠ e) :
    Turn P w K (.Tuple elts kk tpos) (IteT K a) [e, it] e (fun i h => (∃ old, IsEnum h e it ((i : Nat) : Int) old) ∧ h.IsTupleIter it a i ∧ e ≠ it) where
  mem := List.mem_cons_self
  obj := fun i h st b hb => by
    obtain ⟨⟨old, he⟩, ⟨o, ho, _, hd⟩, _⟩ := st
    rcases List.mem_cons.mp hb with z | z
    · rw [z]
      exact ⟨_, he, fun v q => nomatch q⟩
    · exact ⟨o, by rw [List.mem_singleton.mp z]; exact ho, fun v q => by rw [hd] at q; cases q⟩
  keep := fun i h h' ⟨⟨old, he⟩, hi, hne⟩ k => ⟨⟨old, k e (by simp) _ he⟩, hi.at fun o e => k it (by simp) o e, hne⟩
  item := by
    intro X e1 e2 e3 hc i pins s σ H E I hf ⟨⟨old, he⟩, hit, hne⟩ ⟨xs, x, hq, hx⟩
    subst e1 e2 e3
    obtain ⟨its, rv, p, hz⟩ := I.tuple hq
    obtain ⟨u, hu, ru⟩ := rv.get hx
    have hel : e < s.heap.objs.size := Heap.lt_size he
    have hil : it < s.heap.objs.size := by
      obtain ⟨_, q, _⟩ := hit
      exact Heap.lt_size q
    have p' : s.heap.IsTuple a its.toArray := p
    have hlt : i < its.toArray.size := by
      rw [List.size_toArray]
      exact (List.getElem?_eq_some_iff.mp hu).1
    refine wpAny_pyNext_enum_itemD (fp := [it, a]) (Draws.tuple (A := X.A.in1) (show X.A.in1.handled = none from I.ok.hd hc) it a hat its.toArray) he ⟨hit, p'⟩ hlt hne (by simp [hne, Ne.symm hae]) fun x2 g tk hx2 ho hst hT hsz hk => ?_
    have ex : x2 = u := by
      have z : its.toArray[i]? = some x2 := hx2
      rw [List.getElem?_toArray, hu] at z
      exact (Option.some.inj z).symm
    subst ex
    refine ⟨_, rfl, wpAny_letOwnedTupleGo_enum (s := { s with heap := g, toks := tk + 1 }) ho fun g2 he2 sb => ?_⟩
    have hT2 : g2.get? s.heap.objs.size = some { cls := .type "tuple", data := .seq #[.int i tk, x2] } := (sb.2 _ (Nat.ne_of_gt hel)).trans hT
    have made : ObjOk X.prog X.w (upd H s.heap.objs.size (.tup [.int (i : Nat), x])) g2 s.heap.objs.size (.tup [.int (i : Nat), x]) :=
      ⟨two_le, [.int i tk, x2], .cons ⟨_, rfl⟩ (.cons ru .nil), ⟨_, hT2, rfl, _, rfl⟩⟩
    have I1 : Inv X pins σ (upd H s.heap.objs.size (.tup [.int (i : Nat), x])) { s with heap := g2, toks := tk + 1 } :=
      I.turnedNew (ch := [e, it]) (fun b ob hb q => (sb.2 b fun z => hb (by rw [z]; exact List.mem_cons_self)).trans (hk b ob (fun z => hb (by rw [z]; exact List.mem_cons_self)) (fun z => hb (by rw [z]; simp)) q)) hf (Nat.le_refl _) made
    have e0 : ((i + 1 : Nat) : Int) = (i : Int) + 1 := by omega
    refine ⟨.ref s.heap.objs.size, _, I1, rfl, ⟨_, x, rfl, I.hok.fresh (Nat.le_refl _), rfl, fun ys hy => by rw [I.tuple_inj hy hq]; exact hx⟩, ⟨⟨x2, by rw [e0]; exact he2⟩, hst.1.at fun o q => (sb.2 it (Ne.symm hne)).trans q, hne⟩, fun b hb => ?_⟩
    have lt : b < s.heap.objs.size := by
      rcases List.mem_cons.mp hb with z | z
      · rw [z]
        exact hel
      · rw [List.mem_singleton.mp z]
        exact hil
    exact (upd_ne (Nat.ne_of_lt lt)).trans (hf b hb).1
  done := by
    intro X e1 e2 e3 hc i pins s σ H E I hf ⟨⟨old, he⟩, hit, hne⟩ ⟨xs, hq, hx⟩
    subst e1 e2 e3
    obtain ⟨its, rv, p, hz⟩ := I.tuple hq
    obtain ⟨f0, f1, f2, f3, f4, f5⟩ := hf it (by simp)
    have hn : its.toArray.size ≤ i := by
      rw [List.size_toArray, ← rv.length]
      exact hx
    unfold pyNext
    have hT : s.TypeIs (.ref e) "enumerate" := ⟨_, he, rfl⟩
    refine wpAny_bind (wpAny_attempt (wpAny_callSpecial?_slot (name := Str.ofString "__next__") hT F.slot_enumerate_next (wpAny_call_entry F.slot_enumerate_next hT F.entry_enumerate_next ?_ (F.args_enumerate_next_1 _))))
    show wpAny _ _ (field (.ref e) 2 >>= _) _ _ _
    refine wpAny_bind (wpAny_field he rfl (x := .ref it) rfl (wpAny_bind (wpAny_nextOf_tuple_end (I.ok.hd hc) hit (show s.heap.IsTuple a its.toArray from p) (Array.getElem?_eq_none hn) fun g x hg ⟨o, ho, hco⟩ => ?_)))
    exact wpAny_bind (wpAny_isInstance (T := "StopIteration") (b := true) ⟨o, ho, hco⟩ isSubtype_stop (wpAny_pure ⟨rfl, I.turned (t' := s.toks) (fun b o hb e => hg b o hb e) f0 f1 f3 f4 f5⟩))
  self := fun A i s Q E ⟨⟨_, he⟩, _⟩ q => wpAny_pyIter_enum he q
def iEnumT (K : PySem.W.Frag) (ta : TA) : TI := fun σ H R => ta σ H fun vs H1 => ∃ a xs, vs = [.ref a] ∧ SqT K H1 a xs ∧ R (IteT K a) H1
theorem pi_enumT {X : Cx} {e : Expr} {ta : TA} {p pos tpos : Pos} {elts : List Expr} {kk : Nat} (hg : Gl X "enumerate") (hm : X.mg "enumerate" = none) (ha : PA X [e] ta) (hs : starEach [e] X.env = [(false, eval e X.env)] := by rfl) :
    PI X (.Tuple elts kk tpos) (.Call (.Name "enumerate" p) [e] [] pos) (iEnumT X.K ta) := by
  refine ⟨fun pins s σ H R I q0 => Call_ (ld_blt I hg hm boot_enumerate (PyProof.Rows.callWith_type1 (thn (ha.run pos pins s σ H _ I q0) fun us s1 ⟨vs, H1, I1, r1, a, xs, ex, hq, q⟩ => ?_) hs rfl))⟩
  subst ex
  cases r1 with
  | cons r rr =>
    cases rr
    cases r
    obtain ⟨its, rv, p', hz⟩ := I1.tuple hq
    have hal : a < s1.heap.objs.size := by
      obtain ⟨o, ho, _⟩ := p'
      exact Heap.lt_size ho
    refine call_enumT (show s1.heap.IsTuple a its.toArray from p') fun g he hit hk => wpAny_pyIter_enum he ?_
    have I2 : Inv X pins σ H1 { s1 with heap := g } := I1.kept (t' := s1.toks) hk
    refine ⟨s1.heap.objs.size + 1, [s1.heap.objs.size + 1, s1.heap.objs.size], _, _, H1, rfl, I2, turn_enumT a (s1.heap.objs.size + 1) s1.heap.objs.size (Nat.ne_of_lt hal) (Nat.ne_of_lt (Nat.lt_succ_of_lt hal)), ⟨⟨.none, he⟩, hit, Nat.succ_ne_self _⟩, fun b hb => ?_, q⟩
    have le : s1.heap.objs.size ≤ b := by
      rcases List.mem_cons.mp hb with z | z
      · rw [z]
        exact Nat.le_add_right _ _
      · rw [List.mem_singleton.mp z]
        exact Nat.le_refl _
    exact I1.fpOk le (I1.hok.fresh le)
theorem walk_enumT {K : PySem.W.Frag} {a : Addr} {xs : List V} : Walk (IteT K a) xs.length (fun H => SqT K H a xs) (YPair (fun i => some (.int (i : Nat))) (fun i => xs[i]?)) := by
  refine ⟨fun i _ hi q => ⟨xs, xs[i], q, List.getElem?_eq_getElem hi⟩, fun _ q => ⟨xs, q, Nat.le_refl _⟩, fun i H v H' _ q ⟨T, x, h1, h2, h3, h4⟩ => ⟨T, .int (i : Nat), x, h1, h2, h3, rfl, h4 xs q⟩⟩
end One
end P_E5

section P_M4
set_option linter.all false
namespace One
/-! ### the look at a yard, line by line -/
def leB (p q : Nat × Nat) : Bool := decide (p.1 < q.1) || (decide (p.1 = q.1) && decide (p.2 ≤ q.2))
def notUp (p : Nat × Nat) : Option (Nat × Nat) → Bool
  | none => false
  | some q => leB p q
/-- the number of the first thing that can't be: none is what is no line -/
def goF : Nat → List Nat → Option (Nat × Nat) → List (Option (Nat × Nat)) → Option Nat
  | _, _, _, [] => none
  | k, _, _, none :: _ => some k
  | k, met, ah, some p :: r => if notUp p ah || met.contains p.1 || met.contains p.2 then some k else goF (k + 1) (met ++ [p.1, p.2]) (some p) r
theorem goF_pairs : ∀ (os : List (Option (Nat × Nat))) (k : Nat) (met : List Nat) (ah : Option (Nat × Nat)), goF k met ah os = none → os = (os.filterMap id).map some
  | [], _, _, _, _ => rfl
  | none :: r, k, met, ah, h => by cases h
  | some p :: r, k, met, ah, h => by
    unfold goF at h
    split at h
    · cases h
    · have := goF_pairs r _ _ _ h
      simp only [List.filterMap_cons, id, List.map_cons]
      rw [← this]
theorem goF_good : ∀ (ps : List (Nat × Nat)) (k : Nat) (met : List Nat) (ah : Option (Nat × Nat)), (∀ q, ah = some q → ∀ p ∈ ps, ltP q p) → ps.Pairwise ltP → (met ++ ends ps).Nodup → goF k met ah (ps.map some) = none
  | [], _, _, _, _, _, _ => rfl
  | p :: r, k, met, ah, h1, h2, h3 => by
    obtain ⟨hp, hr⟩ := List.pairwise_cons.mp h2
    have h3 : (met ++ (p.1 :: p.2 :: ends r)).Nodup := h3
    have n1 : ¬ p.1 ∈ met := fun m => (List.nodup_append.mp h3).2.2 _ m p.1 (by simp) rfl
    have n2 : ¬ p.2 ∈ met := fun m => (List.nodup_append.mp h3).2.2 _ m p.2 (by simp) rfl
    have up : notUp p ah = false := by
      cases e : ah with
      | none => rfl
      | some q =>
        have := h1 q e p (List.mem_cons.mpr (.inl rfl))
        unfold ltP at this
        unfold notUp leB
        simp only [Bool.or_eq_false_iff, Bool.and_eq_false_iff, decide_eq_false_iff_not]
        omega
    show (if notUp p ah || met.contains p.1 || met.contains p.2 then some k else goF (k + 1) (met ++ [p.1, p.2]) (some p) (r.map some)) = none
    rw [if_neg (by simp [up, n1, n2])]
    refine goF_good r _ _ _ (fun q e x hx => ?_) hr ?_
    · cases e
      exact hp x hx
    · rw [List.append_assoc]
      exact h3
theorem yard_good {n : Nat} {L : List (Nat × Nat)} (y : Yard n L) : goF 0 [] none (L.map some) = none := goF_good L 0 [] none (fun _ e => by cases e) y.up (by simpa using y.lines.nd)
end One
end P_M4

section P_E6
set_option linter.all false
set_option maxRecDepth 100000
set_option maxHeartbeats 8000000
namespace One
open PySem PySem.Spec PyProof.Rows L2
abbrev sFault : Stmt := top 31
abbrev nFault : List Str := ["thing", "many_ends", "taken", "ahead", "number", "line"]
theorem scFault : FnScope nFault ["thing"] (defScope sFault) := ⟨rfl, rfl, rfl, by decide +kernel, rfl, by decide +kernel, by decide +kernel⟩
/-- things that stand in a tuple, and what lines they are -/
inductive IL (H : Hp) (n : Nat) : List V → List (Option (Nat × Nat)) → Prop
  | nil : IL H n [] []
  | line {a p xs os} : PAt H a p → p.1 < p.2 → p.2 < n → IL H n xs os → IL H n (.ref a :: xs) (some p :: os)
  | flat {x T xs os} : TV H x T → isTup T = false → IL H n xs os → IL H n (x :: xs) (none :: os)
  | tup {a ys xs os} : H a = some (.tup ys) → (∀ y ∈ ys, ∃ T, TV H y T) → lineB ys n = false → IL H n xs os → IL H n (.ref a :: xs) (none :: os)
theorem IL.len {H : Hp} {n : Nat} {xs : List V} {os : List (Option (Nat × Nat))} (h : IL H n xs os) : xs.length = os.length := by
  induction h with
  | nil => rfl
  | line _ _ _ _ ih => simp [ih]
  | flat _ _ _ ih => simp [ih]
  | tup _ _ _ _ ih => simp [ih]
theorem IL.pairs {H : Hp} {n : Nat} : ∀ {ps : List (Nat × Nat)} {xs : List V}, IL H n xs (ps.map some) → ∃ as, xs = refs as ∧ PL H as ps ∧ ∀ p ∈ ps, p.1 < p.2 ∧ p.2 < n
  | [], _, .nil => ⟨[], rfl, .nil, fun p h => absurd h (by simp)⟩
  | p :: r, _, .line h1 h2 h3 t => by
    obtain ⟨as, e, h4, h5⟩ := IL.pairs t
    exact ⟨_ :: as, by rw [e]; rfl, .cons h1 h4, fun q hq => (List.mem_cons.mp hq).elim (fun e => e ▸ ⟨h2, h3⟩) (h5 q)⟩
theorem TV.mono {H H' : Hp} {v : V} {T : String} (h : TV H v T) (k : Same H H') : TV H' v T := by
  cases h with
  | non => exact .non
  | bl b => exact .bl b
  | int i => exact .int i
  | str x => exact .str x
  | tup e => exact .tup (k _ _ e)
  | lst e => exact .lst (k _ _ e)
  | dct e => exact .dct (k _ _ e)
theorem IL.mono {H H' : Hp} {n : Nat} {xs : List V} {os : List (Option (Nat × Nat))} (h : IL H n xs os) (k : Same H H') : IL H' n xs os := by
  induction h with
  | nil => exact .nil
  | line h1 h2 h3 _ ih => exact .line (k _ _ h1) h2 h3 ih
  | flat h1 h2 _ ih => exact .flat (h1.mono k) h2 ih
  | tup h1 h2 h3 _ ih => exact .tup (k _ _ h1) (fun y m => let ⟨T, t⟩ := h2 y m; ⟨T, t.mono k⟩) h3 ih
theorem IL.split {H : Hp} {n : Nat} {xs : List V} {os : List (Option (Nat × Nat))} (h : IL H n xs os) : ∀ {i : Nat} {x : V}, xs[i]? = some x → ∃ o, os[i]? = some o ∧ IL H n [x] [o] := by
  induction h with
  | nil => intro i x e; simp at e
  | line h1 h2 h3 _ ih =>
    intro i x e
    cases i with
    | zero =>
      have e := Option.some.inj e
      subst e
      exact ⟨_, rfl, .line h1 h2 h3 .nil⟩
    | succ i => exact ih (i := i) (by simpa using e)
  | flat h1 h2 _ ih =>
    intro i x e
    cases i with
    | zero =>
      have e := Option.some.inj e
      subst e
      exact ⟨_, rfl, .flat h1 h2 .nil⟩
    | succ i => exact ih (i := i) (by simpa using e)
  | tup h1 h2 h3 _ ih =>
    intro i x e
    cases i with
    | zero =>
      have e := Option.some.inj e
      subst e
      exact ⟨_, rfl, .tup h1 h2 h3 .nil⟩
    | succ i => exact ih (i := i) (by simpa using e)
/-- the line that stood ahead -/
def AheadAt (H : Hp) (a : Addr) : Option (Nat × Nat) → Prop
  | none => H a = some (.tup [])
  | some q => PAt H a q
theorem le_none (p : Nat × Nat) : Ob.lexAt (fun j => decide (([(p.1 : Int), (p.2 : Int)] : List Int).getD j 0 = ([] : List Int).getD j 0)) (fun j => decide (([(p.1 : Int), (p.2 : Int)] : List Int).getD j 0 ≤ ([] : List Int).getD j 0)) (decide (([(p.1 : Int), (p.2 : Int)] : List Int).length ≤ ([] : List Int).length)) 0 (min ([(p.1 : Int), (p.2 : Int)] : List Int).length ([] : List Int).length) = false := rfl
theorem le_some (p q : Nat × Nat) : Ob.lexAt (fun j => decide (([(p.1 : Int), (p.2 : Int)] : List Int).getD j 0 = ([(q.1 : Int), (q.2 : Int)] : List Int).getD j 0)) (fun j => decide (([(p.1 : Int), (p.2 : Int)] : List Int).getD j 0 ≤ ([(q.1 : Int), (q.2 : Int)] : List Int).getD j 0)) (decide (([(p.1 : Int), (p.2 : Int)] : List Int).length ≤ ([(q.1 : Int), (q.2 : Int)] : List Int).length)) 0 (min ([(p.1 : Int), (p.2 : Int)] : List Int).length ([(q.1 : Int), (q.2 : Int)] : List Int).length) = leB p q := by
  show (if decide ((p.1 : Int) = (q.1 : Int)) = true then (if decide ((p.2 : Int) = (q.2 : Int)) = true then true else decide ((p.2 : Int) ≤ (q.2 : Int))) else decide ((p.1 : Int) ≤ (q.1 : Int))) = leB p q
  unfold leB
  rw [Bool.eq_iff_iff]
  simp only [decide_eq_true_eq, Bool.or_eq_true, Bool.and_eq_true]
  constructor
  · intro h
    split at h
    · split at h
      · omega
      · simp only [decide_eq_true_eq] at h
        omega
    · simp only [decide_eq_true_eq] at h
      omega
  · intro h
    split
    · split
      · rfl
      · simp only [decide_eq_true_eq]
        omega
    · simp only [decide_eq_true_eq]
      omega
def spFault : Sp := fun vs H Q _ => ∃ v : V, vs = [v] ∧
  (((∃ T, TV H v T ∧ isTup T = false) ∨ ∃ (t : Addr) (xs : List V), v = .ref t ∧ H t = some (.tup xs) ∧ canBe (xs.length : Nat) = false) ∧ (∀ (H' : Hp) (p : Addr), Same H H' → H' p = some (.tup []) → Q (.ref p) H') ∨
  ∃ (t : Addr) (xs : List V) (os : List (Option (Nat × Nat))), v = .ref t ∧ H t = some (.tup xs) ∧ canBe (xs.length : Nat) = true ∧ IL H (2 * xs.length) xs os ∧
    (∀ k, goF 0 [] none os = some k → ∀ (H' : Hp) (p : Addr), Same H H' → H' p = some (.tup [.int (k : Nat)]) → Q (.ref p) H') ∧
    (goF 0 [] none os = none → ∀ ps, os = ps.map some → (Whole (xs.length / 2) ps → ∀ H', Same H H' → Q .non H') ∧ (¬ Whole (xs.length / 2) ps → ∀ (H' : Hp) (p : Addr), Same H H' → H' p = some (.tup [.int (xs.length : Nat)]) → Q (.ref p) H')))
section
variable {P : Program} {w : World} {K : PySem.W.Frag} {mg : Str → Option Value} {base : Heap}
theorem ok_fault {f fB fL fW : Addr} {fd fdB fdL fdW : FuncData} (F : Fun K "yard_fault" "yard_fault" sFault f fd) (T : TB mg) (B : Cal K mg "can_be_many_lines" fB fdB ["many"]) (GB : FnOk P w K mg base CX0 1 fB fdB ["many"] spCanBe)
    (L : Cal K mg "is_line" fL fdL ["thing", "many_ends"]) (GL : FnOk P w K mg base CX0 3 fL fdL ["thing", "many_ends"] spIsLine) (W : Cal K mg "is_whole" fW fdW ["lines"]) (GW : FnOk P w K mg base CX0 2 fW fdW ["lines"] spIsWhole) :
    FnOk P w K mg base CX0 4 f fd ["thing"] spFault := by
  refine F.ok scFault (fun vs H Q E h => ?_) (fun cdv A outer s H vs Q E hr h => ?_)
  · obtain ⟨v, rfl, _⟩ := h
    rfl
  · obtain ⟨v, rfl, h⟩ := h
    have nd := scFault.nd
    have hu := hu_of hr
    have hu0 : (A.deeper (envOfC "yard_fault" (defScope sFault) s.heap.objs.size f cdv)).units < cLine := Nat.lt_of_succ_lt hu
    have hr1 : Room 1 _ := hr.mono (by decide)
    have hrW : Room 2 _ := hr.mono (by decide)
    refine ⟨_, pss_cons (ps_if (pt_mid (PW.pt (pw_or (pt_not (pt_val (pe_callB call_isi (by rfl) T.isinstance boot_isinstance (pa_cons (pv 0) (pa_cons (pe_bltn (v := .ty "tuple") (by rfl) T.tuple boot_tuple rfl) pa_nil)))))
        (pw_or1 (pt_not (pt_val (pe_call GB hr1 rfl B.g B.kp B.b .nil pass0 (pa_cons (pe_callB call_len_seq (by rfl) T.len PySem.boot_len (pa_cons (pv 0) pa_nil)) pa_nil)))))))) (pss_one (ps_ret (pe_tup pa_nil))) pss_nil)
      (pss_cons (ps_set (i := 1) nd rfl (Or.inl rfl) (pe_op op_mul pe_int (pe_callB call_len_seq (by rfl) T.len PySem.boot_len (pa_cons (pv 0) pa_nil))))
      (pss_cons (ps_set (i := 2) nd rfl (Or.inl rfl) (pe_op op_rep (pe_lst (pa_cons pe_bl pa_nil)) (pv 1)))
      (pss_cons (ps_set (i := 3) nd rfl (Or.inl rfl) (pe_tup pa_nil))
      (pss_cons (ps_for PassesOwn.never rfl (pi_enumT (by rfl) T.enumerate (pa_cons (pv 0) pa_nil)) (pg_tup rfl (pgs_cons (pg_name (i := 4) nd rfl (Or.inl rfl)) (pgs_cons (pg_name (i := 5) nd rfl (Or.inl rfl)) pgs_nil)))
        (pss_cons (ps_if (pt_mid (PW.pt (pw_or (pt_not (pt_val (pe_call GL hr rfl L.g L.kp L.b .nil pass0 (pa_cons (pv 5) (pa_cons (pv 1) pa_nil)))))
            (pw_or (pt_cmpR (op_leT hu0) (pv 5) (pv 3) (nomark _)) (pw_or (pt_val (pe_ix ix_list (pv 2) (pe_ix ix_tup (pv 5) pe_int (fun _ _ => rfl)) (fun _ _ => rfl))) (pw_or1 (pt_val (pe_ix ix_list (pv 2) (pe_ix ix_tup (pv 5) pe_int (fun _ _ => rfl)) (fun _ _ => rfl)))))))))
            (pss_one (ps_ret (pe_tup (pa_cons (pv 4) pa_nil)))) pss_nil)
        (pss_cons (ps_asg2 pe_bl (pg_sub (pv 2) (pe_ix ix_tup (pv 5) pe_int (fun _ _ => rfl)) set_list) (pg_sub (pv 2) (pe_ix ix_tup (pv 5) pe_int (fun _ _ => rfl)) set_list))
        (pss_one (ps_set (i := 3) nd rfl (Or.inl rfl) (pv 5))))))
      (pss_one (ps_ret (pe_ifExp (pt_val (pe_call GW hrW rfl W.g W.kp W.b .nil pass0 (pa_cons (pv 0) pa_nil))) pe_non (pe_tup (pa_cons (pe_callB call_len_seq (by rfl) T.len PySem.boot_len (pa_cons (pv 0) pa_nil)) pa_nil))))))))), ?_⟩
    rcases h with ⟨h, k⟩ | ⟨t, xs, os, rfl, ht, hc, hI, k1, k2⟩
    · refine ⟨fun b H' => b = true ∧ Same H H', ?_, ?_⟩
      · rcases h with ⟨ty, hv, hT⟩ | ⟨t, xs, rfl, ht, hc⟩
        · refine ⟨_, rfl, v, _, _, _, _, rfl, .ty _, hv.tyx, hv.kTup, _, rfl, ?_⟩
          rw [hT]
          exact iteT ⟨rfl, Same.refl H⟩
        · refine ⟨_, rfl, _, _, _, _, _, rfl, .ty _, (TV.tup ht).tyx, (TV.tup ht).kTup, _, rfl, ?_⟩
          refine iteF ⟨_, rfl, t, _, rfl, .inr (SqT.of ht), _, rfl, fun H' s' => ⟨_, rfl, ?_⟩⟩
          rw [hc]
          exact ⟨rfl, s'⟩
      · rintro b H' ⟨rfl, s'⟩
        exact iteT ⟨Nat.zero_le _, fun p hp => k _ p (s'.trans (Same.new hp)) upd_same⟩
    · have hcb : 2 ≤ xs.length ∧ xs.length ≤ 80 ∧ xs.length % 2 = 0 := by
        unfold canBe at hc
        simp only [Bool.and_eq_true, decide_eq_true_eq] at hc
        omega
      refine ⟨fun b H' => b = false ∧ Same H H', ?_, ?_⟩
      · refine ⟨_, rfl, _, _, _, _, _, rfl, .ty _, (TV.tup ht).tyx, (TV.tup ht).kTup, _, rfl, ?_⟩
        refine iteF ⟨_, rfl, t, _, rfl, .inr (SqT.of ht), _, rfl, fun H' s' => ⟨_, rfl, ?_⟩⟩
        rw [hc]
        exact ⟨rfl, s'⟩
      · rintro b H1 ⟨rfl, s1⟩
        have ht1 := s1 _ _ ht
        have e2 : (2 : Int) * (xs.length : Nat) = ((2 * xs.length : Nat) : Int) := by omega
        refine iteF ⟨_, rfl, t, _, rfl, .inr (SqT.of ht1), _, _, rfl, rfl, .inl ⟨by decide, by decide⟩, ?_⟩
        refine ⟨by show 1 ≤ sizeLine; decide, fun l1 hl1 => ⟨_, rfl, l1, ((2 * xs.length : Nat) : Int), _, rfl, (by show V.int ((2 : Int) * (xs.length : Nat)) = _; rw [e2]), upd_same, by omega, by omega, (by show 1 * _ ≤ _; exact Nat.le_of_lt (small1000 (by omega))), fun tk htk => ?_⟩⟩
        have eR : (List.replicate ((2 * xs.length : Nat) : Int).toNat [V.bl false]).flatten = (List.replicate (2 * xs.length) false).map V.bl := by
          rw [show ((2 * xs.length : Nat) : Int).toNat = 2 * xs.length by omega, List.map_replicate]
          exact flat_rep _ _
        have s2 := Same.new (o := .lst [V.bl false]) hl1
        have s3 := Same.new (o := .lst (List.replicate ((2 * xs.length : Nat) : Int).toNat [V.bl false]).flatten) htk
        refine ⟨Nat.zero_le _, fun a0 ha0 => ?_⟩
        have s4 := Same.new (o := .tup []) ha0
        have sA := s1.trans (s2.trans (s3.trans s4))
        have htk0 : H tk = none := (s1.trans s2).free htk
        have ntk : ∀ b o, H b = some o → b ≠ tk := fun b o e => ne_of_none e htk0
        refine ⟨_, rfl, t, _, rfl, SqT.of (sA _ _ ht), for_it (walk_enumT (K := K) (a := t) (xs := xs)) (fun i σ H2 => ∃ (ah : Addr) (bs : List Bool) (met : List Nat) (o : Option (Nat × Nat)) (v4 v5 : Option V),
            σ = [some (.ref t), some (.int ((2 : Int) * (xs.length : Nat))), some (.ref tk), some (.ref ah), v4, v5] ∧ Same H H2 ∧ H2 tk = some (.lst (bs.map V.bl)) ∧ bs.length = 2 * xs.length ∧ (∀ e, e < 2 * xs.length → bs[e]? = some (met.contains e)) ∧ AheadAt H2 ah o ∧ goF i met o (os.drop i) = goF 0 [] none os)
          ⟨a0, List.replicate (2 * xs.length) false, [], none, none, none, rfl, sA, ?_, List.length_replicate, fun e he => by rw [List.getElem?_replicate, if_pos he]; rfl, upd_same, rfl⟩ (fun i σ H2 _ ⟨_, _, _, _, _, _, _, s', _⟩ => SqT.of (s' _ _ ht)) ?_ ?_⟩
        · rw [← eR]
          exact s4 _ _ upd_same
        · rintro i x σ H2 H3 hi ⟨ah, bs, met, o, v4, v5, rfl, s5, htk2, hbl, hbs, hah, hgo⟩ ⟨T, x', y', rfl, hT, rfl, ex, ey⟩
          cases ex
          have s6 := Same.new (o := .tup [V.int (i : Nat), y']) hT
          obtain ⟨oi, hoi, hI1⟩ := hI.split ey
          have hdrop : os.drop i = oi :: os.drop (i + 1) := by
            obtain ⟨hlt, e⟩ := List.getElem?_eq_some_iff.mp hoi
            rw [List.drop_eq_getElem_cons hlt, e]
          rw [hdrop] at hgo
          refine ⟨T, _, rfl, SqT.of upd_same, rfl, _, _, rfl, _, _, rfl, rfl, ?_⟩
          have htk3 := s6 _ _ htk2
          have nn : ((2 : Int) * (xs.length : Nat)) = ((2 * xs.length : Nat) : Int) := e2
          have bad : goF i met o (oi :: os.drop (i + 1)) = some i → ∀ (H4 : Hp), Same H H4 → tRet (tTup (tCons (tVar 4) tNil)) { nx := fun _ H' => Q .non H', rt := Q } [some (.ref t), some (.int ((2 : Int) * (xs.length : Nat))), some (.ref tk), some (.ref ah), some (.int (i : Nat)), some y'] H4 := by
            intro hb H4 s7
            refine ⟨_, rfl, by show 1 ≤ sizeLine; decide, fun p hp => ?_⟩
            exact k1 i (hgo.symm.trans hb) _ p (s7.trans (Same.new hp)) upd_same
          have hI3 := (hI1.mono s5).mono s6
          cases oi with
          | none =>
            refine ⟨fun b H4 => b = true ∧ Same (upd H2 T (.tup [V.int (i : Nat), y'])) H4, ?_, ?_⟩
            · have key : ∀ Q' : Bool → Hp → Prop, Q' false (upd H2 T (.tup [V.int (i : Nat), y'])) → spIsLine [y', .int ((2 : Int) * (xs.length : Nat))] (upd H2 T (.tup [V.int (i : Nat), y'])) (fun v H' => ∃ c, v = .bl c ∧ Q' c H') E0 := by
                intro Q' q
                cases hI3 with
                | flat h1 h2 _ => exact ⟨_, _, rfl, .inl ⟨_, h1, h2, false, rfl, q⟩⟩
                | tup h1 h2 h3 _ =>
                  refine ⟨_, _, rfl, .inr ⟨_, _, rfl, h1, h2, false, ?_, q⟩⟩
                  rw [nn, h3]
              refine ⟨_, rfl, _, rfl, ?_⟩
              exact key _ (iteT ⟨rfl, Same.refl _⟩)
            · rintro b H4 ⟨rfl, s7⟩
              exact iteT (bad rfl H4 (s5.trans (s6.trans s7)))
          | some p =>
            cases hI3 with
            | @line a _ _ _ pa hlt hn _ =>
              have q1 : p.1 < 2 * xs.length := by omega
              have g1 := hbs p.1 q1
              have g2 := hbs p.2 hn
              have at1 : atI (bs.map V.bl) ((p.1 : Nat) : Int) = some (V.bl (met.contains p.1)) := at_of (j := p.1) rfl (by rw [List.getElem?_map, g1]; rfl)
              have at2 : atI (bs.map V.bl) ((p.2 : Nat) : Int) = some (V.bl (met.contains p.2)) := at_of (j := p.2) rfl (by rw [List.getElem?_map, g2]; rfl)
              refine ⟨fun b H4 => b = (notUp p o || met.contains p.1 || met.contains p.2) ∧ H4 = upd H2 T (.tup [V.int (i : Nat), V.ref a]), ?_, ?_⟩
              · have hline : lineB [V.int (p.1 : Nat), V.int (p.2 : Nat)] ((2 : Int) * (xs.length : Nat)) = true := by
                  show (decide (0 ≤ ((p.1 : Nat) : Int)) && decide (((p.1 : Nat) : Int) < (2 : Int) * (xs.length : Nat)) && (decide (0 ≤ ((p.2 : Nat) : Int)) && decide (((p.2 : Nat) : Int) < (2 : Int) * (xs.length : Nat))) && decide (((p.1 : Nat) : Int) < ((p.2 : Nat) : Int))) = true
                  simp only [Bool.and_eq_true, decide_eq_true_eq]
                  omega
                refine ⟨_, rfl, _, rfl, _, _, rfl, .inr ⟨a, _, rfl, pa, fun y hy => ?_, _, rfl, ?_⟩⟩
                · simp only [List.mem_cons, List.not_mem_nil, or_false] at hy
                  rcases hy with rfl | rfl <;> exact ⟨_, .int _⟩
                rw [hline]
                refine iteF ⟨_, rfl, _, rfl, a, ah, [(p.1 : Int), (p.2 : Int)], (match o with | none => [] | some q => [(q.1 : Int), (q.2 : Int)]), rfl, rfl, SqT.of pa, ?_, _, rfl, ?_⟩
                · cases o with
                  | none => exact SqT.of (s6 _ _ hah)
                  | some q => exact SqT.of (s6 _ _ hah)
                have ele : ∀ (R : Bool → Prop), R (notUp p o) → R (Ob.lexAt (fun j => decide (([(p.1 : Int), (p.2 : Int)] : List Int).getD j 0 = ((match o with | none => [] | some q => [(q.1 : Int), (q.2 : Int)]) : List Int).getD j 0)) (fun j => decide (([(p.1 : Int), (p.2 : Int)] : List Int).getD j 0 ≤ ((match o with | none => [] | some q => [(q.1 : Int), (q.2 : Int)]) : List Int).getD j 0)) (decide (([(p.1 : Int), (p.2 : Int)] : List Int).length ≤ ((match o with | none => [] | some q => [(q.1 : Int), (q.2 : Int)]) : List Int).length)) 0 (min ([(p.1 : Int), (p.2 : Int)] : List Int).length ((match o with | none => [] | some q => [(q.1 : Int), (q.2 : Int)]) : List Int).length)) := by
                  intro R r
                  cases o with
                  | none => exact r
                  | some q =>
                    have := le_some p q
                    rw [this]
                    exact r
                refine ele (fun c => if c = true then _ else _) ?_
                refine ite2 (fun hu => ?_) (fun hu => ?_)
                · exact ⟨by rw [hu]; rfl, rfl⟩
                · have hu := Bool.eq_false_iff.mpr hu
                  refine ⟨_, rfl, _, rfl, a, _, _, _, rfl, rfl, SqT.of pa, rfl, tk, _, _, _, rfl, rfl, SqL.of htk3, at1, _, rfl, ?_⟩
                  refine ite2 (fun h1 => ?_) (fun h1 => ?_)
                  · exact ⟨by rw [hu, h1]; rfl, rfl⟩
                  · have h1 := Bool.eq_false_iff.mpr h1
                    refine ⟨_, rfl, _, rfl, a, _, _, _, rfl, rfl, SqT.of pa, rfl, tk, _, _, _, rfl, rfl, SqL.of htk3, at2, _, rfl, ?_, rfl⟩
                    rw [hu, h1]
                    rfl
              · rintro b H4 ⟨rfl, rfl⟩
                refine ite2 (fun hb => ?_) (fun hb => ?_)
                · refine bad ?_ _ (s5.trans s6)
                  show (if (notUp p o || met.contains p.1 || met.contains p.2) = true then some i else _) = some i
                  rw [if_pos hb]
                · have hgo2 : goF (i + 1) (met ++ [p.1, p.2]) (some p) (os.drop (i + 1)) = goF 0 [] none os := by
                    rw [← hgo]
                    show _ = (if (notUp p o || met.contains p.1 || met.contains p.2) = true then some i else _)
                    rw [if_neg hb]
                  have setB : ∀ (r : List Bool) (j : Nat), (r.map V.bl).set j (V.bl true) = (r.set j true).map V.bl := fun r j => (List.map_set).symm
                  have ntt : tk ≠ T := ne_of_none htk2 hT
                  refine ⟨_, rfl, _, rfl, a, _, _, _, rfl, rfl, SqT.of pa, rfl, tk, _, _, p.1, rfl, rfl, htk3, ix_nat (by rw [List.length_map, hbl]; exact q1), ?_⟩
                  rw [setB]
                  have w1 : ∀ b u, H b = some u → (upd (upd H2 T (.tup [V.int (i : Nat), V.ref a])) tk (.lst ((bs.set p.1 true).map V.bl))) b = some u := fun b u e => (upd_ne (ntk _ _ e)).trans (s6 _ _ (s5 _ _ e))
                  have kt : ∀ b zs, (upd H2 T (.tup [V.int (i : Nat), V.ref a])) b = some (.tup zs) → b ≠ tk := fun b zs e => ne_of e htk3 (by intro z; cases z)
                  have pa4 : PAt (upd (upd H2 T (.tup [V.int (i : Nat), V.ref a])) tk (.lst ((bs.set p.1 true).map V.bl))) a p := (upd_ne (kt _ _ pa)).trans pa
                  refine ⟨_, rfl, _, rfl, a, _, _, _, rfl, rfl, SqT.of pa4, rfl, tk, _, _, p.2, rfl, rfl, upd_same, ix_nat (by rw [List.length_map, List.length_set, hbl]; exact hn), ?_⟩
                  rw [setB]
                  refine ⟨_, rfl, a, (bs.set p.1 true).set p.2 true, met ++ [p.1, p.2], some p, _, _, rfl, fun b u e => (upd_ne (ntk _ _ e)).trans (w1 b u e), upd_same, by rw [List.length_set, List.length_set]; exact hbl, fun e he => ?_, (upd_ne (kt _ _ pa)).trans pa4, hgo2⟩
                  have cm : (met ++ [p.1, p.2]).contains e = (met.contains e || decide (e = p.1) || decide (e = p.2)) := by
                    rw [Bool.eq_iff_iff]
                    simp [or_assoc]
                  rw [cm]
                  by_cases e2' : p.2 = e
                  · subst e2'
                    rw [List.getElem?_set_self (by rw [List.length_set, hbl]; exact he)]
                    simp
                  · rw [List.getElem?_set_ne e2']
                    by_cases e1' : p.1 = e
                    · subst e1'
                      rw [List.getElem?_set_self (by rw [hbl]; exact he)]
                      simp
                    · rw [List.getElem?_set_ne e1', hbs e he, decide_eq_false (fun z => e1' z.symm), decide_eq_false (fun z => e2' z.symm), Bool.or_false, Bool.or_false]
        · rintro σ H2 ⟨ah, bs, met, o, v4, v5, rfl, s5, htk2, hbl, hbs, hah, hgo⟩
          rw [hI.len, List.drop_length] at hgo
          have hno : goF 0 [] none os = none := hgo.symm
          have hos := goF_pairs os 0 [] none hno
          generalize os.filterMap id = ps at hos
          subst hos
          obtain ⟨k3, k4⟩ := k2 hno ps rfl
          obtain ⟨as, rfl, hP, hlt⟩ := hI.pairs
          have hla : as.length = ps.length := hP.len
          have nl : (refs as).length = as.length := List.length_map _
          refine ⟨_, rfl, t, (refs as).length / 2, as, ps, rfl, s5 _ _ ht, hP.mono (sameT s5), ⟨by omega, by omega, fun p hp => ?_⟩, by omega, fun H4 b s6 hb => ⟨b, rfl, ?_⟩⟩
          · have := hlt p hp
            omega
          cases b with
          | true => exact iteT (k3 (hb.mp rfl) _ (s5.trans s6))
          | false =>
            have ht4 := s6 _ _ (s5 _ _ ht)
            refine iteF ⟨_, rfl, t, _, rfl, .inr (SqT.of ht4), by show 1 ≤ sizeLine; decide, fun p hp => ?_⟩
            exact k4 (fun hw => by cases hb.mpr hw) _ p (s5.trans (s6.trans (Same.new hp))) upd_same
end
end One
end P_E6

section P_M5
set_option linter.all false
/-! Far ends; sewing the newest crossing out again. -/
namespace One
/-- strictly sorted lists with the same items are the same -/
theorem sorted_ext {α : Type} {lt : α → α → Prop} (irr : ∀ a, ¬ lt a a) (tr : ∀ a b c, lt a b → lt b c → lt a c) : ∀ {L M : List α}, L.Pairwise lt → M.Pairwise lt → (∀ x, x ∈ L ↔ x ∈ M) → L = M
  | [], [], _, _, _ => rfl
  | [], b :: M, _, _, h => absurd ((h b).mpr (List.mem_cons_self ..)) (by simp)
  | a :: L, [], _, _, h => absurd ((h a).mp (List.mem_cons_self ..)) (by simp)
  | a :: L, b :: M, hL, hM, h => by
    obtain ⟨h1, h2⟩ := List.pairwise_cons.mp hL
    obtain ⟨h3, h4⟩ := List.pairwise_cons.mp hM
    have e : a = b := by
      rcases List.mem_cons.mp ((h a).mp (List.mem_cons_self ..)) with e | m
      · exact e
      · rcases List.mem_cons.mp ((h b).mpr (List.mem_cons_self ..)) with e | m'
        · exact e.symm
        · exact absurd (tr _ _ _ (h1 b m') (h3 a m)) (irr a)
    subst e
    refine congrArg (a :: ·) (sorted_ext irr tr h2 h4 fun x => ⟨fun m => ?_, fun m => ?_⟩)
    · rcases List.mem_cons.mp ((h x).mp (List.mem_cons_of_mem _ m)) with e | m'
      · subst e
        exact absurd (h1 x m) (irr x)
      · exact m'
    · rcases List.mem_cons.mp ((h x).mpr (List.mem_cons_of_mem _ m)) with e | m'
      · subst e
        exact absurd (h3 x m) (irr x)
      · exact m'
theorem ltP_irr (a : Nat × Nat) : ¬ ltP a a := fun h => by
  unfold ltP at h
  omega
theorem ltP_tr (a b c : Nat × Nat) (h : ltP a b) (k : ltP b c) : ltP a c := by
  unfold ltP at *
  omega
theorem Yard.eq {n m : Nat} {L M : List (Nat × Nat)} (y : Yard n L) (z : Yard m M) (h : ∀ x, x ∈ L ↔ x ∈ M) : L = M := sorted_ext ltP_irr ltP_tr y.up z.up h
/-- the far end -/
def far : List (Nat × Nat) → Nat → Nat
  | [], _ => 0
  | p :: r, e => if e = p.1 then p.2 else if e = p.2 then p.1 else far r e
theorem far_out : ∀ {ps : List (Nat × Nat)} {e : Nat}, e ∉ ends ps → far ps e = 0
  | [], _, _ => rfl
  | p :: r, e, h => by
    have h : e ∉ p.1 :: p.2 :: ends r := h
    simp only [List.mem_cons, not_or] at h
    unfold far
    rw [if_neg h.1, if_neg h.2.1, far_out h.2.2]
theorem far_of : ∀ {ps : List (Nat × Nat)}, (ends ps).Nodup → ∀ {p : Nat × Nat}, p ∈ ps → far ps p.1 = p.2 ∧ far ps p.2 = p.1
  | q :: r, h, p, m => by
    have h : (q.1 :: q.2 :: ends r).Nodup := h
    obtain ⟨h1, h2⟩ := List.nodup_cons.mp h
    obtain ⟨h3, h4⟩ := List.nodup_cons.mp h2
    unfold far
    rcases List.mem_cons.mp m with e | m
    · subst e
      refine ⟨if_pos rfl, ?_⟩
      rw [if_neg (fun e => h1 (List.mem_cons.mpr (.inl e.symm))), if_pos rfl]
    · have m1 : p.1 ∈ ends r := mem_ends.mpr ⟨p, m, .inl rfl⟩
      have m2 : p.2 ∈ ends r := mem_ends.mpr ⟨p, m, .inr rfl⟩
      obtain ⟨i1, i2⟩ := far_of h4 m
      have n1 : p.1 ≠ q.1 := fun e => h1 (List.mem_cons.mpr (.inr (e ▸ m1)))
      have n2 : p.1 ≠ q.2 := fun e => h3 (e ▸ m1)
      have n3 : p.2 ≠ q.1 := fun e => h1 (List.mem_cons.mpr (.inr (e ▸ m2)))
      have n4 : p.2 ≠ q.2 := fun e => h3 (e ▸ m2)
      rw [if_neg n1, if_neg n2, if_neg n3, if_neg n4]
      exact ⟨i1, i2⟩
theorem far_line {ps : List (Nat × Nat)} (h : (ends ps).Nodup) {e : Nat} (m : e ∈ ends ps) : ((e, far ps e) ∈ ps ∨ (far ps e, e) ∈ ps) ∧ far ps (far ps e) = e := by
  obtain ⟨p, hp, z | z⟩ := mem_ends.mp m
  · obtain ⟨i1, i2⟩ := far_of h hp
    rw [z, i1, i2]
    exact ⟨.inl hp, rfl⟩
  · obtain ⟨i1, i2⟩ := far_of h hp
    rw [z, i2, i1]
    exact ⟨.inr hp, rfl⟩
theorem far_snoc {p : Nat × Nat} : ∀ {ps : List (Nat × Nat)}, (ends (ps ++ [p])).Nodup → ∀ e, far (ps ++ [p]) e = if e = p.1 then p.2 else if e = p.2 then p.1 else far ps e
  | ps, h, e => by
    have hp : p ∈ ps ++ [p] := List.mem_append_right _ (List.mem_cons_self ..)
    obtain ⟨i1, i2⟩ := far_of h hp
    by_cases e1 : e = p.1
    · rw [if_pos e1, e1, i1]
    · rw [if_neg e1]
      by_cases e2 : e = p.2
      · rw [if_pos e2, e2, i2]
      · rw [if_neg e2]
        have go : ∀ (l : List (Nat × Nat)), far (l ++ [p]) e = far l e := by
          intro l
          induction l with
          | nil =>
            show (if e = p.1 then p.2 else if e = p.2 then p.1 else far [] e) = far [] e
            rw [if_neg e1, if_neg e2]
          | cons q r ih =>
            show (if e = q.1 then q.2 else if e = q.2 then q.1 else far (r ++ [p]) e) = (if e = q.1 then q.2 else if e = q.2 then q.1 else far r e)
            rw [ih]
        exact go ps
theorem pigeon : ∀ (m : Nat) (l : List Nat), l.Nodup → (∀ x ∈ l, x < m) → l.length ≤ m
  | 0, [], _, _ => Nat.le_refl _
  | 0, a :: l, _, h => absurd (h a (List.mem_cons_self ..)) (by omega)
  | m + 1, l, nd, h => by
    by_cases hm : m ∈ l
    · have e := List.length_erase_of_mem hm
      have ih := pigeon m (l.erase m) (nd.erase m) fun x hx => by
        have q := (nd.mem_erase_iff).mp hx
        have := h x q.2
        have := q.1
        omega
      omega
    · have ih := pigeon m l nd fun x hx => by
        have := h x hx
        have : x ≠ m := fun e => hm (e ▸ hx)
        omega
      omega
/-- every end below 4n stands in lines of n crossings -/
theorem ends_full {n : Nat} {ps : List (Nat × Nat)} (L : Lines n ps) {e : Nat} (h : e < 4 * n) : e ∈ ends ps := by
  by_cases m : e ∈ ends ps
  · exact m
  · exfalso
    have hl : (ends ps).length = 4 * n := by rw [ends_length, L.len]; omega
    have nd : (e :: ends ps).Nodup := List.nodup_cons.mpr ⟨m, L.nd⟩
    have := pigeon (4 * n) (e :: ends ps) nd fun x hx => by
      rcases List.mem_cons.mp hx with z | z
      · rw [z]; exact h
      · exact L.lt x z
    rw [List.length_cons, hl] at this
    omega
theorem far_lt {n : Nat} {ps : List (Nat × Nat)} (L : Lines n ps) {e : Nat} (h : e < 4 * n) : far ps e < 4 * n := by
  obtain ⟨z | z, _⟩ := far_line L.nd (ends_full L h)
  · exact L.lt _ (mem_ends.mpr ⟨_, z, .inr rfl⟩)
  · exact L.lt _ (mem_ends.mpr ⟨_, z, .inl rfl⟩)
/-- the lines told from the far ends -/
def linesOf (F : Nat → Nat) (m : Nat) : List (Nat × Nat) := (List.range m).filterMap fun e => if e < F e then some (e, F e) else none
theorem linesOf_snoc (F : Nat → Nat) (m : Nat) : linesOf F (m + 1) = linesOf F m ++ (if m < F m then [(m, F m)] else []) := by
  unfold linesOf
  rw [List.range_succ, List.filterMap_append]
  by_cases h : m < F m
  · simp [h]
  · simp [h]
theorem linesOf_mem {F : Nat → Nat} {m : Nat} {p : Nat × Nat} : p ∈ linesOf F m ↔ p.1 < m ∧ F p.1 = p.2 ∧ p.1 < p.2 := by
  unfold linesOf
  rw [List.mem_filterMap]
  constructor
  · rintro ⟨e, he, h⟩
    split at h
    · cases h
      exact ⟨List.mem_range.mp he, rfl, by assumption⟩
    · cases h
  · rintro ⟨h1, h2, h3⟩
    refine ⟨p.1, List.mem_range.mpr h1, ?_⟩
    rw [h2, if_pos h3]
theorem linesOf_up (F : Nat → Nat) : ∀ m, (linesOf F m).Pairwise ltP
  | 0 => .nil
  | m + 1 => by
    rw [linesOf_snoc]
    refine List.pairwise_append.mpr ⟨linesOf_up F m, ?_, fun a ha b hb => ?_⟩
    · split
      · exact List.pairwise_singleton _ _
      · exact .nil
    · split at hb
      · rw [List.mem_singleton.mp hb]
        exact .inl (linesOf_mem.mp ha).1
      · cases hb
theorem yard_linesOf {n : Nat} {ps : List (Nat × Nat)} (y : Yard n ps) : linesOf (far ps) (4 * n) = ps := by
  refine sorted_ext ltP_irr ltP_tr (linesOf_up _ _) y.up fun p => ⟨fun h => ?_, fun h => ?_⟩
  · obtain ⟨h1, h2, h3⟩ := linesOf_mem.mp h
    obtain ⟨z | z, _⟩ := far_line y.lines.nd (ends_full y.lines h1)
    · rw [h2] at z
      exact z
    · rw [h2] at z
      have := y.low _ z
      simp only at this
      omega
  · have h1 := y.lines.lt _ (mem_ends.mpr ⟨p, h, .inl rfl⟩)
    exact linesOf_mem.mpr ⟨h1, (far_of y.lines.nd h).1, y.low p h⟩
end One
end P_M5

section P_M6
set_option linter.all false
namespace One
/-- what lies behind b, seen through crossing c sewn out at way w; k turns at most -/
def backK (F : Nat → Nat) (c w : Nat) : Nat → Nat → Option Nat
  | 0, b => if b / 4 = c then none else some b
  | k + 1, b => if b / 4 = c then backK F c w k (F (b ^^^ (w + 1))) else some b
theorem xor_two : ∀ n, n < 64 → (4 * n) ^^^ 2 = 4 * n + 2 ∧ (4 * n + 1) ^^^ 2 = 4 * n + 3 ∧ (4 * n + 2) ^^^ 2 = 4 * n ∧ (4 * n + 3) ^^^ 2 = 4 * n + 1 := by
  have h : ∀ n : Fin 64, (4 * (n : Nat)) ^^^ 2 = 4 * (n : Nat) + 2 ∧ (4 * (n : Nat) + 1) ^^^ 2 = 4 * (n : Nat) + 3 ∧ (4 * (n : Nat) + 2) ^^^ 2 = 4 * (n : Nat) ∧ (4 * (n : Nat) + 3) ^^^ 2 = 4 * (n : Nat) + 1 := by decide +kernel
  exact fun n hn => h ⟨n, hn⟩
theorem backK_out {F : Nat → Nat} {c w k b : Nat} (h : b / 4 ≠ c) : backK F c w k b = some b := by
  cases k <;> exact if_neg h
theorem backK_in {F : Nat → Nat} {c w k b : Nat} (h : b / 4 = c) : backK F c w (k + 1) b = backK F c w k (F (b ^^^ (w + 1))) := if_pos h
theorem put_yard {n : Nat} {ps T : List (Nat × Nat)} {i j : Nat} {a b : Nat × Nat} (y : Yard n ps) (ha : ps[i]? = some a) (hb : ps[j]? = some b) (hp : T.Perm (putOn n ps i j a b)) (hs : T.Pairwise leP) : Yard (n + 1) T := by
  refine yard_of_sorted (Nat.succ_pos _) (put_lines y.lines ha hb) (put_whole y.pos y.lines y.whole ha hb) (fun p m => ?_) hp hs
  have lt : ∀ q ∈ ps, q.1 < 4 * n ∧ q.2 < 4 * n := fun q hq => ⟨y.lines.lt _ (mem_ends.mpr ⟨q, hq, .inl rfl⟩), y.lines.lt _ (mem_ends.mpr ⟨q, hq, .inr rfl⟩)⟩
  obtain ⟨a1, a2⟩ := lt a (List.mem_of_getElem? ha)
  obtain ⟨b1, b2⟩ := lt b (List.mem_of_getElem? hb)
  rcases List.mem_append.mp m with m | m
  · exact Nat.le_of_lt (y.low p (mem_keep _ _ _ _ m))
  · unfold fresh at m
    split at m
    · simp only [List.mem_cons, List.not_mem_nil, or_false] at m
      rcases m with rfl | rfl | rfl <;> simp only <;> omega
    · simp only [List.mem_cons, List.not_mem_nil, or_false] at m
      rcases m with rfl | rfl | rfl | rfl <;> simp only <;> omega
theorem sew_back {n : Nat} {ps T : List (Nat × Nat)} {i j : Nat} {a b : Nat × Nat} (L : Lines n ps) (ha : ps[i]? = some a) (hb : ps[j]? = some b) (hp : T.Perm (putOn n ps i j a b)) (hn : n < 64) :
    (∀ e, e < 4 * n → backK (far T) n 1 2 (far T e) = some (far ps e)) ∧ (far T (4 * n) ≠ (4 * n) ^^^ 2 ∧ far T (4 * n + 1) ≠ (4 * n + 1) ^^^ 2 ∧ far T (4 * n + 2) ≠ (4 * n + 2) ^^^ 2 ∧ far T (4 * n + 3) ≠ (4 * n + 3) ^^^ 2) := by
  have LT : Lines (n + 1) T := (put_lines L ha hb).perm hp.symm
  obtain ⟨x0, x1, x2, x3⟩ := xor_two n hn
  have lt : ∀ q ∈ ps, q.1 < 4 * n ∧ q.2 < 4 * n := fun q hq => ⟨L.lt _ (mem_ends.mpr ⟨q, hq, .inl rfl⟩), L.lt _ (mem_ends.mpr ⟨q, hq, .inr rfl⟩)⟩
  have ma := List.mem_of_getElem? ha
  have mb := List.mem_of_getElem? hb
  obtain ⟨a1, a2⟩ := lt a ma
  obtain ⟨b1, b2⟩ := lt b mb
  have d0 : (4 * n) / 4 = n := by omega
  have d1 : (4 * n + 1) / 4 = n := by omega
  have d2 : (4 * n + 2) / 4 = n := by omega
  have d3 : (4 * n + 3) / 4 = n := by omega
  have out : ∀ {b k}, b < 4 * n → backK (far T) n 1 k b = some b := fun h => backK_out (by omega)
  have isT : ∀ {p}, p ∈ putOn n ps i j a b → far T p.1 = p.2 ∧ far T p.2 = p.1 := fun m => far_of LT.nd (hp.mem_iff.mpr m)
  have kept : ∀ p ∈ keepIx (notIJ i j) 0 ps, ∀ e, e = p.1 ∨ e = p.2 → backK (far T) n 1 2 (far T e) = some (far ps e) := fun p m e he => by
    have mp := mem_keep _ _ _ _ m
    obtain ⟨t1, t2⟩ := isT (p := p) (List.mem_append_left _ m)
    obtain ⟨o1, o2⟩ := far_of L.nd mp
    obtain ⟨l1, l2⟩ := lt p mp
    rcases he with rfl | rfl
    · rw [t1, o1]; exact out l2
    · rw [t2, o2]; exact out l1
  by_cases hij : i = j
  · subst hij
    have eab : b = a := Option.some.inj (hb.symm.trans ha)
    subst eab
    have fr : fresh n i i b b = [(b.1, 4 * n), (4 * n + 1, 4 * n + 2), (b.2, 4 * n + 3)] := if_pos rfl
    have mem : ∀ q ∈ fresh n i i b b, far T q.1 = q.2 ∧ far T q.2 = q.1 := fun q m => isT (List.mem_append_right _ m)
    rw [fr] at mem
    obtain ⟨p1, p2⟩ := mem (b.1, 4 * n) (by simp)
    obtain ⟨p3, p4⟩ := mem (4 * n + 1, 4 * n + 2) (by simp)
    obtain ⟨p5, p6⟩ := mem (b.2, 4 * n + 3) (by simp)
    simp only at p1 p2 p3 p4 p5 p6
    obtain ⟨g1, g2⟩ := far_of L.nd mb
    refine ⟨fun e he => ?_, ?_, ?_, ?_, ?_⟩
    · obtain ⟨p, m, z⟩ := mem_ends.mp (ends_full L he)
      rcases List.mem_cons.mp ((keep_one ha).mem_iff.mp m) with e1 | m
      · subst e1
        rcases z with rfl | rfl
        · rw [p1, g1, backK_in d0, x0, p4, backK_in d1, x1, p6]
          exact out b2
        · rw [p5, g2, backK_in d3, x3, p3, backK_in d2, x2, p2]
          exact out b1
      · exact kept p m e z
    · rw [p2, x0]; omega
    · rw [p3, x1]; omega
    · rw [p4, x2]; omega
    · rw [p6, x3]; omega
  · have fr : fresh n i j a b = [(a.1, 4 * n), (a.2, 4 * n + 2), (b.1, 4 * n + 1), (b.2, 4 * n + 3)] := if_neg hij
    have mem : ∀ q ∈ fresh n i j a b, far T q.1 = q.2 ∧ far T q.2 = q.1 := fun q m => isT (List.mem_append_right _ m)
    rw [fr] at mem
    obtain ⟨p1, p2⟩ := mem (a.1, 4 * n) (by simp)
    obtain ⟨p3, p4⟩ := mem (a.2, 4 * n + 2) (by simp)
    obtain ⟨p5, p6⟩ := mem (b.1, 4 * n + 1) (by simp)
    obtain ⟨p7, p8⟩ := mem (b.2, 4 * n + 3) (by simp)
    simp only at p1 p2 p3 p4 p5 p6 p7 p8
    obtain ⟨g1, g2⟩ := far_of L.nd ma
    obtain ⟨g3, g4⟩ := far_of L.nd mb
    refine ⟨fun e he => ?_, ?_, ?_, ?_, ?_⟩
    · obtain ⟨p, m, z⟩ := mem_ends.mp (ends_full L he)
      rcases List.mem_cons.mp ((keep_two hij ha hb).mem_iff.mp m) with e1 | m
      · subst e1
        rcases z with rfl | rfl
        · rw [p1, g1, backK_in d0, x0, p4]
          exact out a2
        · rw [p3, g2, backK_in d2, x2, p2]
          exact out a1
      · rcases List.mem_cons.mp m with e1 | m
        · subst e1
          rcases z with rfl | rfl
          · rw [p5, g3, backK_in d1, x1, p8]
            exact out b2
          · rw [p7, g4, backK_in d3, x3, p6]
            exact out b1
        · exact kept p m e z
    · rw [p2, x0]; omega
    · rw [p6, x1]; omega
    · rw [p4, x2]; omega
    · rw [p8, x3]; omega
end One
end P_M6

section P_F1
set_option linter.all false
set_option maxRecDepth 100000
set_option maxHeartbeats 8000000
namespace One
open PySem PySem.Spec PyProof.Rows L2
abbrev sFars : Stmt := top 37
abbrev sMate : Stmt := top 38
abbrev nFars : List Str := ["lines", "fars", "low", "high"]
theorem scFars : FnScope nFars ["lines"] (defScope sFars) := ⟨rfl, rfl, rfl, by decide +kernel, rfl, by decide +kernel, by decide +kernel⟩
theorem scMate : FnScope ["end", "way"] ["end", "way"] (defScope sMate) := ⟨rfl, rfl, rfl, by decide +kernel, rfl, by decide +kernel, by decide +kernel⟩
/-- the far ends of m crossings, as a list -/
def farL (F : Nat → Nat) (m : Nat) : List V := nats ((List.range (4 * m)).map F)
theorem farL_at {F : Nat → Nat} {m e : Nat} (h : e < 4 * m) : (farL F m)[e]? = some (V.int (F e : Nat)) := by
  unfold farL nats
  rw [List.getElem?_map, List.getElem?_map, List.getElem?_range h]
  rfl
theorem farL_len (F : Nat → Nat) (m : Nat) : (farL F m).length = 4 * m := by
  unfold farL nats
  rw [List.length_map, List.length_map, List.length_range]
def upOf (c e : Nat) : Nat := if c < e / 4 then e - 4 else e
def spFars : Sp := fun vs H Q _ => ∃ (t : Addr) (n : Nat) (as : List Addr) (ps : List (Nat × Nat)), vs = [.ref t] ∧ H t = some (.tup (refs as)) ∧ PL H as ps ∧ Lines n ps ∧ n ≤ 100 ∧ ∀ (H' : Hp) (L : Addr), Same H H' → H L = none → H' L = some (.lst (farL (far ps) n)) → Q (.ref L) H'
def spMate : Sp := fun vs H Q _ => ∃ e w : Nat, vs = [.int (e : Nat), .int (w : Nat)] ∧ Q (.int ((e ^^^ (w + 1) : Nat))) H
def spUp : Sp := fun vs H Q _ => ∃ e c : Nat, vs = [.int (e : Nat), .int (c : Nat)] ∧ Q (.int (upOf c e : Nat)) H
section
variable {P : Program} {w : World} {K : PySem.W.Frag} {mg : Str → Option Value} {base : Heap}
theorem ok_mate {f : Addr} {fd : FuncData} (F : Fun K "mate" "mate" sMate f fd) : FnOk P w K mg base CX0 1 f fd ["end", "way"] spMate := by
  refine F.ok scMate (fun vs H Q E h => ?_) (fun cdv A outer s H vs Q E hr h => ?_)
  · obtain ⟨e, w, rfl, _⟩ := h
    rfl
  · obtain ⟨e, w, rfl, k⟩ := h
    refine ⟨_, pss_one (ps_ret (pe_op op_xor (pv 0) (pe_op op_add (pv 1) pe_int))), ?_⟩
    refine ⟨_, rfl, _, rfl, _, _, rfl, rfl, _, _, rfl, rfl, ?_⟩
    show Q (.int (Builtin.bitXor ((e : Nat) : Int) (((w : Nat) : Int) + 1))) H
    have : Builtin.bitXor ((e : Nat) : Int) (((w : Nat) : Int) + 1) = ((e ^^^ (w + 1) : Nat) : Int) := by
      rw [Bits.bitXor_pp (by omega) (by omega)]
      have : (((w : Nat) : Int) + 1).toNat = w + 1 := by omega
      rw [this]
      rfl
    rw [this]
    exact k
end
end One
end P_F1

section P_F2
set_option linter.all false
set_option maxRecDepth 100000
set_option maxHeartbeats 8000000
namespace One
open PySem PySem.Spec PyProof.Rows L2
section
variable {P : Program} {w : World} {K : PySem.W.Frag} {mg : Str → Option Value} {base : Heap}
theorem nats_set (r : List Nat) (j x : Nat) : (nats r).set j (V.int (x : Nat)) = nats (r.set j x) := (List.map_set).symm
theorem ok_fars {f : Addr} {fd : FuncData} (F : Fun K "fars_of_lines" "fars_of_lines" sFars f fd) (T : TB mg) : FnOk P w K mg base CX0 1 f fd ["lines"] spFars := by
  refine F.ok scFars (fun vs H Q E h => ?_) (fun cdv A outer s H vs Q E hr h => ?_)
  · obtain ⟨t, n, as, ps, rfl, _⟩ := h
    rfl
  · obtain ⟨t, n, as, ps, rfl, ht, hP, L, hn, k⟩ := h
    have nd := scFars.nd
    have hal : as.length = 2 * n := by rw [hP.len, L.len]
    have nl : (refs as).length = as.length := List.length_map _
    refine ⟨_, pss_cons (ps_set (i := 1) nd rfl (Or.inl rfl) (pe_op op_rep (pe_lst (pa_cons pe_int pa_nil)) (pe_op op_mul pe_int (pe_callB call_len_seq (by rfl) T.len PySem.boot_len (pa_cons (pv 0) pa_nil)))))
      (pss_cons (ps_for PassesOwn.never rfl (pi_tup (pv 0)) (pg_tup rfl (pgs_cons (pg_name (i := 2) nd rfl (Or.inl rfl)) (pgs_cons (pg_name (i := 3) nd rfl (Or.inl rfl)) pgs_nil)))
        (pss_cons (ps_asg (pv 3) (pg_sub (pv 1) (pv 2) set_list)) (pss_one (ps_asg (pv 2) (pg_sub (pv 1) (pv 3) set_list)))))
      (pss_one (ps_ret (pv 1)))), ?_⟩
    have e4 : (2 : Int) * (((refs as).length : Nat) : Int) = ((4 * n : Nat) : Int) := by rw [nl, hal]; omega
    refine ⟨by show 1 ≤ sizeLine; decide, fun l1 hl1 => ?_⟩
    have s1 := Same.new (o := .lst [V.int 0]) hl1
    refine ⟨_, rfl, t, _, rfl, .inr (SqT.of (s1 _ _ ht)), _, _, rfl, rfl, .inl ⟨by decide, by decide⟩, l1, ((4 * n : Nat) : Int), _, rfl, (by show V.int ((2 : Int) * (((refs as).length : Nat) : Int)) = _; rw [e4]), upd_same, by omega, by omega, (by show 1 * _ ≤ _; exact Nat.le_of_lt (small1000 (by omega))), fun R hR => ?_⟩
    have eR : (List.replicate ((4 * n : Nat) : Int).toNat [V.int 0]).flatten = nats (List.replicate (4 * n) 0) := by
      rw [show ((4 * n : Nat) : Int).toNat = 4 * n by omega]
      show _ = (List.replicate (4 * n) 0).map _
      rw [List.map_replicate]
      exact flat_rep _ _
    have hR0 : H R = none := s1.free hR
    have s2 := Same.new (o := .lst (List.replicate ((4 * n : Nat) : Int).toNat [V.int 0]).flatten) hR
    have nR : ∀ b o, H b = some o → b ≠ R := fun b o e => ne_of_none e hR0
    refine ⟨_, rfl, t, rfl, ⟨_, SqT.of ((s1.trans s2) _ _ ht)⟩, for_tup (K := K) (a := t) (xs := refs as) (fun i σ H7 => ∃ (r : List Nat) (v2 v3 : Option V), σ = [some (.ref t), some (.ref R), v2, v3] ∧ Same H H7 ∧ H7 R = some (.lst (nats r)) ∧ r.length = 4 * n ∧ ∀ e, e < 4 * n → r[e]? = some (far (ps.take i) e))
      ⟨List.replicate (4 * n) 0, none, none, rfl, s1.trans s2, by rw [upd_same, eR], List.length_replicate, fun e he => by rw [List.getElem?_replicate, if_pos he]; rfl⟩ (fun i σ H7 _ ⟨_, _, _, _, h, _⟩ => SqT.of (h _ _ ht)) ?_ ?_⟩
    · rintro i x σ H7 hx ⟨r, v2, v3, rfl, s7, hR7, hrl, hr7⟩
      obtain ⟨a, ha⟩ : ∃ a, as[i]? = some a := by
        rw [List.getElem?_map] at hx
        cases e : as[i]? with
        | none =>
          rw [e] at hx
          cases hx
        | some a => exact ⟨a, rfl⟩
      rw [List.getElem?_map, ha] at hx
      cases hx
      obtain ⟨p, hp, pa⟩ := hP.got ha
      have mp := List.mem_of_getElem? hp
      have q1 := L.lt _ (mem_ends.mpr ⟨p, mp, .inl rfl⟩)
      have q2 := L.lt _ (mem_ends.mpr ⟨p, mp, .inr rfl⟩)
      have pa7 := s7 _ _ pa
      have etk := take_ends (H := H) hp
      have ndt : (ends (ps.take i ++ [p])).Nodup := by
        rw [← etk]
        have := L.nd
        rw [← List.take_append_drop (i + 1) ps, ends_append] at this
        exact (List.nodup_append.mp this).1
      refine ⟨a, _, rfl, SqT.of pa7, rfl, _, _, rfl, _, _, rfl, rfl, ?_⟩
      refine ⟨_, rfl, _, rfl, _, rfl, R, _, _, p.1, rfl, rfl, hR7, ix_nat (by rw [List.length_map, hrl]; exact q1), ?_⟩
      rw [nats_set]
      refine ⟨_, rfl, _, rfl, _, rfl, R, _, _, p.2, rfl, rfl, upd_same, ix_nat (by rw [List.length_map, List.length_set, hrl]; exact q2), ?_⟩
      rw [nats_set]
      refine ⟨(r.set p.1 p.2).set p.2 p.1, _, _, rfl, fun b o e => ?_, upd_same, by rw [List.length_set, List.length_set, hrl], fun e he => ?_⟩
      · rw [upd_ne (nR _ _ e), upd_ne (nR _ _ e)]
        exact s7 _ _ e
      · rw [etk, far_snoc ndt]
        have hne := nodup_pair L.nd p mp
        by_cases e2 : p.2 = e
        · subst e2
          rw [List.getElem?_set_self (by rw [List.length_set, hrl]; exact q2), if_neg (Ne.symm hne), if_pos rfl]
        · rw [List.getElem?_set_ne e2]
          by_cases e1 : p.1 = e
          · subst e1
            rw [List.getElem?_set_self (by rw [hrl]; exact q1), if_pos rfl]
          · rw [List.getElem?_set_ne e1, if_neg (Ne.symm e1), if_neg (Ne.symm e2)]
            exact hr7 e he
    · rintro σ H7 ⟨r, v2, v3, rfl, s7, hR7, hrl, hr7⟩
      refine ⟨_, rfl, k _ R s7 hR0 ?_⟩
      rw [nl, hP.len, List.take_length] at hr7
      rw [hR7]
      congr 2
      show nats r = nats _
      congr 1
      refine List.ext_getElem? fun e => ?_
      by_cases he : e < 4 * n
      · rw [hr7 e he, List.getElem?_map, List.getElem?_range he]
        rfl
      · rw [List.getElem?_eq_none (by omega), List.getElem?_eq_none (by rw [List.length_map, List.length_range]; omega)]
end
end One
end P_F2

section P_M8
set_option linter.all false
/-! Sewing out any crossing, at any way, where nothing closes: what lies behind an end. -/
namespace One
theorem mate_block {e w : Nat} (hw : w < 3) : (e ^^^ (w + 1)) / 4 = e / 4 := by
  have h := Nat.xor_div_two_pow (a := e) (b := w + 1) (n := 2)
  rw [show (2 : Nat) ^ 2 = 4 from rfl] at h
  rw [h, show (w + 1) / 4 = 0 by omega, Nat.xor_zero]
theorem mate_mate (e w : Nat) : (e ^^^ (w + 1)) ^^^ (w + 1) = e := by rw [Nat.xor_assoc, Nat.xor_self, Nat.xor_zero]
theorem mate_ne (e w : Nat) : e ^^^ (w + 1) ≠ e := fun h => by
  have h2 : e ^^^ (e ^^^ (w + 1)) = e ^^^ e := by rw [h]
  rw [← Nat.xor_assoc, Nat.xor_self, Nat.zero_xor] at h2
  omega
/-- far ends of lines: no end is its own far end, far of far is the end -/
structure Inv2 (F : Nat → Nat) (m : Nat) : Prop where
  lt : ∀ e, e < 4 * m → F e < 4 * m
  inv : ∀ e, e < 4 * m → F (F e) = e
  ne : ∀ e, e < 4 * m → F e ≠ e
theorem far_inv {n : Nat} {ps : List (Nat × Nat)} (L : Lines n ps) : Inv2 (far ps) n := by
  refine ⟨fun e he => far_lt L he, fun e he => (far_line L.nd (ends_full L he)).2, fun e he h => ?_⟩
  obtain ⟨z | z, _⟩ := far_line L.nd (ends_full L he)
  · rw [h] at z
    exact nodup_pair L.nd _ z rfl
  · rw [h] at z
    exact nodup_pair L.nd _ z rfl
/-- nothing closes at crossing c, way w -/
def Open (F : Nat → Nat) (c w : Nat) : Prop := ∀ e, e / 4 = c → F e ≠ e ^^^ (w + 1)
section
variable {F : Nat → Nat} {m c w : Nat}
/-- the walk behind an end ends within two turns -/
theorem back_some (I : Inv2 F m) (hc : c < m) (hw : w < 3) (O : Open F c w) {e : Nat} (he : e < 4 * m) (ho : e / 4 ≠ c) : ∃ g, backK F c w 2 (F e) = some g ∧ g < 4 * m ∧ g / 4 ≠ c := by
  by_cases h0 : F e / 4 = c
  · rw [backK_in h0]
    have m0 : (F e ^^^ (w + 1)) / 4 = c := (mate_block hw).trans h0
    have l0 : F e ^^^ (w + 1) < 4 * m := by omega
    by_cases h1 : F (F e ^^^ (w + 1)) / 4 = c
    · rw [backK_in h1]
      have m1 : (F (F e ^^^ (w + 1)) ^^^ (w + 1)) / 4 = c := (mate_block hw).trans h1
      have l1 : F (F e ^^^ (w + 1)) ^^^ (w + 1) < 4 * m := by omega
      have h2 : F (F (F e ^^^ (w + 1)) ^^^ (w + 1)) / 4 ≠ c := by
        intro h2
        -- four ends of c: x, its mate, y, its mate, and where the last leads
        generalize hx : F e = x at *
        generalize hx' : x ^^^ (w + 1) = x' at *
        generalize hy : F x' = y at *
        generalize hy' : y ^^^ (w + 1) = y' at *
        generalize hz : F y' = z at *
        have fx : F x = e := by rw [← hx]; exact I.inv e he
        have fy : F y = x' := by rw [← hy]; exact I.inv x' l0
        have fz : F z = y' := by rw [← hz]; exact I.inv y' l1
        have mx : x' ^^^ (w + 1) = x := by rw [← hx']; exact mate_mate x w
        have my : y' ^^^ (w + 1) = y := by rw [← hy']; exact mate_mate y w
        have a1 : y ≠ x := fun q => O x' m0 (by rw [hy, mx]; exact q)
        have a2 : y ≠ x' := fun q => I.ne x' l0 (hy.trans q)
        have b1 : z ≠ y := fun q => O y' m1 (by rw [hz, my]; exact q)
        have b2 : z ≠ y' := fun q => I.ne y' l1 (hz.trans q)
        have b3 : z ≠ x := fun q => by
          rw [q, fx] at fz
          rw [fz] at ho
          exact ho m1
        have b4 : z ≠ x' := fun q => by
          rw [q, hy] at fz
          exact mate_ne y w (hy'.trans fz.symm)
        have d1 : x' ≠ x := fun q => mate_ne x w (hx'.trans q)
        have d2 : y' ≠ y := fun q => mate_ne y w (hy'.trans q)
        have d3 : y' ≠ x := fun q => by
          rw [q] at my
          exact a2 (my.symm.trans hx')
        have d4 : y' ≠ x' := fun q => by
          rw [q] at my
          exact a1 (my.symm.trans mx)
        omega
      rw [show backK F c w 0 (F (F (F e ^^^ (w + 1)) ^^^ (w + 1))) = some (F (F (F e ^^^ (w + 1)) ^^^ (w + 1))) from backK_out h2]
      exact ⟨_, rfl, I.lt _ l1, h2⟩
    · rw [backK_out h1]
      exact ⟨_, rfl, I.lt _ l0, h1⟩
  · rw [backK_out h0]
    exact ⟨_, rfl, I.lt _ he, h0⟩
end
end One
end P_M8

section P_M19
set_option linter.all false
/-! Rounds: going on from end to end. -/
namespace One
def iter (f : Nat → Nat) : Nat → Nat → Nat
  | 0, s => s
  | k + 1, s => f (iter f k s)
theorem iter_add (f : Nat → Nat) : ∀ i j s, iter f (i + j) s = iter f i (iter f j s)
  | 0, j, s => by rw [Nat.zero_add]; rfl
  | i + 1, j, s => by
    rw [show i + 1 + j = (i + j) + 1 by omega]
    show f (iter f (i + j) s) = f (iter f i (iter f j s))
    rw [iter_add f i j s]
/-- a going on among the numbers below m -/
structure Goes (f : Nat → Nat) (m : Nat) : Prop where
  lt : ∀ e, e < m → f e < m
  inj : ∀ e g, e < m → g < m → f e = f g → e = g
section
variable {f : Nat → Nat} {m : Nat}
theorem Goes.iter_lt (G : Goes f m) {s : Nat} (hs : s < m) : ∀ k, iter f k s < m
  | 0 => hs
  | k + 1 => G.lt _ (G.iter_lt hs k)
theorem Goes.iter_inj (G : Goes f m) {a b : Nat} (ha : a < m) (hb : b < m) : ∀ k, iter f k a = iter f k b → a = b
  | 0, h => h
  | k + 1, h => G.iter_inj ha hb k (G.inj _ _ (G.iter_lt ha k) (G.iter_lt hb k) h)
/-- back at the start behind k steps, and not ahead of that -/
structure Per (f : Nat → Nat) (s k : Nat) : Prop where
  pos : 0 < k
  back : iter f k s = s
  first : ∀ i, 0 < i → i < k → iter f i s ≠ s
def rnd (f : Nat → Nat) (s k : Nat) : List Nat := (List.range k).map fun i => iter f i s
theorem rnd_len (f : Nat → Nat) (s k : Nat) : (rnd f s k).length = k := by
  unfold rnd
  rw [List.length_map, List.length_range]
theorem rnd_snoc (f : Nat → Nat) (s k : Nat) : rnd f s (k + 1) = rnd f s k ++ [iter f k s] := by
  unfold rnd
  rw [List.range_succ, List.map_append]
  rfl
theorem mem_rnd {f : Nat → Nat} {s k x : Nat} : x ∈ rnd f s k ↔ ∃ i, i < k ∧ iter f i s = x := by
  unfold rnd
  rw [List.mem_map]
  exact ⟨fun ⟨i, h, e⟩ => ⟨i, List.mem_range.mp h, e⟩, fun ⟨i, h, e⟩ => ⟨i, List.mem_range.mpr h, e⟩⟩
theorem Goes.apart (G : Goes f m) {s k : Nat} (hs : s < m) (first : ∀ i, 0 < i → i < k → iter f i s ≠ s) {i j : Nat} (hij : i < j) (hj : j < k) : iter f i s ≠ iter f j s := fun h => by
  have e : iter f j s = iter f i (iter f (j - i) s) := by rw [← iter_add, show i + (j - i) = j by omega]
  rw [e] at h
  exact first (j - i) (by omega) (by omega) (G.iter_inj hs (G.iter_lt hs _) i h).symm
theorem Goes.nodup (G : Goes f m) {s : Nat} (hs : s < m) : ∀ k, (∀ i, 0 < i → i < k → iter f i s ≠ s) → (rnd f s k).Nodup
  | 0, _ => List.nodup_nil
  | k + 1, first => by
    rw [rnd_snoc]
    refine List.nodup_append.mpr ⟨G.nodup hs k fun i h0 h1 => first i h0 (by omega), by simp, fun a ha b hb e => ?_⟩
    obtain ⟨i, hi, rfl⟩ := mem_rnd.mp ha
    rw [List.mem_singleton.mp hb] at e
    exact G.apart hs first hi (Nat.lt_succ_self k) e
theorem Goes.per (G : Goes f m) {s : Nat} (hs : s < m) : ∃ k, Per f s k ∧ k ≤ m := by
  have ex : ∃ k, 0 < k ∧ k ≤ m ∧ iter f k s = s := by
    refine Classical.byContradiction fun no => ?_
    have first : ∀ i, 0 < i → i < m + 1 → iter f i s ≠ s := fun i h0 h1 e => no ⟨i, h0, by omega, e⟩
    have nd := G.nodup hs (m + 1) first
    have := pigeon m _ nd fun x hx => by
      obtain ⟨i, _, rfl⟩ := mem_rnd.mp hx
      exact G.iter_lt hs i
    rw [rnd_len] at this
    omega
  have least : ∀ k, (0 < k ∧ k ≤ m ∧ iter f k s = s) → ∃ k, Per f s k ∧ k ≤ m := by
    intro k
    induction k using Nat.strongRecOn with
    | ind k ih =>
      intro ⟨h0, h1, h2⟩
      by_cases h : ∃ i, 0 < i ∧ i < k ∧ iter f i s = s
      · obtain ⟨i, a, b, c⟩ := h
        exact ih i b ⟨a, by omega, c⟩
      · exact ⟨k, ⟨h0, h2, fun i a b c => h ⟨i, a, b, c⟩⟩, h1⟩
  obtain ⟨k, h⟩ := ex
  exact least k h
theorem Per.one {s k j : Nat} (a : Per f s k) (b : Per f s j) : k = j := by
  rcases Nat.lt_trichotomy k j with h | h | h
  · exact absurd a.back (b.first k a.pos h)
  · exact h
  · exact absurd b.back (a.first j b.pos h)
/-- any steps are steps of the round -/
theorem Per.mod {s k : Nat} (a : Per f s k) : ∀ i, iter f i s ∈ rnd f s k := by
  have turn : ∀ q r, iter f (q * k + r) s = iter f r s := by
    intro q r
    induction q with
    | zero => rw [Nat.zero_mul, Nat.zero_add]
    | succ q ih =>
      rw [show (q + 1) * k + r = (q * k + r) + k by rw [Nat.succ_mul]; omega, iter_add, a.back]
      exact ih
  intro i
  refine mem_rnd.mpr ⟨i % k, Nat.mod_lt _ a.pos, ?_⟩
  have := turn (i / k) (i % k)
  rw [← this, Nat.mul_comm, Nat.div_add_mod]
/-- two rounds with one end are of the same ends -/
theorem Per.same (G : Goes f m) {s t k j x : Nat} (hs : s < m) (ht : t < m) (a : Per f s k) (b : Per f t j) (hx : x ∈ rnd f s k) (hy : x ∈ rnd f t j) : ∀ z, z ∈ rnd f s k → z ∈ rnd f t j := by
  obtain ⟨i, hi, e1⟩ := mem_rnd.mp hx
  obtain ⟨l, hl, e2⟩ := mem_rnd.mp hy
  intro z hz
  obtain ⟨p, hp, rfl⟩ := mem_rnd.mp hz
  -- from x go on k - i steps to s, then p more
  have e : iter f p s = iter f (p + (k - i) + l) t := by
    rw [iter_add f (p + (k - i)) l t, e2, ← e1, ← iter_add, show p + (k - i) + i = p + k by omega, iter_add, a.back]
  rw [e]
  exact b.mod _
end
/-! ### by far ends and ways -/
section
variable {F W : Nat → Nat} {n : Nat}
/-- the end from which one goes on next -/
def nextE (F W : Nat → Nat) (e : Nat) : Nat := F e ^^^ (W (F e / 4) + 1)
theorem next_goes (I : Inv2 F n) (hW : ∀ c, c < n → W c < 3) : Goes (nextE F W) (4 * n) := by
  have blk : ∀ e, e < 4 * n → (F e ^^^ (W (F e / 4) + 1)) / 4 = F e / 4 ∧ F e < 4 * n := fun e he => by
    have h := I.lt e he
    exact ⟨mate_block (hW _ (by omega)), h⟩
  refine ⟨fun e he => ?_, fun e g he hg h => ?_⟩
  · obtain ⟨a, b⟩ := blk e he
    unfold nextE
    omega
  · obtain ⟨a, b⟩ := blk e he
    obtain ⟨c, d⟩ := blk g hg
    unfold nextE at h
    have q : F e / 4 = F g / 4 := by rw [← a, ← c, h]
    rw [q] at h
    have h2 : (F e ^^^ (W (F g / 4) + 1)) ^^^ (W (F g / 4) + 1) = (F g ^^^ (W (F g / 4) + 1)) ^^^ (W (F g / 4) + 1) := by rw [h]
    rw [mate_mate, mate_mate] at h2
    rw [← I.inv e he, ← I.inv g hg, h2]
/-- the far of what comes next goes on to the far -/
theorem next_far (I : Inv2 F n) (hW : ∀ c, c < n → W c < 3) {e : Nat} (he : e < 4 * n) : nextE F W (F (nextE F W e)) = F e := by
  have h := I.lt e he
  have blk : (F e ^^^ (W (F e / 4) + 1)) / 4 = F e / 4 := mate_block (hW _ (by omega))
  have l1 : nextE F W e < 4 * n := (next_goes I hW).lt e he
  have : F (F (nextE F W e)) = nextE F W e := I.inv _ l1
  show F (F (nextE F W e)) ^^^ (W (F (F (nextE F W e)) / 4) + 1) = F e
  rw [this]
  show (F e ^^^ (W (F e / 4) + 1)) ^^^ (W ((F e ^^^ (W (F e / 4) + 1)) / 4) + 1) = F e
  rw [blk, mate_mate]
theorem iter_far (I : Inv2 F n) (hW : ∀ c, c < n → W c < 3) {s : Nat} (hs : s < 4 * n) : ∀ i, iter (nextE F W) i (F (iter (nextE F W) i s)) = F s
  | 0 => rfl
  | i + 1 => by
    have G := next_goes I hW
    rw [show i + 1 = i + 1 from rfl, iter_add (nextE F W) i 1]
    show iter (nextE F W) i (nextE F W (F (nextE F W (iter (nextE F W) i s)))) = F s
    rw [next_far I hW (G.iter_lt hs i)]
    exact iter_far I hW hs i
/-- no end of a round has its line gone the other way, too -/
theorem no_far (I : Inv2 F n) (hW : ∀ c, c < n → W c < 3) {s : Nat} (hs : s < 4 * n) (i : Nat) : iter (nextE F W) i s ≠ F s := by
  have G := next_goes I hW
  intro h
  have split : ∃ j, i = 2 * j ∨ i = 2 * j + 1 := ⟨i / 2, by omega⟩
  obtain ⟨j, rfl | rfl⟩ := split
  · -- x, the j-th, is its own far
    have e := iter_far I hW hs j
    have l := G.iter_lt hs j
    rw [show 2 * j = j + j by omega, iter_add] at h
    have : iter (nextE F W) j s = F (iter (nextE F W) j s) := G.iter_inj l (I.lt _ l) j (h.trans e.symm)
    exact I.ne _ l this.symm
  · -- the mate of one is itself
    have e := iter_far I hW hs (j + 1)
    have l := G.iter_lt hs j
    have l1 := G.iter_lt hs (j + 1)
    have h' : iter (nextE F W) (2 * j + 1) s = iter (nextE F W) (j + 1) (F (iter (nextE F W) (j + 1) s)) := h.trans e.symm
    rw [show 2 * j + 1 = (j + 1) + j by omega, iter_add] at h'
    have q : iter (nextE F W) j s = F (iter (nextE F W) (j + 1) s) := G.iter_inj l (I.lt _ l1) (j + 1) h'
    have q2 : F (iter (nextE F W) j s) = iter (nextE F W) (j + 1) s := by rw [q, I.inv _ l1]
    have : nextE F W (iter (nextE F W) j s) = F (iter (nextE F W) j s) := q2.symm
    unfold nextE at this
    exact mate_ne _ _ this
/-- the far ends of a round's ends are the ends of a round -/
theorem far_round (I : Inv2 F n) (hW : ∀ c, c < n → W c < 3) {s k : Nat} (hs : s < 4 * n) (a : Per (nextE F W) s k) : Per (nextE F W) (F s) k ∧ ∀ z, z ∈ rnd (nextE F W) (F s) k ↔ ∃ x ∈ rnd (nextE F W) s k, F x = z := by
  have G := next_goes I hW
  have hF := I.lt s hs
  have key : ∀ i, i ≤ k → iter (nextE F W) i (F s) = F (iter (nextE F W) (k - i) s) := fun i hi => by
    have e := iter_far I hW (G.iter_lt hs (k - i)) i
    rw [← iter_add, show i + (k - i) = k by omega, a.back] at e
    exact e
  have P : Per (nextE F W) (F s) k := by
    refine ⟨a.pos, ?_, fun i h0 h1 e => ?_⟩
    · rw [key k (Nat.le_refl _), Nat.sub_self]
      rfl
    · rw [key i (by omega)] at e
      have : F (F (iter (nextE F W) (k - i) s)) = F (F s) := by rw [e]
      rw [I.inv _ (G.iter_lt hs _), I.inv _ hs] at this
      exact a.first (k - i) (by omega) (by omega) this
  refine ⟨P, fun z => ⟨fun h => ?_, fun ⟨x, hx, e⟩ => ?_⟩⟩
  · obtain ⟨i, hi, rfl⟩ := mem_rnd.mp h
    exact ⟨_, a.mod (k - i), (key i (by omega)).symm⟩
  · obtain ⟨i, hi, rfl⟩ := mem_rnd.mp hx
    subst e
    by_cases h0 : i = 0
    · subst h0
      exact mem_rnd.mpr ⟨0, a.pos, rfl⟩
    · have := key (k - i) (by omega)
      rw [show k - (k - i) = i by omega] at this
      rw [← this]
      exact P.mod _
/-- the rounds: each begun at the least end of its lines, rising, each line in just one -/
structure Rounds (F W : Nat → Nat) (n : Nat) (rs : List (Nat × Nat)) : Prop where
  per : ∀ p ∈ rs, p.1 < 4 * n ∧ Per (nextE F W) p.1 p.2
  least : ∀ p ∈ rs, ∀ x ∈ rnd (nextE F W) p.1 p.2, p.1 ≤ x ∧ p.1 ≤ F x
  up : rs.Pairwise fun p q => p.1 < q.1
  all : ∀ e, e < 4 * n → ∃ p ∈ rs, e ∈ rnd (nextE F W) p.1 p.2 ∨ F e ∈ rnd (nextE F W) p.1 p.2
  one : rs.Pairwise fun p q => ∀ x, x ∈ rnd (nextE F W) p.1 p.2 → x ∉ rnd (nextE F W) q.1 q.2 ∧ F x ∉ rnd (nextE F W) q.1 q.2
end
end One
end P_M19

section P_M20
set_option linter.all false
/-! Rounds, told one behind another. -/
namespace One
section
variable {F W : Nat → Nat} {n : Nat}
def Gone (F W : Nat → Nat) (rs : List (Nat × Nat)) (e : Nat) : Prop := ∃ p ∈ rs, e ∈ rnd (nextE F W) p.1 p.2 ∨ F e ∈ rnd (nextE F W) p.1 p.2
/-- the rounds that have lines of the first i ends -/
structure RTo (F W : Nat → Nat) (n i : Nat) (rs : List (Nat × Nat)) : Prop where
  per : ∀ p ∈ rs, p.1 < 4 * n ∧ Per (nextE F W) p.1 p.2
  low : ∀ p ∈ rs, p.1 < i
  least : ∀ p ∈ rs, ∀ x ∈ rnd (nextE F W) p.1 p.2, p.1 ≤ x ∧ p.1 ≤ F x
  up : rs.Pairwise fun p q => p.1 < q.1
  all : ∀ e, e < i → Gone F W rs e
  one : rs.Pairwise fun p q => ∀ x, x ∈ rnd (nextE F W) p.1 p.2 → x ∉ rnd (nextE F W) q.1 q.2 ∧ F x ∉ rnd (nextE F W) q.1 q.2
theorem rto_nil : RTo F W n 0 [] := ⟨fun p h => absurd h (by simp), fun p h => absurd h (by simp), fun p h => absurd h (by simp), .nil, fun e h => absurd h (by omega), .nil⟩
theorem rnd_lt (I : Inv2 F n) (hW : ∀ c, c < n → W c < 3) {s k x : Nat} (hs : s < 4 * n) (h : x ∈ rnd (nextE F W) s k) : x < 4 * n := by
  obtain ⟨i, _, rfl⟩ := mem_rnd.mp h
  exact (next_goes I hW).iter_lt hs i
theorem self_rnd {f : Nat → Nat} {s k : Nat} (a : Per f s k) : s ∈ rnd f s k := mem_rnd.mpr ⟨0, a.pos, rfl⟩
theorem gone_far (I : Inv2 F n) {rs : List (Nat × Nat)} {e : Nat} (he : e < 4 * n) : Gone F W rs (F e) ↔ Gone F W rs e := by
  have h := I.inv e he
  constructor
  · rintro ⟨p, hp, a | a⟩
    · exact ⟨p, hp, .inr a⟩
    · rw [h] at a
      exact ⟨p, hp, .inl a⟩
  · rintro ⟨p, hp, a | a⟩
    · exact ⟨p, hp, .inr (by rw [h]; exact a)⟩
    · exact ⟨p, hp, .inl a⟩
theorem gone_back (I : Inv2 F n) (hW : ∀ c, c < n → W c < 3) {rs : List (Nat × Nat)} (per : ∀ p ∈ rs, p.1 < 4 * n ∧ Per (nextE F W) p.1 p.2) {s k x : Nat} (hs : s < 4 * n) (a : Per (nextE F W) s k) (hx : x ∈ rnd (nextE F W) s k) (g : Gone F W rs x) : Gone F W rs s := by
  have G := next_goes I hW
  obtain ⟨p, hp, h | h⟩ := g
  · obtain ⟨pl, pp⟩ := per p hp
    exact ⟨p, hp, .inl (Per.same G hs pl a pp hx h s (self_rnd a))⟩
  · obtain ⟨pl, pp⟩ := per p hp
    obtain ⟨b, hb⟩ := far_round I hW hs a
    exact ⟨p, hp, .inr (Per.same G (I.lt s hs) pl b pp ((hb _).mpr ⟨x, hx, rfl⟩) h _ (self_rnd b))⟩
theorem RTo.skip {i : Nat} {rs : List (Nat × Nat)} (R : RTo F W n i rs) (g : Gone F W rs i) : RTo F W n (i + 1) rs :=
  ⟨R.per, fun p h => Nat.lt_succ_of_lt (R.low p h), R.least, R.up, fun e h => by
    by_cases q : e = i
    · rw [q]; exact g
    · exact R.all e (by omega), R.one⟩
theorem RTo.more (I : Inv2 F n) (hW : ∀ c, c < n → W c < 3) {i k : Nat} {rs : List (Nat × Nat)} (R : RTo F W n i rs) (hi : i < 4 * n) (g : ¬ Gone F W rs i) (a : Per (nextE F W) i k) : RTo F W n (i + 1) (rs ++ [(i, k)]) := by
  refine ⟨fun p hp => ?_, fun p hp => ?_, fun p hp x hx => ?_, ?_, fun e he => ?_, ?_⟩
  · rcases List.mem_append.mp hp with h | h
    · exact R.per p h
    · rw [List.mem_singleton.mp h]
      exact ⟨hi, a⟩
  · rcases List.mem_append.mp hp with h | h
    · exact Nat.lt_succ_of_lt (R.low p h)
    · rw [List.mem_singleton.mp h]
      exact Nat.lt_succ_self i
  · rcases List.mem_append.mp hp with h | h
    · exact R.least p h x hx
    · rw [List.mem_singleton.mp h] at hx ⊢
      have xl := rnd_lt I hW hi hx
      refine ⟨Nat.le_of_not_lt fun z => g (gone_back I hW R.per hi a hx (R.all x z)), Nat.le_of_not_lt fun z => g (gone_back I hW R.per hi a hx ((gone_far I xl).mp (R.all (F x) z)))⟩
  · refine List.pairwise_append.mpr ⟨R.up, List.pairwise_singleton _ _, fun p hp q hq => ?_⟩
    rw [List.mem_singleton.mp hq]
    exact R.low p hp
  · by_cases q : e = i
    · rw [q]
      exact ⟨(i, k), List.mem_append_right _ (List.mem_singleton.mpr rfl), .inl (self_rnd a)⟩
    · obtain ⟨p, hp, h⟩ := R.all e (by omega)
      exact ⟨p, List.mem_append_left _ hp, h⟩
  · refine List.pairwise_append.mpr ⟨R.one, List.pairwise_singleton _ _, fun p hp q hq x hx => ?_⟩
    rw [List.mem_singleton.mp hq]
    obtain ⟨pl, pp⟩ := R.per p hp
    have xl := rnd_lt I hW pl hx
    refine ⟨fun h => g (gone_back I hW R.per hi a h ⟨p, hp, .inl hx⟩), fun h => g (gone_back I hW R.per hi a h ⟨p, hp, .inr ?_⟩)⟩
    rw [I.inv x xl]
    exact hx
theorem RTo.done {rs : List (Nat × Nat)} (R : RTo F W n (4 * n) rs) : Rounds F W n rs := ⟨R.per, R.least, R.up, R.all, R.one⟩
theorem Rounds.first (I : Inv2 F n) (hW : ∀ c, c < n → W c < 3) {rs : List (Nat × Nat)} (R : Rounds F W n rs) {s k : Nat} (hs : s < 4 * n) (a : Per (nextE F W) s k) : (s, k) ∈ rs ↔ ∀ x ∈ rnd (nextE F W) s k, s ≤ x ∧ s ≤ F x := by
  have G := next_goes I hW
  refine ⟨fun h => R.least _ h, fun h => ?_⟩
  obtain ⟨p, hp, q | q⟩ := R.all s hs
  all_goals obtain ⟨pl, pp⟩ := R.per p hp
  · have e1 := (R.least p hp s q).1
    have e2 := (h p.1 (Per.same G pl hs pp a q (self_rnd a) _ (self_rnd pp))).1
    obtain ⟨p1, p2⟩ := p
    have : p1 = s := Nat.le_antisymm e1 e2
    subst this
    have : p2 = k := Per.one pp a
    subst this
    exact hp
  · obtain ⟨b, hb⟩ := far_round I hW hs a
    have e1 := (R.least p hp (F s) q).2
    rw [I.inv s hs] at e1
    obtain ⟨x, hx, e⟩ := (hb _).mp (Per.same G pl (I.lt s hs) pp b q (self_rnd b) _ (self_rnd pp))
    have e2 := (h x hx).2
    rw [e] at e2
    obtain ⟨p1, p2⟩ := p
    have : p1 = s := Nat.le_antisymm e1 e2
    subst this
    have : p2 = k := Per.one pp a
    subst this
    exact hp
/-- there is just one telling -/
theorem Rounds.eq (I : Inv2 F n) (hW : ∀ c, c < n → W c < 3) {rs qs : List (Nat × Nat)} (R : Rounds F W n rs) (S : Rounds F W n qs) : rs = qs := by
  refine sorted_ext (lt := fun p q : Nat × Nat => p.1 < q.1) (fun a => Nat.lt_irrefl _) (fun a b c => Nat.lt_trans) R.up S.up fun p => ⟨fun h => ?_, fun h => ?_⟩
  · obtain ⟨pl, pp⟩ := R.per p h
    exact (S.first I hW pl pp).mpr ((R.first I hW pl pp).mp h)
  · obtain ⟨pl, pp⟩ := S.per p h
    exact (R.first I hW pl pp).mpr ((S.first I hW pl pp).mp h)
end
end One
end P_M20

section P_G1
set_option linter.all false
set_option maxRecDepth 100000
set_option maxHeartbeats 4000000
namespace One
open PySem PySem.Spec PyProof.Rows L2
/-! ### promises for runs in which nothing is being shown -/
structure FnG (P : Program) (w : World) (K : PySem.W.Frag) (mg : Str → Option Value) (base : Heap) (CX : CXT) (k : Nat) (f : Addr) (fd : FuncData) (ps : List Str) (sp : Sp) : Prop where
  len : ∀ vs H Q E, sp vs H Q E → vs.length = ps.length
  go : ∀ (A : Around) (outer : List Env) (s : Shared) (H : Hp) (args : Args) (us : List Value) (vs : List V) (Q : VK) (E : XK), A.guards = some [] → Room k A → Env0 P w K mg base A outer s H →
    BindsTo s fd args (ps.zip us) → Vals vs us → sp vs H Q E → codeAny (model P w) A (.call (.ref f) args) (CR CX outer P w H s Q E) s
theorem FnG.of {P : Program} {w : World} {K : PySem.W.Frag} {mg : Str → Option Value} {base : Heap} {CX : CXT} {k : Nat} {f : Addr} {fd : FuncData} {ps : List Str} {sp : Sp} (F : FnOk P w K mg base CX k f fd ps sp) : FnG P w K mg base CX k f fd ps sp :=
  ⟨F.len, fun A outer s H args us vs Q E _ => F.run A outer s H args us vs Q E⟩
theorem FnG.mono {P : Program} {w : World} {K : PySem.W.Frag} {mg : Str → Option Value} {base : Heap} {CX : CXT} {j k : Nat} {f : Addr} {fd : FuncData} {ps : List Str} {sp : Sp} (F : FnG P w K mg base CX j f fd ps sp) (h : j ≤ k) : FnG P w K mg base CX k f fd ps sp :=
  ⟨F.len, fun A outer s H args us vs Q E hg hr => F.go A outer s H args us vs Q E hg (hr.mono h)⟩
section
variable {P : Program} {w : World} {K : PySem.W.Frag} {mg : Str → Option Value} {base : Heap}
/-- a def by its body -/
theorem okG {CX : CXT} {x qual : Str} {st : Stmt} {f : Addr} {fd : FuncData} {N ps : List Str} {k : Nat} {sp : Sp} (F : Fun K x qual st f fd) (S : FnScope N ps (defScope st)) (len : ∀ vs H Q E, sp vs H Q E → vs.length = ps.length)
    (body : ∀ (cdv : Value) (A : Around) (outer : List Env) (s : Shared) (H : Hp) (vs : List V) (Q : VK) (E : XK), A.guards = some [] → Room k (A.deeper (envOfC qual (defScope st) s.heap.objs.size f cdv)) → sp vs H Q E →
      ∃ t, PSs (cxOf CX P w K mg base N qual (defScope st) f cdv A outer s H E) (defBody st) t ∧ t { nx := fun _ H' => Q .non H', rt := Q } (start N vs) H) : FnG P w K mg base CX (k + 1) f fd ps sp := by
  obtain ⟨oc, od, kV, doc, pm, an, cdv, ct, osl, rfl, lk, hcd⟩ := F.ex
  exact ⟨len, fun A outer s H args us vs Q E hg hr e0 hb r hs => LamX.run_ofS lk hcd S hr e0 hb r (len _ _ _ _ hs) fun hr1 => body cdv A outer s H vs Q E hg hr1 hs⟩
/-- .. that lets nothing out -/
theorem okG0 {x qual : Str} {st : Stmt} {f : Addr} {fd : FuncData} {N ps : List Str} {k : Nat} {sp : Sp} (F : Fun K x qual st f fd) (S : FnScope N ps (defScope st)) (len : ∀ vs H Q E, sp vs H Q E → vs.length = ps.length)
    (body : ∀ (cdv : Value) (A : Around) (outer : List Env) (s : Shared) (H : Hp) (vs : List V) (Q : VK) (E : XK), A.guards = some [] → Room k (A.deeper (envOfC qual (defScope st) s.heap.objs.size f cdv)) → sp vs H Q E →
      ∃ t, PSs (cxOf CX0 P w K mg base N qual (defScope st) f cdv A outer s H E).nox (defBody st) t ∧ t { nx := fun _ H' => Q .non H', rt := Q } (start N vs) H) : FnG P w K mg base CX0 (k + 1) f fd ps sp :=
  okG F S len fun cdv A outer s H vs Q E hg hr hs => let ⟨t, h, q⟩ := body cdv A outer s H vs Q E hg hr hs; ⟨t, h.nox, q⟩
end
section
variable {X : Cx} {CX : CXT} {k : Nat} {f : Addr} {fd : FuncData} {ps : List Str} {sp : Sp} {dvs : List V} {ds : List Value} {E : XK} {x : Str} {p pos : Pos} {e : Expr} {es : List Expr} {t : TA}
theorem goG {pins : List (Addr × Obj)} {σ : L2.St} {H : Hp} {s : Shared} {Q : VK} {us : List Value} {vs : List V} (F : FnG X.prog X.w X.K X.mg X.base CX k f fd ps sp) (hgd : X.A.guards = some []) (hr : Room k X.A) (hb : Binds X.K fd ps ds) (hd : Vals dvs ds)
    (hx : Passes CX X E) (I : Inv X pins σ H s) (r : Vals vs us) (h : sp (vs ++ dvs) H Q E) : wpAny (model X.prog X.w) X.A (call (.ref f) us) (EP X pins σ Q) X.xe s := by
  have r2 := r.append hd
  have hl : (us ++ ds).length = ps.length := r2.length.symm.trans (F.len _ _ _ _ h)
  refine wpAny_call (codeAny_mono (F.go X.A X.stack s H ⟨us, []⟩ _ _ Q E hgd hr I.env0 (hb s us I.kIn hl) r2 h) fun r s' hq => ?_)
  match r, hq with
  | .error e, hq => exact hx pins σ H s e s' I hq
  | .ok (.ret u), hq => exact I.after hq
  | .ok .next, hq => exact hq.elim
  | .ok .brk, hq => exact hq.elim
  | .ok .cont, hq => exact hq.elim
theorem pe_callG (F : FnG X.prog X.w X.K X.mg X.base CX k f fd ps sp) (hgd : X.A.guards = some []) (hr : Room k X.A) (hg : Gl X x) (hm : X.mg x = some (.ref f)) (hk : PySem.W.keepIn X.K (.ref f) = true) (hb : Binds X.K fd ps ds) (hd : Vals dvs ds) (hx : Passes CX X E)
    (ha : PA X (e :: es) t) (hdb : (x == ("__debug__" : Str)) = false := by decide) (he : starEach (e :: es) X.env = (false, eval e X.env) :: starEach es X.env := by rfl) (hpl : (backTo pos (starEach es X.env)).any (·.1) = false := by rfl) : PE X (.Call (.Name x p) (e :: es) [] pos) (tCall sp dvs E t) := by
  refine ⟨fun pins s σ H Q I h => wpAny_Call_Name_kw (ld_glob I hg hm ?_ hdb)⟩
  exact PySem.W.callWith_K (h₀ := X.base) I.ok.mod.kin hk (thn (ha.run pos pins s σ H _ I h) fun us s1 ⟨vs, H1, I1, r, q⟩ => ⟨I1.kIn, goG F hgd hr hb hd hx I1 r q⟩) he hpl
/-- repr(..) of a list or a tuple, at any depth -/
theorem call_repr_data (hgd : X.A.guards = some []) (hu : X.A.units + 64 < cLine) : CallR X (.builtin "repr") (fun xs H Q => ∃ (a : Addr) (d : PyData), xs = [.ref a] ∧ Dp X.K H (.ref a) d ∧ d.showable = true ∧ d.hasDict = false ∧ d.depth ≤ 16 ∧ d.shown.length ≤ sizeLine ∧ Q (.str d.shown) H) := by
  intro pins s σ H xs us Q I r h
  obtain ⟨a, d, rfl, hd, h1, h2, h3, h4, q⟩ := h
  obtain ⟨u, rfl, e⟩ := vals1 r
  cases e
  obtain ⟨as, hR⟩ := Dp.reads I d _ _ hd rfl
  exact repr_of_reads' hR h1 (fun z => Bool.noConfusion (h2.symm.trans z)) hgd (by omega) (fun _ _ e => e) (fun h' u tk hk => ⟨.str d.shown, H, I.kept hk, ⟨_, rfl⟩, q⟩) h4
end
end One
end P_G1

section P_G2
set_option linter.all false
set_option maxRecDepth 100000
set_option maxHeartbeats 4000000
namespace One
open PySem PySem.Spec PyProof.Rows L2
/-! ### a tuple of pairs, as data -/
def prD (p : Nat × Nat) : PyData := .tuple [.int (p.1 : Nat), .int (p.2 : Nat)]
def yd (ps : List (Nat × Nat)) : PyData := .tuple (ps.map prD)
theorem dp_pair {K : PySem.W.Frag} {H : Hp} {a : Addr} {p : Nat × Nat} (h : PAt H a p) : Dp K H (.ref a) (prD p) := .tup (SqT.of h) (.cons (.int _) (.cons (.int _) .nil))
theorem dp_pairs {K : PySem.W.Frag} {H : Hp} {as : List Addr} {ps : List (Nat × Nat)} (h : PL H as ps) : DpAll K H (refs as) (ps.map prD) := by
  induction h with
  | nil => exact .nil
  | cons h1 _ ih => exact .cons (dp_pair h1) ih
theorem dp_yd {K : PySem.W.Frag} {H : Hp} {t : Addr} {as : List Addr} {ps : List (Nat × Nat)} (ht : H t = some (.tup (refs as))) (h : PL H as ps) : Dp K H (.ref t) (yd ps) := .tup (SqT.of ht) (dp_pairs h)
theorem int_short : ∀ n : Nat, n < 1000 → (PyData.shown (.int (n : Nat))).length ≤ 8 := by
  have h : ∀ n : Fin 1000, (PyData.shown (.int ((n : Nat) : Int))).length ≤ 8 := by decide +kernel
  exact fun n hn => h ⟨n, hn⟩
theorem log_small {n : Nat} (h : n < 1000) : n.log2 < 1920 := by
  by_cases h0 : n = 0
  · subst h0; decide
  · exact (Nat.log2_lt h0).mpr (Nat.lt_of_lt_of_le h (Nat.le_trans (by decide : 1000 ≤ 2 ^ 10) (Nat.pow_le_pow_right (by decide) (by decide))))
theorem yd_all : ∀ ps : List (Nat × Nat), (∀ p ∈ ps, p.1 < 1000 ∧ p.2 < 1000) → PyData.showableAll (ps.map prD) = true ∧ PyData.hasDictAll (ps.map prD) = false ∧ PyData.depthAll (ps.map prD) ≤ 1 ∧ PyData.leavesShortAll 8 (ps.map prD) = true ∧ PyData.bulkAll (ps.map prD) = 3 * ps.length
  | [], _ => ⟨rfl, rfl, Nat.zero_le _, rfl, rfl⟩
  | p :: r, h => by
    obtain ⟨h1, h2, h3, h4, h5⟩ := yd_all r fun q m => h q (List.mem_cons_of_mem _ m)
    obtain ⟨q1, q2⟩ := h p (List.mem_cons_self ..)
    have a1 : PyData.showable (prD p) = true := by
      show (decide (((p.1 : Nat) : Int).natAbs.log2 < 1920) && (decide (((p.2 : Nat) : Int).natAbs.log2 < 1920) && true)) = true
      simp only [Int.natAbs_natCast, Bool.and_eq_true, decide_eq_true_eq, and_true]
      exact ⟨log_small q1, log_small q2⟩
    have a4 : PyData.leavesShort 8 (prD p) = true := by
      show (decide (_ ≤ 8) && (decide (_ ≤ 8) && true)) = true
      simp only [Bool.and_eq_true, decide_eq_true_eq, and_true]
      exact ⟨int_short _ q1, int_short _ q2⟩
    refine ⟨?_, ?_, ?_, ?_, ?_⟩
    · show (PyData.showable (prD p) && PyData.showableAll _) = true
      rw [a1, h1]; rfl
    · show (PyData.hasDict (prD p) || PyData.hasDictAll _) = false
      rw [h2]; rfl
    · show max (PyData.depth (prD p)) (PyData.depthAll _) ≤ 1
      exact Nat.max_le.mpr ⟨Nat.le_refl 1, h3⟩
    · show (PyData.leavesShort 8 (prD p) && PyData.leavesShortAll 8 _) = true
      rw [a4, h4]; rfl
    · show PyData.bulk (prD p) + 1 + PyData.bulkAll _ = _
      rw [h5]
      show 0 + 1 + (0 + 1 + 0) + 1 + 3 * r.length = 3 * (r.length + 1)
      omega
theorem yd_fine {ps : List (Nat × Nat)} (h : ∀ p ∈ ps, p.1 < 1000 ∧ p.2 < 1000) (hl : ps.length ≤ 1000) : (yd ps).showable = true ∧ (yd ps).hasDict = false ∧ (yd ps).depth ≤ 16 ∧ (yd ps).shown.length ≤ sizeLine := by
  obtain ⟨h1, h2, h3, h4, h5⟩ := yd_all ps h
  refine ⟨h1, h2, ?_, ?_⟩
  · show PyData.depthAll _ + 1 ≤ 16
    omega
  · have q := PyData.shown_le_bulk 8 (Nat.le_refl _) (yd ps) h4
    have e : (yd ps).bulk = 3 * ps.length := h5
    rw [e] at q
    have : (40000 : Nat) ≤ sizeLine := by decide
    omega
def rRepr (K : PySem.W.Frag) : List V → Hp → VK → Prop := fun xs H Q => ∃ (a : Addr) (d : PyData), xs = [.ref a] ∧ Dp K H (.ref a) d ∧ d.showable = true ∧ d.hasDict = false ∧ d.depth ≤ 16 ∧ d.shown.length ≤ sizeLine ∧ Q (.str d.shown) H
/-- repr(..) of a tuple of pairs -/
theorem repr_yd {K : PySem.W.Frag} {H : Hp} {t : Addr} {as : List Addr} {ps : List (Nat × Nat)} {Q : VK} (ht : H t = some (.tup (refs as))) (hp : PL H as ps) (h : ∀ p ∈ ps, p.1 < 1000 ∧ p.2 < 1000) (hl : ps.length ≤ 1000) (q : Q (.str (yd ps).shown) H) : rRepr K [.ref t] H Q := by
  obtain ⟨h1, h2, h3, h4⟩ := yd_fine h hl
  exact ⟨t, _, rfl, dp_yd ht hp, h1, h2, h3, h4, q⟩
theorem cr_repr {X : Cx} (hgd : X.A.guards = some []) (hu : X.A.units + 64 < cLine) : CallR X (.builtin "repr") (rRepr X.K) := call_repr_data hgd hu
end One
end P_G2

section P_X1
set_option linter.all false
set_option maxRecDepth 100000
set_option maxHeartbeats 4000000
/-! An own exception, some way below ValueError, whose __init__ says super().__init__(f'..{f}'); self.f = f -/
namespace One
open PySem PySem.W PySem.Calls PyProof.Rows PySem.HandSPX L2
def xA (fld : Str) (p1 p2 : Pos) : Arguments := { posonlyargs := [], args := [{ arg := "self", annotation := none, pos := p1 }, { arg := fld, annotation := none, pos := p2 }], vararg := none, kwonlyargs := [], kw_defaults := [], kwarg := none, defaults := [] }
abbrev xJ (pre fld : Str) (a3 a4 a5 a6 : Pos) : Expr := .JoinedStr [.Constant (.str pre) 0 a3, .FormattedValue (.Name fld a4) (-1) none a5] a6
abbrev xO (a0 a1 : Pos) : Expr := .Call (.Name "super" a0) [] [] a1
abbrev xB (pre fld : Str) (a0 a1 a2 a3 a4 a5 a6 a7 a8 a9 b0 b1 b2 : Pos) : List Stmt := [.Expr (.Call (.Attribute (xO a0 a1) "__init__" a2) [xJ pre fld a3 a4 a5 a6] [] a7) a8, .Assign [.Attribute (.Name "self" a9) fld b0] (.Name fld b1) b2]
def xS (fld : Str) : Scope := { kind := .function, names := [(PySem.Str.ofString "self", .local), (fld, .local), (PySem.Str.ofString "__class__", .free), (PySem.Str.ofString "super", .globalImplicit)], isGenerator := false, isCoroutine := false, more := [] }

def FldOk (fld : Str) : Prop := fld = "place" ∨ fld = "way" ∨ fld = "many"
/-- the value may be shown in an f-string: some text of bounded length, the heap unchanged -/
def FmtOk (P : Program) (w : World) (h : Heap) (v : Value) : Prop := ∀ (A : Around) (E : Value → Shared → Prop) (s : Shared) (Q : Value → Shared → Prop), A.units + 64 < cLine → (∀ b o, h.get? b = some o → s.heap.get? b = some o) →
  (∀ (m : Str) (u tk : Tok), m.length ≤ 100000 → Q (.str m u) { s with toks := tk }) → wpAny (model P w) A (formatField v Str.empty) Q E s
theorem FmtOk.keeps {P : Program} {w : World} {h h' : Heap} {v : Value} (f : FmtOk P w h v) (k : ∀ b o, h.get? b = some o → h'.get? b = some o) : FmtOk P w h' v := fun A E s Q hu hk q => f A E s Q hu (fun b o e => hk b o (k b o e)) q
/-- the form of such an __init__ -/
def Shape (st : Stmt) (fld : Str) : Prop := ∃ (p1 p2 : Pos) (pre : Str) (a0 a1 a2 a3 a4 a5 a6 a7 a8 a9 b0 b1 b2 : Pos), defArgs st = xA fld p1 p2 ∧ defBody st = xB pre fld a0 a1 a2 a3 a4 a5 a6 a7 a8 a9 b0 b1 b2 ∧ defScope st = xS fld ∧ pre.length ≤ 1000 ∧
  ∀ env, eval (.Call (.Attribute (xO a0 a1) "__init__" a2) [xJ pre fld a3 a4 a5 a6] [] a7) env = (do
    let ov ← attributeBase (xO a0 a1) "__init__" env (eval (xO a0 a1) env)
    standAt a2.atName
    let (f, first) ← holding [ov] (getMethod ov "__init__" (do return (← importBound (xO a0 a1) env).getD true))
    callWith a7 f first (backTo a7 (starEach [xJ pre fld a3 a4 a5 a6] env)) [])
/-- what the written part says of such a class, at C, and of its __init__, at fI -/
structure OwnTxt (P : Program) (K : Frag) (st : Stmt) (fld : Str) (C fI : Addr) : Prop where
  cls : ∃ nm q N bs bm sn sub ab col dd k0 k1 k2 k3 k5, K.lookup C = some (excClassObj nm q C N bs bm true sn sub ab col dd k0 k1 k2 k3 k5 "ValueError.__new__") ∧ refsVE bm = true ∧ alongIn K "__init__" (((Value.ref C :: bm).dropWhile (· != .ref C)).drop 1) = some (some (.builtin "ValueError.__init__"))
  sa : findIn K (.ref C) "__setattr__" = some (some (.builtin "object.__setattr__"))
  noF : findIn K (.ref C) fld = some none
  veB : subIn K (.ref C) (.type "ValueError") = some true
  self : mroIn K C (.ref C) = some true
  op : nsIn K cStatics "thirdparty.any" = some none
  top : (P.main.scope.names.lookup ("super" : Str)).isSome = false
  shape : Shape st fld
  fn : ∃ (oc : Value) (od : Option Addr) (qual : Str) (doc pm : Value) (an : Option Addr) (cda cc : Addr) (ct : Value) (osl : Array (Option Value)) (ccl cl : Value) (cdd cld : Option Addr) (vs : Array Value) (ccs csl : Array (Option Value)) (file : Str) (tf : Tok),
    K.lookup fI = some ⟨oc, od, .func (ksFn "__init__" qual (defArgs st) (defBody st) (defScope st) .none .none doc pm an (.ref cda) ct cc), osl⟩ ∧ codeIn K (.ref cda) qual = true ∧ K.lookup cda = some ⟨ccl, cdd, .fields vs, ccs⟩ ∧ vs[2]? = some (.str file tf) ∧
    ((P.main.file : Str) == file) = true ∧ K.lookup cc = some ⟨cl, cld, .cell (some (.ref C)), csl⟩
theorem ns_but {h h' : Heap} {a : Addr} {m : Str → Option Value} (hn : h.Ns a m) (k : ∀ o, h.get? a = some o → h'.get? a = some o) : h'.Ns a m := by
  obtain ⟨o, es, ep, e, r⟩ := hn
  exact ⟨o, es, ep, k o e, r⟩
theorem kept_but0 {K : Frag} {h h' : Heap} {x : Addr} (X : K.In h) (hx : ∀ o, K.lookup x = some o → False) (k : ∀ b o, b ≠ x → h.get? b = some o → h'.get? b = some o) : K.In h' := fun a o e => k a o (fun z => hx o (z ▸ e)) (X a o e)
section
variable {P : Program} {w : World} {A : Around} {E : Value → Shared → Prop} {R : Result → Shared → Prop} {s : Shared} {K : Frag} {mg mb : Str → Option Value} {C fI : Addr} {fld : Str} {st : Stmt}
theorem x_init (hf : FldOk fld) (T : OwnTxt P K st fld C fI) {x t0 : Addr} {v : Value} (X : K.In s.heap) (hlim : s.heap.NoLimit) (hg : s.heap.Ns mainGlobals mg) (noS : mg "super" = none) (hb : s.heap.Ns builtinsNs mb) (hbb : ∀ y : Str, y ≠ "__name__" → mb y = bootBuiltins y)
    (hx : s.heap.get? x = some (excO C t0)) (hnx : K.lookup x = none) (hroom : A.depth < recursionLimit) (hu : A.units + 100 < cLine) (hv : FmtOk P w s.heap v)
    (hq : ∀ h' tk dx, (∀ b o, b ≠ x → s.heap.get? b = some o → h'.get? b = some o) → (∃ t1 : Addr, h'.get? x = some { cls := .ref C, dict := some dx, data := .fields #[.ref t1, .none, .none, .none, .bool false, .none] }) → s.heap.objs.size ≤ dx → dx ≠ x → h'.Ns1 dx (fun y => if y = fld then some v else none) → R (.ok (.ret .none)) { s with heap := h', toks := tk }) :
    codeAny (model P w) A (.call (.ref fI) ⟨[.ref x, v], []⟩) R s := by
  obtain ⟨oc, od, qual, doc, pm, an, cda, cc, ct, osl, ccl, cl, cdd, cld, vs, ccs, csl, file, tf, ho, hcd, hcode, hvs, hfile, hcell⟩ := T.fn
  obtain ⟨p1, p2, pre, a0, a1, a2, a3, a4, a5, a6, a7, a8, a9, b0, b1, b2, eA, eB, eS, hpre, hcall⟩ := T.shape
  rw [eA, eB, eS] at ho
  obtain ⟨nm, qn, N, bs, bm, sn, sub, ab, col, dd, k0, k1, k2, k3, k5, hC, hbm, hal⟩ := T.cls
  have hcl : clsIn K C = some { name := nm, bases := bs, mro := .ref C :: bm, ns := N, qualname := qn, hasDict := true, slotNames := sn, subclasses := sub, abstract := ab, collection := col, hasDel := false } := by unfold clsIn; rw [hC] <;> rfl
  have hxC : x ≠ C := fun z => by
    have e1 := X _ _ hC
    rw [← z, hx] at e1
    cases e1
  refine ks_codeAny_call_defAt (fd := ksFn "__init__" qual (xA fld p1 p2) (xB pre fld a0 a1 a2 a3 a4 a5 a6 a7 a8 a9 b0 b1 b2) (xS fld) .none .none doc pm an (.ref cda) ct cc) (body := xB pre fld a0 a1 a2 a3 a4 a5 a6 a7 a8 a9 b0 b1 b2) (binds := [("self", .ref x), (fld, v)]) hroom (X _ _ ho) rfl hlim (codeRec_of X hcd) rfl
    (by rcases hf with rfl | rfl | rfl <;> exact BindsTo.of_eq (by first | rfl | with_unfolding_all rfl)) (fun y hy => by
      have hy : y ∈ [(PySem.Str.ofString "self", NameKind.local), (fld, .local), (PySem.Str.ofString "__class__", .free), (PySem.Str.ofString "super", .globalImplicit)] := hy
      simp only [List.mem_cons, List.not_mem_nil, or_false] at hy
      rcases hy with rfl | rfl | rfl | rfl <;> exact fun z => nomatch z)
    (fun y hy => by
      simp only [List.mem_cons, List.not_mem_nil, or_false] at hy
      rcases hf with rfl | rfl | rfl <;> rcases hy with rfl | rfl <;> first | rfl | with_unfolding_all rfl | kernel_rfl) (fun h0 hn k => ?_) rfl rfl rfl
  have kS : (xS fld).names.lookup ("super" : Str) = some .globalImplicit := by rcases hf with rfl | rfl | rfl <;> decide +kernel
  have kC : (xS fld).names.lookup ("__class__" : Str) = some .free := by rcases hf with rfl | rfl | rfl <;> decide +kernel
  have kX : (xS fld).names.lookup ("self" : Str) = some .local := by rcases hf with rfl | rfl | rfl <;> decide +kernel
  have kF : (xS fld).names.lookup fld = some .local := by rcases hf with rfl | rfl | rfl <;> decide +kernel
  have mX : ([(PySem.Str.ofString "self", Value.ref x), (fld, v)] : List (Str × Value)).reverse.lookup ("self" : Str) = some (.ref x) := by rcases hf with rfl | rfl | rfl <;> first | rfl | with_unfolding_all rfl | kernel_rfl
  have mF : ([(PySem.Str.ofString "self", Value.ref x), (fld, v)] : List (Str × Value)).reverse.lookup fld = some v := by rcases hf with rfl | rfl | rfl <;> first | rfl | with_unfolding_all rfl | kernel_rfl
  have dF : (fld == ("__debug__" : Str)) = false := by rcases hf with rfl | rfl | rfl <;> decide +kernel
  have hLx : s.heap.objs.size ≠ x := Nat.ne_of_gt (Heap.lt_size hx)
  have X0 : K.In h0 := X.keeps k
  have hC0 := X0 _ _ hC
  obtain ⟨hp, g, d, t, os⟩ := s
  show _root_.PySem.wpAt _ _ (.func (xB pre fld a0 a1 a2 a3 a4 a5 a6 a7 a8 a9 b0 b1 b2) (ksEnv qual (xS fld) hp.objs.size fI (.ref cda) cc)) (execs (xB pre fld a0 a1 a2 a3 a4 a5 a6 a7 a8 a9 b0 b1 b2) (ksEnv qual (xS fld) hp.objs.size fI (.ref cda) cc)) _ _ _
  refine ks_wpAt_execs_cons (ks_wpAt_Expr_any (ks_wpAt_MethodCall (ks_wpAt_super_base (env := ksEnv qual (xS fld) hp.objs.size fI (.ref cda) cc) kS kC rfl rfl (X0 _ _ ho) rfl rfl rfl (X0 _ _ hcode) rfl hvs hfile T.top ?_) (hcall _)))
  refine ks_loadName_global rfl kS (loadGlobal_builtin (env := ksEnv qual (xS fld) hp.objs.size fI (.ref cda) cc) (hg.keeps k) noS (hb.keeps k) ((hbb _ (by decide +kernel)).trans PyProof.Rows.Boot.«super») ⟨rfl, ?_⟩)
  refine wpAny_loadName_free rfl kC rfl ⟨_, X0 _ _ hcell, rfl⟩ ?_
  refine wpAny_loadName_local rfl kX hn mX ?_
  refine ks_wpAny_isType_cls hC0 rfl ⟨rfl, ?_⟩
  refine ks_wpAny_call_super hC0 rfl (k _ _ hx) rfl (fun c e => nomatch e) (looks_mroIn X0 T.self) (fun h1 hso k1 => ?_)
  have X1 := X0.keeps k1
  have hx1 := k1 _ _ (k _ _ hx)
  have hns1 : h1.Ns hp.objs.size _ := ns_but hn fun o e => k1 _ _ e
  have hI : Looks (model P w) h1 (isInstance (.ref x) (.type "ValueError")) true := (PySem.W.InstAt.type (od := none) ⟨hx1, rfl, rfl, trivial⟩).andThen (looks_subIn X1 T.veB)
  refine kxs_getMethod kxs_ValueError hso (looks_opaque X1 T.op) (l₀ := Value.ref C :: bm) (fun A Q E s k q => wpAny_bind ((looks_clsIn X1 hcl) A _ E s k (wpAny_pure q))) rfl X1 hal hI hxC rfl ?_
  have k2 : ∀ b o, h1.get? b = some o → (h1.push (kxs_mw "ValueError.__init__" x)).get? b = some o := fun b o e => Heap.get?_push_of_some _ e
  have hmw : (h1.push (kxs_mw "ValueError.__init__" x)).get? h1.objs.size = some (kxs_mw "ValueError.__init__" x) := Heap.get?_push_at rfl rfl
  refine kxs_callWith (i := "ValueError.__init__") (x := x) rfl (evalArgs_plain (Calls.spliced_cons ?_))
  have hns2 := ns_but hns1 fun o e => k2 _ _ e
  have hul : (A.deeper (ksEnv qual (xS fld) hp.objs.size fI (.ref cda) cc)).units + 64 < cLine := by
    show A.units + 3 + 64 < cLine
    omega
  refine JoinedStr_many (pos := a6) (joinParts_cons (Constant_str ⟨?_, ?_⟩))
  · show (Str.empty ++ pre).length ≤ sizeLine
    rw [strLen_append, sizeLine_eq]
    have : Str.empty.length = 0 := rfl
    omega
  refine joinParts_cons (FormattedValue_plain ?_)
  refine wpAny_Name (wpAny_loadName_local rfl kF hns2 mF ?_) dF
  refine hv _ _ _ _ hul (fun b o e => k2 _ _ (k1 _ _ (k _ _ e))) fun m u tk hm => ?_
  have hlen : (Str.empty ++ pre ++ m).length ≤ sizeLine := by
    rw [strLen_append, strLen_append, sizeLine_eq]
    have : Str.empty.length = 0 := rfl
    omega
  refine ⟨hlen, joinParts_nil ?_ hlen⟩
  refine Calls.spliced_nil ⟨hmw, ?_⟩
  have hx2 : (h1.push (kxs_mw "ValueError.__init__" x)).get? x = some (excO C t0) := k2 _ _ hx1
  refine wpAny_call (codeAny_of_tree ?_)
  show wpAny _ _ (callAny (.ref h1.objs.size) _) _ _ _
  simp only [callAny]
  refine wpAny_bind (wpAny_load hmw ?_); simp only [kxs_mw, show (Value.type "method-wrapper" == Value.type "method" || Value.type "method-wrapper" == Value.type "builtin_function_or_method" || Value.type "method-wrapper" == Value.type "method-wrapper") = true by decide, if_true]
  refine KFB.if_so (by decide) ?_
  refine wpAny_bind (check_bound_init F.excBase_ValueError.toExcCallFacts (k2 _ _ (k1 _ _ hC0)) hx2 rfl ?_)
  refine wpAny_bind (wpAny_pure (wpAny_pure ?_))
  refine ⟨plainId_quiet F.excBase_ValueError.init.plain _, codeAny_builtin F.excBase_ValueError.initEntry ?_⟩
  refine exc_init_tree (cls := .ref C) (t0 := t0) (dv := none) (c2 := .none) (c3 := .none) (b4 := .bool false) hx2 (by show 1 ≤ sizeLine; rw [sizeLine_eq]; omega) fun h3 k3 hx3 _ => ?_
  have X3 : K.In h3 := kept_but0 (X1.keeps k2) (fun o z => nomatch hnx.symm.trans z) k3
  have hns3 := ns_but hns2 fun o e => k3 _ _ hLx e
  refine _root_.PySem.wpAt_of_wpAny (wpAny_execs_cons (plainObj_wpAny_Assign_Attribute ?_ ?_))
  · refine wpAny_Name (wpAny_loadName_local rfl kF hns3 mF ?_) dF
    refine wpAny_Name (wpAny_loadName_local rfl kX hns3 mX ?_) (by decide)
    refine set_plain X3 (od := none) ⟨hx3, rfl, rfl, trivial⟩ T.sa ?_
    refine exc_osa X3 hx3 hcl (show refsVE (.ref C :: bm) = true from hbm) rfl T.noF (fun h4 tk4 dx k4 dn dne hx4 hn4 => ?_)
    refine wpAny_execs_nil (hq h4 tk4 dx (fun b o hb e => k4 b o hb (k3 b o hb (k2 _ _ (k1 _ _ (k _ _ e))))) ⟨_, hx4⟩ ?_ dne hn4)
    have z1 := Heap.lt_size (show h3.get? hp.objs.size = some _ from hns3.choose_spec.choose_spec.choose_spec.1)
    exact Nat.le_of_lt (Nat.lt_of_lt_of_le z1 dn)
  · rcases hf with rfl | rfl | rfl <;> rfl
end
end One
end P_X1

section P_X2
set_option linter.all false
set_option maxRecDepth 100000
set_option maxHeartbeats 4000000
namespace One
open PySem PySem.W PySem.Calls PyProof.Rows PySem.HandSPX L2
/-- what an own exception is made with: a small number, a tuple of such -/
inductive Shown (K : Frag) (H : Hp) : V → Prop
  | int (n : Nat) (h : n < 1000) : Shown K H (.int (n : Nat))
  | tup {a : Addr} (ns : List Nat) (ht : SqT K H a (ns.map fun n => V.int (n : Nat))) (hl : ns.length ≤ 100) (h : ∀ n ∈ ns, n < 1000) : Shown K H (.ref a)
theorem repr_nats {P : Program} {w : World} : ∀ {ns : List Nat} {us : List Value}, Vals (ns.map fun n => V.int (n : Nat)) us → (∀ n ∈ ns, n < 1000) → ReprAll P w us (ns.map fun n => ((toString ((n : Nat) : Int) : String) : Str))
  | [], _, r, _ => by
    cases r
    exact .nil
  | n :: l, _, r, h => by
    cases r with
    | cons r1 r2 =>
      obtain ⟨t, rfl⟩ := r1
      exact .cons (ReprIs.int t (by rw [Int.natAbs_natCast]; exact log_small (h n (List.mem_cons_self ..)))) (repr_nats r2 fun z hz => h z (List.mem_cons_of_mem _ hz))
theorem nats_text : ∀ ns : List Nat, (∀ n ∈ ns, n < 1000) → ((ns.map fun n => ((toString ((n : Nat) : Int) : String) : Str)).map (·.length)).sum ≤ 8 * ns.length
  | [], _ => Nat.zero_le _
  | n :: r, h => by
    have h1 := nats_text r fun z hz => h z (List.mem_cons_of_mem _ hz)
    have h2 : ((toString ((n : Nat) : Int) : String) : Str).length ≤ 8 := int_short n (h n (List.mem_cons_self ..))
    rw [List.map_cons, List.map_cons, List.sum_cons, List.length_cons]
    omega
theorem Shown.fmt {X : Cx} {pins : List (Addr × Obj)} {σ : L2.St} {H : Hp} {s : Shared} {v : V} {u : Value} (I : Inv X pins σ H s) (h : Shown X.K H v) (r : RelV v u) : FmtOk X.prog X.w s.heap u := by
  intro A E s1 Q hu hk q
  cases h with
  | int n hn =>
    obtain ⟨t, rfl⟩ := r
    exact wpAny_formatField_int (by rw [Int.natAbs_natCast]; exact log_small hn) (q _ _ _ (Nat.le_trans (int_short n hn) (by decide)))
  | tup ns ht hl hn =>
    cases r
    obtain ⟨its, rv, ⟨o, ho, hcl, n, hd⟩, _⟩ := I.tuple ht
    have e1 := tupleText_len_le (ns.map fun n => ((toString ((n : Nat) : Int) : String) : Str))
    have e2 := nats_text ns hn
    rw [List.length_map] at e1
    exact fmt_tuple (ts := ns.map fun n => ((toString ((n : Nat) : Int) : String) : Str)) (by omega) (hk _ _ ho) hcl hd (repr_nats rv hn) (by rw [sizeLine_eq]; omega) fun m u tk hm => q m u tk (by omega)
/-- the class under its name -/
structure OwnCls (K : Frag) (mg : Str → Option Value) (nm : Str) (C fI : Addr) : Prop where
  g : mg nm = some (.ref C)
  iC : findIn K (.ref C) "__init__" = some (some (.ref fI))
  tC : typeIn K (.ref fI) = some (.type "function")
  kC : keepIn K (.ref C) = true
  exC : subIn K (.ref C) (.type "BaseException") = some true
  tyC : typeIn K (.ref C) = some (.type "type")
/-- nm(e) -/
def tMkX (K : Frag) (fld : Str) (C : Addr) (ta : TA) : L2.St → Hp → XK → Prop := fun σ H Q => ta σ H fun vs H1 => ∃ v, vs = [v] ∧ Shown K H1 v ∧ ∀ d, H1 d = none → Q (.ref C) (some d) (upd H1 d (.xd [(fld, v)]))
theorem relO_one {v : V} {u : Value} {g : Str} (r : RelV v u) (f : Str) : RelO (List.lookup f [(g, v)]) (if f = g then some u else none) := by
  rw [lookup_put]
  by_cases e : f = g
  · rw [if_pos e, if_pos e]
    exact r
  · rw [if_neg e, if_neg e]
    trivial
section
variable {X : Cx} {C fI : Addr}
theorem pmk_x {nm fld : Str} {st : Stmt} {a : Expr} {ta : TA} {p pos : Pos} {k : Nat} (hf : FldOk fld) (T : OwnTxt X.prog X.K st fld C fI) (O : OwnCls X.K X.mg nm C fI) (noS : X.mg "super" = none) (hr : Room k X.A) (ha : PA X [a] ta) (hg : Gl X nm) (hdb : (nm == ("__debug__" : Str)) = false := by decide) (he : starEach (a :: []) X.env = (false, eval a X.env) :: starEach [] X.env := by rfl) (hpl : (backTo pos (starEach [] X.env)).any (·.1) = false := by rfl) : PMk X (.Call (.Name nm p) [a] [] pos) (tMkX X.K fld C ta) := by
  intro pins s σ H Q I h
  refine wpAny_Call_Name_kw (ld_glob I hg O.g ?_ hdb)
  refine PySem.W.callWith_K (h₀ := X.base) I.ok.mod.kin O.kC (thn (ha.run pos pins s σ H _ I h) fun us s1 ⟨vs, H1, I1, r1, v, ev, hv, q1⟩ => ⟨I1.kIn, ?_⟩) he hpl
  subst ev
  obtain ⟨v', rfl, rv⟩ := vals1 r1
  obtain ⟨nm', qn, N, bs, bm, sn, sub, ab, col, dd, k0, k1, k2, k3, k5, hC, hbm, hal⟩ := T.cls
  have hfm := hv.fmt I1 rv
  have hX := I1.kIn
  have hlim := I1.nolimit
  obtain ⟨_, mgl, ⟨mb, hbn, hbb⟩, _⟩ := I1.mod
  have hbk := I1.bk
  show wpAny _ _ (call (.ref C) [v']) _ _ _
  obtain ⟨hp, g, dr, tk, os⟩ := s1
  have kk : ∀ b o, hp.get? b = some o → ((hp.push (PySem.W.kdv_tup [v'])).push (PySem.HandSPX.excO C hp.objs.size)).get? b = some o := fun b o e => Heap.get?_push_of_some _ (Heap.get?_push_of_some _ e)
  have hget : ((hp.push (PySem.W.kdv_tup [v'])).push (PySem.HandSPX.excO C hp.objs.size)).get? (hp.objs.size + 1) = some (PySem.HandSPX.excO C hp.objs.size) := by heap_get
  have hnx : X.K.lookup (hp.objs.size + 1) = none := by
    match e : X.K.lookup (hp.objs.size + 1) with
    | none => rfl
    | some o => exact absurd (Nat.lt_of_succ_lt (Heap.lt_size (hX _ _ e))) (Nat.lt_irrefl _)
  refine wpAny_call (PySem.HandSPX.call_own F.excBase_ValueError (fun Y => PySem.HandSPX.refsVE_contains Y bm hbm) (hX _ _ hC) (PySem.W.looks_findIn hX O.iC) (fun self => PySem.W.bind_fn hX self O.tC) (by show 1 ≤ sizeLine; rw [sizeLine_eq]; omega) ?_)
  have hdp := hr.dp
  have hun := hr.un
  refine x_init (s := ⟨(hp.push (PySem.W.kdv_tup [v'])).push (PySem.HandSPX.excO C hp.objs.size), g, dr, tk, os⟩) hf T (hX.keeps kk) (hlim.keeps kk) ((mgl.keeps hbk).keeps kk) noS ((hbn.keeps hbk).keeps kk) hbb hget hnx ?_ ?_ (hfm.keeps kk) fun h' tk' dx k' hx dn dne hns => ?_
  · rw [make_depth]
    omega
  · rw [make_units]
    omega
  · refine ⟨rfl, ?_⟩
    show MkP X pins σ Q (.ref (hp.objs.size + 1)) ⟨h', g, dr, tk', os⟩
    obtain ⟨t1, hx⟩ := hx
    have dn : hp.objs.size + 1 + 1 ≤ dx := by
      first
        | (simpa only [Heap.size_push] using dn)
        | exact dn
    have dbig : hp.objs.size ≤ dx := by omega
    obtain ⟨G', g1, g2⟩ := restrict h' fun b => decide (b ≠ hp.objs.size + 1)
    have gk : ∀ b, b ≠ hp.objs.size + 1 → G'.get? b = h'.get? b := fun b hb => g1 b (decide_eq_true hb)
    have ge : G'.get? (hp.objs.size + 1) = none := g2 _ (by simp)
    have ne : ∀ {b : Addr} {o : Obj}, hp.get? b = some o → b ≠ hp.objs.size + 1 := fun {b o} q => Nat.ne_of_lt (Nat.lt_succ_of_lt (Heap.lt_size q))
    have old : ∀ b o, hp.get? b = some o → G'.get? b = some o := fun b o q => (gk b (ne q)).trans (k' b o (ne q) (kk b o q))
    have ob : ObjOk X.prog X.w (upd H1 dx (.xd [(fld, v)])) G' dx (.xd [(fld, v)]) := ⟨_, hns.at (fun o q => (gk dx dne).trans q), fun f => relO_one rv f⟩
    have J : Inv X pins σ (upd H1 dx (.xd [(fld, v)])) ⟨G', g, dr, tk', os⟩ := I1.laid (t' := tk') old dbig ob
    refine ⟨hp.objs.size + 1, _, _, ⟨G', g, dr, tk', os⟩, _, .ref C, some dx, rfl, J, fun b o q => ?_, ge, hx, ⟨rfl, rfl⟩, rfl, rfl, ?_, rfl, I1.bare, raises_own O.exC O.tyC, q1 dx (I1.hok.fresh dbig)⟩
    · by_cases hb : b = hp.objs.size + 1
      · cases (hb ▸ ge).symm.trans (show G'.get? b = some o from q)
      · exact (gk b hb).symm.trans q
    · rw [upd_ne (Ne.symm dne)]
      exact I1.hok.fresh (Nat.le_succ _)
/-- raise nm(e) -/
def tRaiseX (K : Frag) (fld : Str) (C : Addr) (W : WX) (ta : TA) : TS := fun _ σ H => tMkX K fld C ta σ H fun cls d H' => W cls d σ H'
theorem ps_raiseX {nm fld : Str} {st : Stmt} {a : Expr} {ta : TA} {W : WX} {p pos pos2 : Pos} {k : Nat} (hc : X.calm = true) (hf : FldOk fld) (T : OwnTxt X.prog X.K st fld C fI) (O : OwnCls X.K X.mg nm C fI) (noS : X.mg "super" = none) (hr : Room k X.A) (tk : Takes X W) (ha : PA X [a] ta) (hg : Gl X nm) (hdb : (nm == ("__debug__" : Str)) = false := by decide) (he : starEach (a :: []) X.env = (false, eval a X.env) :: starEach [] X.env := by rfl) (hpl : (backTo pos (starEach [] X.env)).any (·.1) = false := by rfl) :
    PS X (.Raise (some (.Call (.Name nm p) [a] [] pos)) none pos2) (tRaiseX X.K fld C W ta) := ps_raise hc tk (pmk_x hf T O noS hr ha hg hdb he hpl)
end
end One
end P_X2

section P_F4
set_option linter.all false
set_option maxRecDepth 100000
set_option maxHeartbeats 8000000
namespace One
open PySem PySem.Spec PyProof.Rows L2
abbrev sNeed : Stmt := top 30
abbrev sCross : Stmt := top 36
abbrev sBadYard : Stmt := top 2
theorem scNeed : FnScope ["thing", "place"] ["thing"] (defScope sNeed) := ⟨rfl, rfl, rfl, by decide +kernel, rfl, by decide +kernel, by decide +kernel⟩
theorem scCross : FnScope ["yard"] ["yard"] (defScope sCross) := ⟨rfl, rfl, rfl, by decide +kernel, rfl, by decide +kernel, by decide +kernel⟩
theorem il_of {H : Hp} {N : Nat} {as : List Addr} {ps : List (Nat × Nat)} (h : PL H as ps) (k : ∀ p ∈ ps, p.1 < p.2 ∧ p.2 < N) : IL H N (refs as) (ps.map some) := by
  induction h with
  | nil => exact .nil
  | cons h1 _ ih =>
    obtain ⟨k1, k2⟩ := k _ (List.mem_cons_self ..)
    exact .line h1 k1 k2 (ih fun p m => k p (List.mem_cons_of_mem _ m))
theorem map_some_inj {α : Type} : ∀ {a b : List α}, a.map some = b.map some → a = b
  | [], [], _ => rfl
  | [], _ :: _, h => by cases h
  | _ :: _, [], h => by cases h
  | x :: a, y :: b, h => by
    rw [List.map_cons, List.map_cons] at h
    obtain ⟨h1, h2⟩ := List.cons.inj h
    rw [Option.some.inj h1, map_some_inj h2]
theorem Yard.lt {n : Nat} {ps : List (Nat × Nat)} (y : Yard n ps) : ∀ p ∈ ps, p.1 < p.2 ∧ p.2 < 4 * n := fun p m => ⟨y.low p m, y.lines.lt _ (mem_ends.mpr ⟨p, m, .inr rfl⟩)⟩
/-- a yard has no fault -/
theorem fault_good {H : Hp} {t : Addr} {n : Nat} {ps : List (Nat × Nat)} {Q : VK} {E : XK} (y : YAt H t n ps) (hn : n ≤ 40) (q : ∀ H', Same H H' → Q .non H') : spFault [.ref t] H Q E := by
  obtain ⟨Y, as, ht, hP⟩ := y
  have hl : (refs as).length = 2 * n := by rw [List.length_map, hP.len, Y.lines.len]
  have hpos := Y.pos
  refine ⟨_, rfl, .inr ⟨t, refs as, ps.map some, rfl, ht, ?_, ?_, fun k hk => ?_, fun _ qs e => ?_⟩⟩
  · unfold canBe
    rw [hl]
    simp only [Bool.and_eq_true, decide_eq_true_eq]
    omega
  · rw [hl]
    exact il_of hP fun p m => ⟨(Y.lt p m).1, by have := (Y.lt p m).2; omega⟩
  · rw [yard_good Y] at hk
    cases hk
  · cases map_some_inj e
    rw [hl, show 2 * n / 2 = n by omega]
    exact ⟨fun _ => q, fun z => absurd Y.whole z⟩
theorem fault_mono {H : Hp} {v : V} {Q Q' : VK} {E E' : XK} (h : spFault [v] H Q E) (k : ∀ r H', Q r H' → Q' r H') : spFault [v] H Q' E' := by
  obtain ⟨v', e, h⟩ := h
  refine ⟨v', e, ?_⟩
  rcases h with ⟨h1, h2⟩ | ⟨t, xs, os, h1, h2, h3, h4, h5, h6⟩
  · exact .inl ⟨h1, fun H' p a b => k _ _ (h2 H' p a b)⟩
  · exact .inr ⟨t, xs, os, h1, h2, h3, h4, fun j e H' p a b => k _ _ (h5 j e H' p a b), fun e ps eo => ⟨fun z H' a => k _ _ ((h6 e ps eo).1 z H' a), fun z H' p a b => k _ _ ((h6 e ps eo).2 z H' p a b)⟩⟩
/-- a tuple of no good length: () -/
theorem fault_len {H : Hp} {t : Addr} {xs : List V} {Q : VK} {E : XK} (ht : H t = some (.tup xs)) (hc : canBe (xs.length : Nat) = false) (q : ∀ (H' : Hp) (p : Addr), Same H H' → H' p = some (.tup []) → Q (.ref p) H') : spFault [.ref t] H Q E :=
  ⟨_, rfl, .inl ⟨.inr ⟨t, xs, rfl, ht, hc⟩, q⟩⟩
/-- a fault told -/
def Wrong (C0 : Addr) (E : XK) (r : V) (H : Hp) : Prop := ∃ (p : Addr) (ns : List Nat), r = .ref p ∧ H p = some (.tup (nats ns)) ∧ ns.length ≤ 100 ∧ (∀ n ∈ ns, n < 1000) ∧ ∀ d, H d = none → E (.ref C0) (some d) (upd H d (.xd [("place", .ref p)]))
def spNeed (C0 : Addr) : Sp := fun vs H Q E => ∃ v, vs = [v] ∧ spFault [v] H (fun r H' => (r = .non ∧ Q v H') ∨ Wrong C0 E r H') E0
def spCross (C0 : Addr) : Sp := fun vs H Q E => spNeed C0 vs H (fun v H' => ∃ t xs, v = .ref t ∧ H' t = some (.tup xs) ∧ Q (.int ((xs.length / 2 : Nat))) H') E
section
variable {P : Program} {w : World} {K : PySem.W.Frag} {mg : Str → Option Value} {base : Heap} {C0 fI : Addr} {sX : Stmt}
theorem ok_need {f fF : Addr} {fd fdF : FuncData} (F : Fun K "need_yard" "need_yard" sNeed f fd) (T : OwnTxt P K sX "place" C0 fI) (O : OwnCls K mg "BadYard" C0 fI) (noS : mg "super" = none) (B : Cal K mg "yard_fault" fF fdF ["thing"]) (GF : FnOk P w K mg base CX0 4 fF fdF ["thing"] spFault) :
    FnOk P w K mg base (L2.CX P w) 5 f fd ["thing"] (spNeed C0) := by
  refine F.okX scNeed (fun vs H Q E h => ?_) (fun cdv A outer s H vs Q E hr h => ?_)
  · obtain ⟨v, rfl, _⟩ := h
    rfl
  · obtain ⟨v, rfl, h⟩ := h
    have nd := scNeed.nd
    refine ⟨_, pss_cons (ps_set (i := 1) nd rfl (Or.inl rfl) (pe_call GF hr rfl B.g B.kp B.b .nil pass0 (pa_cons (pv 0) pa_nil)))
      (pss_cons (ps_if (pt_cmpR op_notN (pv 1) pe_non (nomark _)) (pss_one (ps_raiseX rfl (Or.inl rfl) T O noS hr (takes_of rfl rfl rfl rfl) (pa_cons (pv 1) pa_nil) (by rfl))) pss_nil)
      (pss_one (ps_ret (pv 0)))), ?_⟩
    refine ⟨_, rfl, ?_⟩
    unfold tNil
    refine fault_mono (Q := fun r H' => (r = .non ∧ Q v H') ∨ Wrong C0 E r H') h fun r H' hq => ?_
    rcases hq with ⟨rfl, q⟩ | ⟨p, ns, rfl, hp, hl, hs, q⟩
    · exact ⟨_, rfl, rfl, _, rfl, iteF ⟨_, rfl, q⟩⟩
    · refine ⟨_, rfl, rfl, _, rfl, iteT ⟨_, rfl, _, rfl, .tup ns (SqT.of hp) hl hs, fun d hd => q d hd⟩⟩
theorem ok_cross {f fN : Addr} {fd fdN : FuncData} (F : Fun K "crossings" "crossings" sCross f fd) (T : TB mg) (N : Cal K mg "need_yard" fN fdN ["thing"]) (GN : FnOk P w K mg base (L2.CX P w) 5 fN fdN ["thing"] (spNeed C0)) :
    FnOk P w K mg base (L2.CX P w) 6 f fd ["yard"] (spCross C0) := by
  refine F.okX scCross (fun vs H Q E h => ?_) (fun cdv A outer s H vs Q E hr h => ?_)
  · obtain ⟨v, rfl, _⟩ := h
    rfl
  · obtain ⟨v, rfl, h⟩ := h
    refine ⟨_, pss_one (ps_ret (pe_op op_fdiv (pe_callB call_len_seq (by rfl) T.len PySem.boot_len (pa_cons (pe_call GN hr rfl N.g N.kp N.b .nil (passes_call (takes_of rfl rfl rfl rfl) (fun _ _ _ _ h => h)) (pa_cons (pv 0) pa_nil)) pa_nil)) pe_int)), ?_⟩
    refine ⟨_, rfl, v, rfl, fault_mono h fun r H' hq => hq.imp (fun ⟨e, t, xs, e2, ht, q⟩ => ⟨e, t, xs, by rw [e2], .inr (SqT.of ht), ?_⟩) id⟩
    refine ⟨_, _, rfl, rfl, ⟨by decide, by decide⟩, ?_⟩
    have e4 : ((xs.length : Nat) : Int) / 2 = ((xs.length / 2 : Nat) : Int) := by omega
    show Q (.int (((xs.length : Nat) : Int) / 2)) H'
    rw [e4]
    exact q
end
end One
end P_F4

section P_Y1
set_option linter.all false
set_option maxRecDepth 100000
set_option maxHeartbeats 8000000
namespace One
open PySem PySem.Spec PyProof.Rows L2
abbrev sEA : Stmt := top 46
abbrev sRF : Stmt := top 45
abbrev sRB : Stmt := top 44
abbrev nEA : List Str := ["fars", "setting", "end", "come_to"]
abbrev nRF : List Str := ["fars", "setting", "start", "ends", "end"]
abbrev nRB : List Str := ["fars", "setting", "rounds", "gone", "start", "ends", "end"]
theorem scEA : FnScope nEA ["fars", "setting", "end"] (defScope sEA) := ⟨rfl, rfl, rfl, by decide +kernel, rfl, by decide +kernel, by decide +kernel⟩
theorem scRF : FnScope nRF ["fars", "setting", "start"] (defScope sRF) := ⟨rfl, rfl, rfl, by decide +kernel, rfl, by decide +kernel, by decide +kernel⟩
theorem scRB : FnScope nRB ["fars", "setting"] (defScope sRB) := ⟨rfl, rfl, rfl, by decide +kernel, rfl, by decide +kernel, by decide +kernel⟩
/-- a setting of n crossings at t -/
structure SetAt (H : Hp) (t : Addr) (n : Nat) (ws : List Nat) : Prop where
  len : ws.length = n
  lt : ∀ x ∈ ws, x < 3
  here : H t = some (.tup (nats ws))
theorem SetAt.mono {H H' : Hp} {t : Addr} {n : Nat} {ws : List Nat} (h : SetAt H t n ws) (k : ∀ b xs, H b = some (.tup xs) → H' b = some (.tup xs)) : SetAt H' t n ws := ⟨h.len, h.lt, k _ _ h.here⟩
/-- the way at each crossing -/
def wayL (ws : List Nat) : Nat → Nat := fun c => ws.getD c 0
theorem SetAt.ways {H : Hp} {t : Addr} {n : Nat} {ws : List Nat} (h : SetAt H t n ws) : ∀ c, c < n → wayL ws c < 3 := fun c hc => by
  have hl : c < ws.length := by rw [h.len]; exact hc
  unfold wayL
  rw [List.getD_eq_getElem?_getD, List.getElem?_eq_getElem hl]
  exact h.lt _ (List.getElem_mem hl)
theorem SetAt.at_ {H : Hp} {t : Addr} {n : Nat} {ws : List Nat} (h : SetAt H t n ws) {c : Nat} (hc : c < n) : ws[c]? = some (wayL ws c) := by
  have hl : c < ws.length := by rw [h.len]; exact hc
  unfold wayL
  rw [List.getD_eq_getElem?_getD, List.getElem?_eq_getElem hl]
  rfl
def spEA : Sp := fun vs H Q _ => ∃ (L t : Addr) (F : Nat → Nat) (n e : Nat) (ws : List Nat), vs = [.ref L, .ref t, .int (e : Nat)] ∧ H L = some (.lst (farL F n)) ∧ SetAt H t n ws ∧ Inv2 F n ∧ e < 4 * n ∧ Q (.int (nextE F (wayL ws) e : Nat)) H
def spRF : Sp := fun vs H Q _ => ∃ (L t : Addr) (F : Nat → Nat) (n s : Nat) (ws : List Nat), vs = [.ref L, .ref t, .int (s : Nat)] ∧ H L = some (.lst (farL F n)) ∧ SetAt H t n ws ∧ Inv2 F n ∧ n ≤ 100 ∧ s < 4 * n ∧
  ∀ (H' : Hp) (u : Addr) (k : Nat), Same H H' → Per (nextE F (wayL ws)) s k → H' u = some (.tup (nats (rnd (nextE F (wayL ws)) s k))) → Q (.ref u) H'
/-- rounds in tuples -/
inductive RsAt (f : Nat → Nat) (H : Hp) : List Addr → List (Nat × Nat) → Prop
  | nil : RsAt f H [] []
  | cons {a p as ps} : H a = some (.tup (nats (rnd f p.1 p.2))) → RsAt f H as ps → RsAt f H (a :: as) (p :: ps)
theorem RsAt.len {f : Nat → Nat} {H : Hp} {as : List Addr} {ps : List (Nat × Nat)} (h : RsAt f H as ps) : as.length = ps.length := by
  induction h with
  | nil => rfl
  | cons _ _ ih => simp [ih]
theorem RsAt.mono {f : Nat → Nat} {H H' : Hp} {as : List Addr} {ps : List (Nat × Nat)} (h : RsAt f H as ps) (k : ∀ b xs, H b = some (.tup xs) → H' b = some (.tup xs)) : RsAt f H' as ps := by
  induction h with
  | nil => exact .nil
  | cons h1 _ ih => exact .cons (k _ _ h1) ih
theorem RsAt.app {f : Nat → Nat} {H : Hp} {as bs : List Addr} {ps qs : List (Nat × Nat)} (h : RsAt f H as ps) (k : RsAt f H bs qs) : RsAt f H (as ++ bs) (ps ++ qs) := by
  induction h with
  | nil => exact k
  | cons h1 _ ih => exact .cons h1 ih
def spRB : Sp := fun vs H Q _ => ∃ (L t : Addr) (F : Nat → Nat) (n : Nat) (ws : List Nat), vs = [.ref L, .ref t] ∧ H L = some (.lst (farL F n)) ∧ SetAt H t n ws ∧ Inv2 F n ∧ n ≤ 100 ∧
  ∀ (H' : Hp) (u : Addr) (as : List Addr) (rs : List (Nat × Nat)), Same H H' → H' u = some (.tup (refs as)) → RsAt (nextE F (wayL ws)) H' as rs → Rounds F (wayL ws) n rs → Q (.ref u) H'
section
variable {P : Program} {w : World} {K : PySem.W.Frag} {mg : Str → Option Value} {base : Heap}
theorem ok_ea {f fM : Addr} {fd fdM : FuncData} (F : Fun K "end_after" "end_after" sEA f fd) (C : TC mg) (Ma : Cal K mg "mate" fM fdM ["end", "way"]) (GM : FnOk P w K mg base CX0 1 fM fdM ["end", "way"] spMate) : FnOk P w K mg base CX0 2 f fd ["fars", "setting", "end"] spEA := by
  refine F.ok scEA (fun vs H Q E h => ?_) (fun cdv A outer s H vs Q E hr h => ?_)
  · obtain ⟨L, t, F, n, e, ws, rfl, _⟩ := h
    rfl
  · obtain ⟨L, t, F, n, e, ws, rfl, hL, hS, I, he, k⟩ := h
    have nd := scEA.nd
    have hr1 : Room 1 _ := hr
    obtain ⟨t4, ht4⟩ := C.places
    refine ⟨_, pss_cons (ps_set (i := 3) nd rfl (Or.inl rfl) (pe_ix ix_list (pv 0) (pv 2) (fun _ _ => rfl)))
      (pss_one (ps_ret (pe_call GM hr1 rfl Ma.g Ma.kp Ma.b .nil pass0 (pa_cons (pv 3) (pa_cons (pe_ix ix_tup (pv 1) (pe_op op_fdiv (pv 3) (pe_glob (v := .int 4) rfl ht4 ⟨_, rfl⟩)) (fun _ _ => rfl)) pa_nil))))), ?_⟩
    have hF := I.lt e he
    have e4 : ((F e : Nat) : Int) / 4 = ((F e / 4 : Nat) : Int) := by omega
    refine ⟨_, rfl, _, rfl, L, _, _, V.int (F e : Nat), rfl, rfl, SqL.of hL, at_of (j := e) rfl (farL_at he), ?_⟩
    refine ⟨_, rfl, _, rfl, _, rfl, _, _, rfl, rfl, ⟨by decide, by decide⟩, t, _, _, V.int (wayL ws (F e / 4) : Nat), rfl, rfl, SqT.of hS.here, at_of (j := F e / 4) e4 (nats_at (hS.at_ (by omega))), F e, wayL ws (F e / 4), rfl, k⟩
theorem ok_rf {f fE : Addr} {fd fdE : FuncData} (F : Fun K "round_from" "round_from" sRF f fd) (T : TB mg) (Ea : Cal K mg "end_after" fE fdE ["fars", "setting", "end"]) (GE : FnOk P w K mg base CX0 2 fE fdE ["fars", "setting", "end"] spEA) : FnOk P w K mg base CX0 3 f fd ["fars", "setting", "start"] spRF := by
  refine F.ok scRF (fun vs H Q E h => ?_) (fun cdv A outer s H vs Q E hr h => ?_)
  · obtain ⟨L, t, F, n, s, ws, rfl, _⟩ := h
    rfl
  · obtain ⟨L, t, F, n, st, ws, rfl, hL, hS, I, hn, hs, k⟩ := h
    have nd := scRF.nd
    have hr2 : Room 2 _ := hr
    have G := next_goes I hS.ways
    obtain ⟨kk, per, hk⟩ := G.per hs
    have kpos := per.pos
    refine ⟨_, pss_cons (ps_set (i := 3) nd rfl (Or.inl rfl) (pe_lst (pa_cons (pv 2) pa_nil)))
      (C8.pss_cut (ps_set (i := 4) nd rfl (Or.inl rfl) (pe_call GE hr2 rfl Ea.g Ea.kp Ea.b .nil pass0 (pa_cons (pv 0) (pa_cons (pv 1) (pa_cons (pv 2) pa_nil)))))
      (pss_cons (ps_while PassesOwn.never (pt_cmpR op_ne (pv 4) (pv 2) (nomark _))
        (pss_cons (ps_expr (pe_bm PySem.F.plainAttrs_list PySem.F.slot_list_append PySem.F.type_list_append mt_append (pv 3) (pa_cons (pv 4) pa_nil)))
      (pss_one (ps_set (i := 4) nd rfl (Or.inl rfl) (pe_call GE hr2 rfl Ea.g Ea.kp Ea.b .nil pass0 (pa_cons (pv 0) (pa_cons (pv 1) (pa_cons (pv 4) pa_nil))))))))
      (pss_one (ps_ret (pe_tupleOf (by rfl) T.tuple (pv 3)))))), ?_⟩
    refine ⟨_, rfl, (by show 1 ≤ sizeLine; decide), fun D hD => ?_⟩
    have sD := Same.new (o := .lst [V.int (st : Nat)]) hD
    refine ⟨fun σ H2 => σ = [some (.ref L), some (.ref t), some (.int (st : Nat)), some (.ref D), some (.int (iter (nextE F (wayL ws)) 1 st : Nat))] ∧ H2 D = some (.lst (nats (rnd (nextE F (wayL ws)) st 1))) ∧ Same H H2, ?_, ?_⟩
    · exact ⟨_, rfl, _, rfl, _, rfl, L, t, F, n, st, ws, rfl, sD _ _ hL, hS.mono (sameT sD), I, hs, rfl, upd_same, sD⟩
    · rintro σ0 H0 ⟨rfl, h0, s0⟩
      unfold tSeq
      refine while_by (fun σ H2 => ∃ i, i < kk ∧ σ = [some (.ref L), some (.ref t), some (.int (st : Nat)), some (.ref D), some (.int (iter (nextE F (wayL ws)) (i + 1) st : Nat))] ∧ H2 D = some (.lst (nats (rnd (nextE F (wayL ws)) st (i + 1)))) ∧ Same H H2)
        (fun σ H2 => kk - (match H2 D with
          | some (.lst xs) => xs.length
          | _ => 0)) ⟨0, kpos, rfl, h0, s0⟩ ?_ ?_
      · rintro σ H2 ⟨i, hi, rfl, h2, s2⟩
        have mu : (match H2 D with
          | some (.lst xs) => xs.length
          | _ => 0) = i + 1 := by
          rw [h2]
          show (nats _).length = _
          rw [List.length_map, rnd_len]
        refine ⟨_, rfl, _, rfl, rfl, _, rfl, ?_⟩
        by_cases hb : iter (nextE F (wayL ws)) (i + 1) st = st
        · have e1 : kk = i + 1 := by
            rcases Nat.lt_or_ge (i + 1) kk with h | h
            · exact absurd hb (per.first (i + 1) (by omega) h)
            · omega
          rw [show (!decide (V.int (iter (nextE F (wayL ws)) (i + 1) st : Nat) = V.int (st : Nat))) = false by rw [hb, decide_eq_true rfl]; rfl]
          refine iteF ⟨_, rfl, .inl ⟨D, _, rfl, SqL.of h2, fun u hu => ?_⟩⟩
          have su := Same.new (o := .tup (nats (rnd (nextE F (wayL ws)) st (i + 1)))) hu
          exact k _ u kk (s2.trans su) per (by rw [upd_same, e1])
        · have hlt : i + 1 < kk := by
            rcases Nat.lt_or_ge (i + 1) kk with h | h
            · exact h
            · have : kk = i + 1 := by omega
              rw [← this] at hb
              exact absurd per.back hb
          have ne : ¬ (V.int (iter (nextE F (wayL ws)) (i + 1) st : Nat) = V.int (st : Nat)) := fun z => hb (by have := V.int.inj z; omega)
          rw [show (!decide (V.int (iter (nextE F (wayL ws)) (i + 1) st : Nat) = V.int (st : Nat))) = true by rw [decide_eq_false ne]; rfl]
          refine iteT ⟨_, rfl, .inl ⟨rfl, _, SqL.of h2⟩, _, rfl, D, _, _, rfl, rfl, h2, small1000 (by rw [List.length_map, rnd_len]; omega), ?_⟩
          have s3 : Same H (upd H2 D (.lst (nats (rnd (nextE F (wayL ws)) st (i + 1)) ++ [V.int (iter (nextE F (wayL ws)) (i + 1) st : Nat)]))) := fun b o e => by
            rw [upd_ne (ne_of_none e hD)]
            exact s2 _ _ e
          have h3 : (upd H2 D (.lst (nats (rnd (nextE F (wayL ws)) st (i + 1)) ++ [V.int (iter (nextE F (wayL ws)) (i + 1) st : Nat)]))) D = some (.lst (nats (rnd (nextE F (wayL ws)) st (i + 1 + 1)))) := by
            rw [upd_same, rnd_snoc _ _ (i + 1), nats_app (rnd _ _ (i + 1))]
            rfl
          refine ⟨_, rfl, _, rfl, _, rfl, L, t, F, n, _, ws, rfl, s3 _ _ hL, hS.mono (sameT s3), I, G.iter_lt hs (i + 1), ⟨i + 1, hlt, rfl, h3, s3⟩, ?_⟩
          rw [mu, h3]
          show kk - (nats _).length < _
          rw [List.length_map, rnd_len]
          omega
      · intro σ H1 Q1 Q2 hq h
        obtain ⟨v, e1, v2, e2, e3, kk', h5, q⟩ := h
        exact ⟨v, e1, v2, e2, e3, kk', h5, hq _ _ q⟩
end
end One
end P_Y1

section P_Y2
set_option linter.all false
set_option maxRecDepth 100000
set_option maxHeartbeats 8000000
namespace One
open PySem PySem.Spec PyProof.Rows L2
/-- what is told as gone -/
def GoneL (F W : Nat → Nat) (n : Nat) (rs : List (Nat × Nat)) (xs : List Nat) (g : List Bool) : Prop := g.length = 4 * n ∧ ∀ e, e < 4 * n → (g[e]? = some true ↔ Gone F W rs e ∨ ∃ x ∈ xs, e = x ∨ e = F x)
theorem GoneL.step {F W : Nat → Nat} {n x : Nat} {rs : List (Nat × Nat)} {xs : List Nat} {g : List Bool} (h : GoneL F W n rs xs g) (hx : x < 4 * n) (hF : F x < 4 * n) : GoneL F W n rs (xs ++ [x]) ((g.set x true).set (F x) true) := by
  obtain ⟨l, k⟩ := h
  refine ⟨by rw [List.length_set, List.length_set, l], fun e he => ?_⟩
  have hs : ((g.set x true).set (F x) true)[e]? = some true ↔ e = F x ∨ e = x ∨ g[e]? = some true := by
    by_cases h1 : F x = e
    · subst h1
      rw [List.getElem?_set_self (by rw [List.length_set, l]; exact hF)]
      simp
    · rw [List.getElem?_set_ne h1]
      by_cases h2 : x = e
      · subst h2
        rw [List.getElem?_set_self (by rw [l]; exact hx)]
        simp
      · rw [List.getElem?_set_ne h2]
        refine ⟨fun q => .inr (.inr q), fun q => ?_⟩
        rcases q with q | q | q
        · exact absurd q.symm h1
        · exact absurd q.symm h2
        · exact q
  rw [hs, k e he]
  constructor
  · rintro (q | q | q | ⟨y, hy, q⟩)
    · exact .inr ⟨x, by simp, .inr q⟩
    · exact .inr ⟨x, by simp, .inl q⟩
    · exact .inl q
    · exact .inr ⟨y, by simp [hy], q⟩
  · rintro (q | ⟨y, hy, q⟩)
    · exact .inr (.inr (.inl q))
    · rcases List.mem_append.mp hy with hy | hy
      · exact .inr (.inr (.inr ⟨y, hy, q⟩))
      · rw [List.mem_singleton.mp hy] at q
        rcases q with q | q
        · exact .inr (.inl q)
        · exact .inl q
theorem GoneL.done {F W : Nat → Nat} {n i k : Nat} {rs : List (Nat × Nat)} {g : List Bool} (I : Inv2 F n) (hW : ∀ c, c < n → W c < 3) (hi : i < 4 * n) (h : GoneL F W n rs (rnd (nextE F W) i k) g) : GoneL F W n (rs ++ [(i, k)]) [] g := by
  obtain ⟨l, q⟩ := h
  refine ⟨l, fun e he => (q e he).trans ?_⟩
  constructor
  · rintro (⟨p, hp, z⟩ | ⟨x, hx, z⟩)
    · exact .inl ⟨p, List.mem_append_left _ hp, z⟩
    · refine .inl ⟨(i, k), List.mem_append_right _ (List.mem_singleton.mpr rfl), ?_⟩
      rcases z with rfl | rfl
      · exact .inl hx
      · exact .inr (by
          show F (F x) ∈ _
          rw [I.inv x (rnd_lt I hW hi hx)]
          exact hx)
  · rintro (⟨p, hp, z⟩ | ⟨x, hx, _⟩)
    · rcases List.mem_append.mp hp with hp | hp
      · exact .inl ⟨p, hp, z⟩
      · rw [List.mem_singleton.mp hp] at z
        rcases z with z | z
        · exact .inr ⟨e, z, .inl rfl⟩
        · exact .inr ⟨F e, z, .inr (I.inv e he).symm⟩
    · exact absurd hx (by simp)
theorem bl_at {g : List Bool} {e : Nat} {b : Bool} (h : g[e]? = some b) : (g.map V.bl)[e]? = some (V.bl b) := by
  rw [List.getElem?_map, h]
  rfl
theorem bl_set (g : List Bool) (j : Nat) : (g.map V.bl).set j (V.bl true) = (g.set j true).map V.bl := (List.map_set).symm
section
variable {P : Program} {w : World} {K : PySem.W.Frag} {mg : Str → Option Value} {base : Heap}
theorem ok_rb {f fR : Addr} {fd fdR : FuncData} (F : Fun K "rounds_by_fars" "rounds_by_fars" sRB f fd) (T : TB mg) (Rf : Cal K mg "round_from" fR fdR ["fars", "setting", "start"]) (GR : FnOk P w K mg base CX0 3 fR fdR ["fars", "setting", "start"] spRF) : FnOk P w K mg base CX0 4 f fd ["fars", "setting"] spRB := by
  refine F.ok scRB (fun vs H Q E h => ?_) (fun cdv A outer s H vs Q E hr h => ?_)
  · obtain ⟨L, t, F, n, ws, rfl, _⟩ := h
    rfl
  · obtain ⟨L, t, F, n, ws, rfl, hL, hS, I, hn, k⟩ := h
    have nd := scRB.nd
    have hr3 : Room 3 _ := hr
    have hW := hS.ways
    refine ⟨_, pss_cons (ps_set (i := 2) nd rfl (Or.inl rfl) (pe_lst pa_nil))
      (pss_cons (ps_set (i := 3) nd rfl (Or.inl rfl) (pe_op op_rep (pe_lst (pa_cons pe_bl pa_nil)) (pe_callB call_len_seq (by rfl) T.len PySem.boot_len (pa_cons (pv 0) pa_nil))))
      (pss_cons (ps_for PassesOwn.never rfl (pi_range1 (by rfl) T.range (pa_cons (pe_callB call_len_seq (by rfl) T.len PySem.boot_len (pa_cons (pv 0) pa_nil)) pa_nil)) (pg_name (i := 4) nd rfl (Or.inl rfl))
        (pss_one (ps_if (pt_not (pt_val (pe_ix ix_list (pv 3) (pv 4) (fun _ _ => rfl)))) (pss_cons (ps_set (i := 5) nd rfl (Or.inl rfl) (pe_call GR hr3 rfl Rf.g Rf.kp Rf.b .nil pass0 (pa_cons (pv 0) (pa_cons (pv 1) (pa_cons (pv 4) pa_nil)))))
      (pss_cons (ps_for PassesOwn.never rfl (pi_tup (pv 5)) (pg_name (i := 6) nd rfl (Or.inl rfl))
        (pss_one (ps_asg2 pe_bl (pg_sub (pv 3) (pv 6) set_list) (pg_sub (pv 3) (pe_ix ix_list (pv 0) (pv 6) (fun _ _ => rfl)) set_list))))
      (pss_one (ps_expr (pe_bm PySem.F.plainAttrs_list PySem.F.slot_list_append PySem.F.type_list_append mt_append (pv 2) (pa_cons (pv 5) pa_nil)))))) pss_nil)))
      (pss_one (ps_ret (pe_tupleOf (by rfl) T.tuple (pv 2)))))), ?_⟩
    refine ⟨Nat.zero_le _, fun R hR => ?_⟩
    have s1 := Same.new (o := .lst []) hR
    refine ⟨by show 1 ≤ sizeLine; decide, fun l1 hl1 => ⟨_, rfl, L, _, rfl, .inl (SqL.of ((Same.new hl1) _ _ (s1 _ _ hL))), ?_⟩⟩
    have s2 := s1.trans (Same.new (o := .lst [V.bl false]) hl1)
    have lF : (farL F n).length = 4 * n := farL_len F n
    refine ⟨l1, _, _, rfl, rfl, upd_same, by omega, by omega, (by rw [lF]; show 1 * _ ≤ _; exact Nat.le_of_lt (small1000 (by omega))), fun Gn hGn => ?_⟩
    have eR : (List.replicate (((farL F n).length : Nat) : Int).toNat [V.bl false]).flatten = (List.replicate (4 * n) false).map V.bl := by
      rw [lF, show ((4 * n : Nat) : Int).toNat = 4 * n by omega, List.map_replicate]
      exact flat_rep _ _
    have s3 := s2.trans (Same.new (o := .lst (List.replicate (((farL F n).length : Nat) : Int).toNat [V.bl false]).flatten) hGn)
    have hG0 : H Gn = none := s2.free hGn
    have hRl : (upd (upd H R (.lst [])) l1 (.lst [V.bl false])) R = some (.lst []) := (Same.new hl1) _ _ upd_same
    have nRG : R ≠ Gn := ne_of_none hRl hGn
    have hR3 := (Same.new (o := .lst (List.replicate (((farL F n).length : Nat) : Int).toNat [V.bl false]).flatten) hGn) _ _ hRl
    have hG3 : (upd (upd (upd H R (.lst [])) l1 (.lst [V.bl false])) Gn (.lst (List.replicate (((farL F n).length : Nat) : Int).toNat [V.bl false]).flatten)) Gn = some (.lst ((List.replicate (4 * n) false).map V.bl)) := by rw [upd_same, eR]
    generalize upd (upd (upd H R (.lst [])) l1 (.lst [V.bl false])) Gn (.lst (List.replicate (((farL F n).length : Nat) : Int).toNat [V.bl false]).flatten) = H3 at s3 hR3 hG3 ⊢
    have hL3 := s3 _ _ hL
    refine ⟨_, rfl, L, _, rfl, .inl (SqL.of hL3), _, rfl, by rw [lF]; omega, by rw [lF]; omega, ?_⟩
    rw [lF, show ((4 * n : Nat) : Int).toNat = 4 * n by omega]
    refine for_range (lo := 0) (n := 4 * n) (fun i σ H' => ∃ (v4 v5 v6 : Option V) (as : List Addr) (rs : List (Nat × Nat)) (g : List Bool), σ = [some (.ref L), some (.ref t), some (.ref R), some (.ref Gn), v4, v5, v6] ∧ H' R = some (.lst (refs as)) ∧ RsAt (nextE F (wayL ws)) H' as rs ∧ RTo F (wayL ws) n i rs ∧
        H' Gn = some (.lst (g.map V.bl)) ∧ GoneL F (wayL ws) n rs [] g ∧ Same H H')
      ⟨none, none, none, [], [], List.replicate (4 * n) false, rfl, hR3, .nil, rto_nil, hG3, ⟨List.length_replicate, fun e he => ?_⟩, s3⟩ ?_ ?_
    · rw [List.getElem?_replicate, if_pos he]
      refine ⟨fun z => (by cases z), fun z => ?_⟩
      rcases z with ⟨p, hp, _⟩ | ⟨x, hx, _⟩
      · exact absurd hp (by simp)
      · exact absurd hx (by simp)
    · rintro i σ H4 hi ⟨v4, v5, v6, as, rs, g, rfl, hR4, hA4, R4, hG4, g4, s4⟩
      rw [Int.zero_add]
      obtain ⟨b, hb⟩ : ∃ b, g[i]? = some b := ⟨_, List.getElem?_eq_getElem (by rw [g4.1]; exact hi)⟩
      refine ⟨_, rfl, _, rfl, Gn, _, _, V.bl b, rfl, rfl, SqL.of hG4, at_of (j := i) rfl (bl_at hb), b, rfl, ?_⟩
      have gi := g4.2 i hi
      cases b with
      | true =>
        refine iteF ?_
        refine ⟨_, _, _, as, rs, g, rfl, hR4, hA4, R4.skip ?_, hG4, g4, s4⟩
        rcases gi.mp hb with z | ⟨x, hx, _⟩
        · exact z
        · exact absurd hx (by simp)
      | false =>
        have ng : ¬ Gone F (wayL ws) rs i := fun z => by
          rw [gi.mpr (.inl z)] at hb
          cases hb
        refine iteT ⟨_, rfl, _, rfl, _, rfl, L, t, F, n, i, ws, rfl, s4 _ _ hL, hS.mono (sameT s4), I, hn, hi, fun H5 u kk s5 per hu => ?_⟩
        have s05 := s4.trans s5
        refine ⟨_, rfl, u, rfl, ⟨_, SqT.of hu⟩, ?_⟩
        have rl : (nats (rnd (nextE F (wayL ws)) i kk)).length = kk := by rw [List.length_map, rnd_len]
        refine for_it (walk_tup (K := K) (a := u) (xs := nats (rnd (nextE F (wayL ws)) i kk))) (fun j σ H' => ∃ (v6' : Option V) (g' : List Bool), σ = [some (.ref L), some (.ref t), some (.ref R), some (.ref Gn), some (.int (i : Nat)), some (.ref u), v6'] ∧ H' R = some (.lst (refs as)) ∧ RsAt (nextE F (wayL ws)) H' as rs ∧
            H' u = some (.tup (nats (rnd (nextE F (wayL ws)) i kk))) ∧ H' Gn = some (.lst (g'.map V.bl)) ∧ GoneL F (wayL ws) n rs ((rnd (nextE F (wayL ws)) i kk).take j) g' ∧ Same H H')
          ⟨_, g, rfl, s5 _ _ hR4, hA4.mono (sameT s5), hu, s5 _ _ hG4, g4, s05⟩ (fun j σ H' _ ⟨_, _, _, _, _, h', _⟩ => SqT.of h') ?_ ?_
        · rintro j v σ H6 H7 hj ⟨v6', g', rfl, hR6, hA6, hu6, hG6, g6, s6⟩ ⟨rfl, hv⟩
          have hv : (nats (rnd (nextE F (wayL ws)) i kk))[j]? = some v := hv
          rw [rl] at hj
          have hjr : j < (rnd (nextE F (wayL ws)) i kk).length := by rw [rnd_len]; exact hj
          rw [List.getElem?_map, List.getElem?_eq_getElem hjr] at hv
          cases hv
          generalize hxe : (rnd (nextE F (wayL ws)) i kk)[j] = x
          have hx : (rnd (nextE F (wayL ws)) i kk)[j]? = some x := by rw [List.getElem?_eq_getElem hjr, hxe]
          have xl : x < 4 * n := rnd_lt I hW hi (List.mem_of_getElem? hx)
          have fl := I.lt x xl
          refine ⟨_, rfl, _, rfl, Gn, _, _, x, rfl, rfl, hG6, ix_nat (by rw [List.length_map, g6.1]; exact xl), ?_⟩
          rw [bl_set]
          have hL6 := s6 _ _ hL
          have s7 : ∀ (o : HO), Same H (upd H7 Gn o) := fun o b u' e => by
            rw [upd_ne (ne_of_none e hG0)]
            exact s6 _ _ e
          refine ⟨_, rfl, _, rfl, _, rfl, L, _, _, V.int (F x : Nat), rfl, rfl, SqL.of (s7 _ _ _ hL), at_of (j := x) rfl (farL_at xl), Gn, _, _, F x, rfl, rfl, upd_same, ix_nat (by rw [List.length_map, List.length_set, g6.1]; exact fl), ?_⟩
          rw [bl_set]
          have k8 : ∀ b o, b ≠ Gn → H7 b = some o → (upd (upd H7 Gn (.lst ((g'.set x true).map V.bl))) Gn (.lst (((g'.set x true).set (F x) true).map V.bl))) b = some o := fun b o hb e => by rw [upd_ne hb, upd_ne hb]; exact e
          have kT : ∀ b xs, H7 b = some (.tup xs) → (upd (upd H7 Gn (.lst ((g'.set x true).map V.bl))) Gn (.lst (((g'.set x true).set (F x) true).map V.bl))) b = some (.tup xs) := fun b xs e => k8 b _ (ne_of e hG6 (by intro z; cases z)) e
          refine ⟨_, _, rfl, k8 _ _ nRG hR6, hA6.mono kT, kT _ _ hu6, upd_same, ?_, fun b o e => k8 _ _ (ne_of_none e hG0) (s6 _ _ e)⟩
          rw [List.take_succ, hx, Option.toList_some]
          exact g6.step xl fl
        · rintro σ H6 ⟨v6', g', rfl, hR6, hA6, hu6, hG6, g6, s6⟩
          rw [rl, List.take_of_length_le (by rw [rnd_len]; exact Nat.le_refl _)] at g6
          refine ⟨_, rfl, .inl ⟨rfl, _, SqL.of hR6⟩, _, rfl, R, _, _, rfl, rfl, hR6, small1000 ?_, ?_⟩
          · rw [List.length_map, hA4.len]
            have nd2 : (rs.map (·.1)).Nodup := by
              unfold List.Nodup
              rw [List.pairwise_map]
              exact R4.up.imp fun h => Nat.ne_of_lt h
            have := pigeon i (rs.map (·.1)) nd2 fun x hx => by
              obtain ⟨p, hp, rfl⟩ := List.mem_map.mp hx
              exact R4.low p hp
            rw [List.length_map] at this
            omega
          · have k7 : ∀ b xs, H6 b = some (.tup xs) → (upd H6 R (.lst (refs as ++ [V.ref u]))) b = some (.tup xs) := fun b xs e => (upd_ne (ne_of e hR6 (by intro z; cases z))).trans e
            refine ⟨_, _, _, as ++ [u], rs ++ [(i, kk)], g', rfl, by rw [upd_same, refs_app]; rfl, (hA6.mono k7).app (.cons (k7 _ _ hu6) .nil), R4.more I hW hi ng per, (upd_ne (Ne.symm nRG)).trans hG6, g6.done I hW hi, fun b o e => ?_⟩
            rw [upd_ne (ne_of_none e hR)]
            exact s6 _ _ e
    · rintro σ H4 ⟨v4, v5, v6, as, rs, g, rfl, hR4, hA4, R4, hG4, g4, s4⟩
      refine ⟨_, rfl, .inl ⟨R, _, rfl, SqL.of hR4, fun u hu => ?_⟩⟩
      have su := Same.new (o := .tup (refs as)) hu
      exact k _ u as rs (s4.trans su) upd_same (hA4.mono (sameT su)) R4.done
end
end One
end P_Y2

section P_Y3
set_option linter.all false
set_option maxRecDepth 100000
set_option maxHeartbeats 8000000
namespace One
open PySem PySem.Spec PyProof.Rows L2
abbrev sWF : Stmt := top 41
abbrev nWF : List Str := ["thing", "many", "is_draft", "number", "way"]
theorem scWF : FnScope nWF ["thing", "many", "is_draft"] (defScope sWF) := ⟨rfl, rfl, rfl, by decide +kernel, rfl, by decide +kernel, by decide +kernel⟩
/-- a way, or, of a draft, none -/
def okW (isd : Bool) (v : V) : Bool := belowV v 3 || (isd && decide (v = .non))
def spWays : Sp := fun vs H Q _ => ∃ (v : V) (T : String) (n : Nat) (isd : Bool), vs = [v, .int (n : Nat), .bl isd] ∧ TV H v T ∧
  (((∀ t xs, v = .ref t → H t = some (.tup xs) → xs.length ≠ n) ∧ ∀ (H' : Hp) (p : Addr), Same H H' → H' p = some (.tup []) → Q (.ref p) H') ∨
   ∃ (t : Addr) (xs : List V), v = .ref t ∧ H t = some (.tup xs) ∧ xs.length = n ∧ (∀ x ∈ xs, ∃ T, TV H x T) ∧ (xs.all (okW isd) = true → ∀ H', Same H H' → Q .non H') ∧
     ∀ (i : Nat) (x : V), xs[i]? = some x → okW isd x = false → (xs.take i).all (okW isd) = true → ∀ (H' : Hp) (p : Addr), Same H H' → H' p = some (.tup [.int (i : Nat)]) → Q (.ref p) H')
section
variable {P : Program} {w : World} {K : PySem.W.Frag} {mg : Str → Option Value} {base : Heap}
theorem ok_ways {f fB : Addr} {fd fdB : FuncData} (F : Fun K "ways_fault" "ways_fault" sWF f fd) (T : TB mg) (w3 : ∃ t, mg "MANY_WAYS" = some (.int 3 t)) (B : Cal K mg "is_below" fB fdB ["thing", "many"]) (GB : FnOk P w K mg base CX0 2 fB fdB ["thing", "many"] spIsBelow) :
    FnOk P w K mg base CX0 3 f fd ["thing", "many", "is_draft"] spWays := by
  refine F.ok scWF (fun vs H Q E h => ?_) (fun cdv A outer s H vs Q E hr h => ?_)
  · obtain ⟨v, Tt, n, isd, rfl, _⟩ := h
    rfl
  · obtain ⟨v, Tt, n, isd, rfl, hv, hc⟩ := h
    have nd := scWF.nd
    have hr2 : Room 2 _ := hr
    obtain ⟨u3, ht3⟩ := w3
    refine ⟨_, pss_cons (ps_if (PW.pt (pw_or (pt_not (pt_val (pe_callB call_isi (by rfl) T.isinstance boot_isinstance (pa_cons (pv 0) (pa_cons (pe_bltn (v := .ty "tuple") (by rfl) T.tuple boot_tuple rfl) pa_nil))))) (pw_or1 (pt_cmpR op_ne (pe_callB call_len_seq (by rfl) T.len PySem.boot_len (pa_cons (pv 0) pa_nil)) (pv 1) (nomark _))))) (pss_one (ps_ret (pe_tup pa_nil))) pss_nil)
      (pss_cons (ps_for PassesOwn.never rfl (pi_enumT (by rfl) T.enumerate (pa_cons (pv 0) pa_nil)) (pg_tup rfl (pgs_cons (pg_name (i := 3) nd rfl (Or.inl rfl)) (pgs_cons (pg_name (i := 4) nd rfl (Or.inl rfl)) pgs_nil)))
        (pss_one (ps_if (PW.pt (pw_and (pt_not (pt_val (pe_call GB hr2 rfl B.g B.kp B.b .nil pass0 (pa_cons (pv 4) (pa_cons (pe_glob (v := .int 3) rfl ht3 ⟨_, rfl⟩) pa_nil))))) (pw_and1 (pt_not (PW.pt (pw_and (pt_val (pv 2)) (pw_and1 (pt_cmpR op_isN (pv 4) pe_non (nomark _))))))))) (pss_one (ps_ret (pe_tup (pa_cons (pv 3) pa_nil)))) pss_nil)))
      (pss_one (ps_ret pe_non))), ?_⟩
    refine ⟨_, rfl, _, _, _, _, _, rfl, .ty _, hv.tyx, hv.kTup, _, rfl, ?_⟩
    rcases hc with ⟨hno, k⟩ | ⟨t, xs, rfl, ht, hl, hx, kgood, kbad⟩
    · cases hT : isTup Tt with
      | false => exact iteT (iteT ⟨Nat.zero_le _, fun p hp => k _ p (Same.new hp) upd_same⟩)
      | true =>
        obtain ⟨t, xs, rfl, ht⟩ : ∃ t xs, v = .ref t ∧ H t = some (.tup xs) := by
          cases hv with
          | @tup a xs e => exact ⟨a, xs, rfl, e⟩
          | non => exact absurd hT (by decide)
          | bl b => exact absurd hT (by decide)
          | int i => exact absurd hT (by decide)
          | str x => exact absurd hT (by decide)
          | lst e => exact absurd hT (by decide)
          | dct e => exact absurd hT (by decide)
        have hne := hno t xs rfl ht
        refine iteF ⟨_, rfl, t, _, rfl, .inr (SqT.of ht), _, rfl, rfl, _, rfl, ?_⟩
        have e : decide (V.int (xs.length : Nat) = V.int (n : Nat)) = false := decide_eq_false fun z => hne (by
          have := V.int.inj z
          omega)
        rw [e]
        exact iteT ⟨Nat.zero_le _, fun p hp => k _ p (Same.new hp) upd_same⟩
    · have eT : isTup Tt = true := by
        cases hv with
        | tup e => rfl
        | lst e => cases ht.symm.trans e
        | dct e => cases ht.symm.trans e
      rw [eT]
      refine iteF ⟨_, rfl, t, _, rfl, .inr (SqT.of ht), _, rfl, rfl, _, rfl, ?_⟩
      have e : decide (V.int (xs.length : Nat) = V.int (n : Nat)) = true := decide_eq_true (by rw [hl])
      rw [e]
      refine iteF ?_
      refine ⟨_, rfl, t, _, rfl, SqT.of ht, for_it (walk_enumT (K := K) (a := t) (xs := xs)) (fun i σ H2 => ∃ v3 v4 : Option V, σ = [some (.ref t), some (.int (n : Nat)), some (.bl isd), v3, v4] ∧ Same H H2 ∧ (xs.take i).all (okW isd) = true) ⟨none, none, rfl, Same.refl H, rfl⟩ (fun i σ H2 _ ⟨_, _, _, s', _⟩ => SqT.of (s' _ _ ht)) ?_ ?_⟩
      · rintro i x σ H2 H3 hi ⟨v3, v4, rfl, s2, a2⟩ ⟨q, x', y', rfl, hq, rfl, ex, ey⟩
        cases ex
        have ey : xs[i]? = some y' := ey
        have s3 := Same.new (o := .tup [V.int (i : Nat), y']) hq
        have sA := s2.trans s3
        obtain ⟨Ty, hy⟩ := hx y' (List.mem_of_getElem? ey)
        refine ⟨q, _, rfl, SqT.of upd_same, rfl, _, _, rfl, _, _, rfl, rfl, ?_⟩
        generalize upd H2 q (.tup [V.int (i : Nat), y']) = H3 at sA
        have a3 : okW isd y' = true → (xs.take (i + 1)).all (okW isd) = true := fun h => by
          rw [List.take_succ, ey, Option.toList_some, List.all_append, a2]
          show (true && (okW isd y' && true)) = true
          rw [h]
          rfl
        refine ⟨_, rfl, y', 3, Ty, rfl, hy.mono sA, _, rfl, ?_⟩
        cases hb : belowV y' 3 with
        | true =>
          refine iteF (iteF ?_)
          exact ⟨_, _, rfl, sA, a3 (by unfold okW; rw [hb]; rfl)⟩
        | false =>
          refine iteT ⟨_, rfl, isd, rfl, ?_⟩
          cases hd : isd with
          | false =>
            refine iteF (iteT ?_)
            subst hd
            refine ⟨_, rfl, (by show 1 ≤ sizeLine; decide), fun p hp => kbad i y' ey ?_ a2 _ p (sA.trans (Same.new hp)) upd_same⟩
            unfold okW
            rw [hb]
            rfl
          | true =>
            subst hd
            refine iteT ⟨_, rfl, rfl, _, rfl, ?_⟩
            cases hn : decide (y' = V.non) with
            | true =>
              refine iteF ?_
              exact ⟨_, _, rfl, sA, a3 (by unfold okW; rw [hb, hn]; rfl)⟩
            | false =>
              refine iteT ?_
              refine ⟨_, rfl, (by show 1 ≤ sizeLine; decide), fun p hp => kbad i y' ey ?_ a2 _ p (sA.trans (Same.new hp)) upd_same⟩
              unfold okW
              rw [hb, hn]
              rfl
      · rintro σ H2 ⟨v3, v4, rfl, s2, a2⟩
        rw [List.take_length] at a2
        exact kgood a2 _ s2
end
end One
end P_Y3

section P_Y4
set_option linter.all false
set_option maxRecDepth 100000
set_option maxHeartbeats 8000000
namespace One
open PySem PySem.Spec PyProof.Rows L2
abbrev sNS : Stmt := top 40
abbrev sRO : Stmt := top 43
abbrev nNS : List Str := ["yard", "thing", "place"]
abbrev nRO : List Str := ["yard", "setting"]
theorem scNS : FnScope nNS ["yard", "thing"] (defScope sNS) := ⟨rfl, rfl, rfl, by decide +kernel, rfl, by decide +kernel, by decide +kernel⟩
theorem scRO : FnScope nRO ["yard", "setting"] (defScope sRO) := ⟨rfl, rfl, rfl, by decide +kernel, rfl, by decide +kernel, by decide +kernel⟩
/-- it is raised, with that place -/
def RWrong (C : Addr) (E : XK) (H : Hp) (ns : List Nat) : Prop := ∀ (H' : Hp) (p d : Addr), Same H H' → H' p = some (.tup (nats ns)) → H' d = some (.xd [("place", .ref p)]) → E (.ref C) (some d) H'
/-- ways are looked at: let by, or refused -/
def LookW (C : Addr) (isd : Bool) (v : V) (m : Nat) (H : Hp) (Q : Hp → Prop) (E : XK) : Prop :=
  ((∀ t xs, v = .ref t → H t = some (.tup xs) → xs.length ≠ m) ∧ RWrong C E H []) ∨
   ∃ (t : Addr) (xs : List V), v = .ref t ∧ H t = some (.tup xs) ∧ xs.length = m ∧ (∀ x ∈ xs, ∃ T, TV H x T) ∧ (xs.all (okW isd) = true → ∀ H', Same H H' → Q H') ∧
     ∀ (i : Nat) (x : V), xs[i]? = some x → okW isd x = false → (xs.take i).all (okW isd) = true → RWrong C E H [i]
def spNS (CS : Addr) : Sp := fun vs H Q E => ∃ (y : Addr) (v : V) (T : String) (m : Nat) (ps : List (Nat × Nat)), vs = [.ref y, v] ∧ YAt H y m ps ∧ m ≤ 40 ∧ TV H v T ∧ LookW CS false v m H (fun H' => Q v H') E
def spRO (CS : Addr) : Sp := fun vs H Q E => ∃ (y : Addr) (v : V) (T : String) (m : Nat) (ps : List (Nat × Nat)), vs = [.ref y, v] ∧ YAt H y m ps ∧ m ≤ 40 ∧ TV H v T ∧ LookW CS false v m H (fun H' => ∃ (t : Addr) (ws : List Nat), v = .ref t ∧ SetAt H' t m ws ∧
  ∀ (H'' : Hp) (u : Addr) (as : List Addr) (rs : List (Nat × Nat)), Same H' H'' → H'' u = some (.tup (refs as)) → RsAt (nextE (far ps) (wayL ws)) H'' as rs → Rounds (far ps) (wayL ws) m rs → Q (.ref u) H'') E
theorem LookW.mono {C : Addr} {isd : Bool} {v : V} {m : Nat} {H : Hp} {Q Q' : Hp → Prop} {E : XK} (h : LookW C isd v m H Q E) (k : ∀ H', Same H H' → Q H' → Q' H') : LookW C isd v m H Q' E := by
  rcases h with h | ⟨t, xs, h1, h2, h3, h4, h5, h6⟩
  · exact .inl h
  · exact .inr ⟨t, xs, h1, h2, h3, h4, fun a H' s => k H' s (h5 a H' s), h6⟩
theorem LookW.to {C : Addr} {isd : Bool} {v : V} {m : Nat} {H H1 : Hp} {Q : Hp → Prop} {E : XK} {T : String} (hv : TV H v T) (h : LookW C isd v m H Q E) (s : Same H H1) : LookW C isd v m H1 Q E := by
  rcases h with ⟨h1, h2⟩ | ⟨t, xs, h1, h2, h3, h4, h5, h6⟩
  · refine .inl ⟨fun t xs e ht => ?_, fun H' p d s' => h2 H' p d (s.trans s')⟩
    subst e
    cases hv with
    | @tup a ys e =>
      have := s _ _ e
      rw [ht] at this
      cases this
      exact h1 t _ rfl e
    | lst e => cases ht.symm.trans (s _ _ e)
    | dct e => cases ht.symm.trans (s _ _ e)
  · exact .inr ⟨t, xs, h1, s _ _ h2, h3, fun x hx => (h4 x hx).imp fun T h => h.mono s, fun a H' s' => h5 a H' (s.trans s'), fun i x a b c H' p d s' => h6 i x a b c H' p d (s.trans s')⟩
theorem nats_of_ok : ∀ {xs : List V}, xs.all (okW false) = true → ∃ ws : List Nat, xs = nats ws ∧ ∀ x ∈ ws, x < 3
  | [], _ => ⟨[], rfl, fun x h => absurd h (by simp)⟩
  | v :: xs, h => by
    have h : (okW false v && xs.all (okW false)) = true := h
    rw [Bool.and_eq_true] at h
    obtain ⟨ws, e, hw⟩ := nats_of_ok h.2
    have hb : belowV v 3 = true := by
      have := h.1
      unfold okW at this
      rw [Bool.false_and, Bool.or_false] at this
      exact this
    cases v with
    | int i =>
      have hb : (decide (0 ≤ i) && decide (i < 3)) = true := hb
      simp only [Bool.and_eq_true, decide_eq_true_eq] at hb
      refine ⟨i.toNat :: ws, ?_, fun x hx => ?_⟩
      · rw [e]
        show V.int i :: nats ws = V.int ((i.toNat : Nat) : Int) :: nats ws
        rw [show ((i.toNat : Nat) : Int) = i by omega]
      · rcases List.mem_cons.mp hx with rfl | hx
        · omega
        · exact hw x hx
    | _ => exact nof hb
section
variable {P : Program} {w : World} {K : PySem.W.Frag} {mg : Str → Option Value} {base : Heap} {C0 CS f3 : Addr} {x3 : Stmt}
theorem ok_ns {f fW fC : Addr} {fd fdW fdC : FuncData} (F : Fun K "need_setting" "need_setting" sNS f fd) (T3 : OwnTxt P K x3 "place" CS f3) (O3 : OwnCls K mg "BadSetting" CS f3) (noS : mg "super" = none) (Fa : Cal K mg "ways_fault" fW fdW ["thing", "many", "is_draft"]) (GF : FnOk P w K mg base CX0 3 fW fdW ["thing", "many", "is_draft"] spWays)
    (C : Cal K mg "crossings" fC fdC ["yard"]) (GC : FnOk P w K mg base (L2.CX P w) 6 fC fdC ["yard"] (spCross C0)) : FnOk P w K mg base (L2.CX P w) 7 f fd ["yard", "thing"] (spNS CS) := by
  refine F.okX scNS (fun vs H Q E h => ?_) (fun cdv A outer s H vs Q E hr h => ?_)
  · obtain ⟨y, v, T, m, ps, rfl, _⟩ := h
    rfl
  · obtain ⟨y, v, Tv, m, ps, rfl, hY, h40, hv, hl⟩ := h
    have nd := scNS.nd
    have hr6 : Room 6 _ := hr
    have hr3 : Room 3 _ := hr.mono (by decide)
    refine ⟨_, pss_cons (ps_set (i := 2) nd rfl (Or.inl rfl) (pe_call GF hr3 rfl Fa.g Fa.kp Fa.b .nil pass0 (pa_cons (pv 1) (pa_cons (pe_call GC hr6 rfl C.g C.kp C.b .nil passL (pa_cons (pv 0) pa_nil)) (pa_cons pe_bl pa_nil)))))
      (pss_cons (ps_if (pt_cmpR op_notN (pv 2) pe_non (nomark _)) (pss_one (ps_raiseX rfl (Or.inl rfl) T3 O3 noS hr (takes_of rfl rfl rfl rfl) (pa_cons (pv 2) pa_nil) (by rfl))) pss_nil)
      (pss_one (ps_ret (pv 1)))), ?_⟩
    obtain ⟨Y, as, ht, hP⟩ := id hY
    have hlen : (refs as).length = 2 * m := by rw [List.length_map, hP.len, Y.lines.len]
    refine ⟨_, rfl, _, rfl, _, rfl, ?_⟩
    unfold tNil
    refine fault_good hY h40 fun H1 s1 => .inl ⟨rfl, y, refs as, rfl, s1 _ _ ht, ?_⟩
    rw [show (refs as).length / 2 = m by omega]
    have short : ∀ (H2 : Hp) (p : Addr) (ns : List Nat), Same H1 H2 → H2 p = some (.tup (nats ns)) → ns.length ≤ 100 → (∀ n ∈ ns, n < 1000) → RWrong CS E H1 ns → ∀ (d : Addr), H2 d = none → E (.ref CS) (some d) (upd H2 d (.xd [("place", .ref p)])) := fun H2 p ns s2 hp _ _ hW d hd =>
      hW _ p d (s2.trans (Same.new hd)) ((Same.new hd) _ _ hp) upd_same
    rcases hl.to hv s1 with ⟨h1, h2⟩ | ⟨t, xs, rfl, hxs, hlx, hT, kg, kb⟩
    · refine ⟨v, Tv, m, false, rfl, hv.mono s1, .inl ⟨h1, fun H2 p s2 hp => ?_⟩⟩
      exact ⟨_, rfl, rfl, _, rfl, iteT ⟨_, rfl, _, rfl, .tup [] (SqT.of hp) (Nat.zero_le _) (fun n h => absurd h (by simp)), fun d hd => short H2 p [] s2 hp (Nat.zero_le _) (fun n h => absurd h (by simp)) h2 d hd⟩⟩
    · refine ⟨_, Tv, m, false, rfl, hv.mono s1, .inr ⟨t, xs, rfl, hxs, hlx, hT, fun a H2 s2 => ?_, fun i x hx ho ha H2 p s2 hp => ?_⟩⟩
      · exact ⟨_, rfl, rfl, _, rfl, iteF ⟨_, rfl, kg a _ s2⟩⟩
      · have hi : i < 40 := by
          have := (List.getElem?_eq_some_iff.mp hx).1
          omega
        have hp' : H2 p = some (.tup (nats [i])) := hp
        have sm : ∀ n ∈ [i], n < 1000 := fun n h => by
          rw [List.mem_singleton.mp h]
          omega
        exact ⟨_, rfl, rfl, _, rfl, iteT ⟨_, rfl, _, rfl, .tup [i] (SqT.of hp') (by show 1 ≤ 100; decide) sm, fun d hd => short H2 p [i] s2 hp' (by show 1 ≤ 100; decide) sm (kb i x hx ho ha) d hd⟩⟩
theorem ok_ro {f fN fR fF : Addr} {fd fdN fdR fdF : FuncData} (F : Fun K "rounds_of" "rounds_of" sRO f fd) (N : Cal K mg "need_setting" fN fdN ["yard", "thing"]) (GN : FnOk P w K mg base (L2.CX P w) 7 fN fdN ["yard", "thing"] (spNS CS))
    (Rb : Cal K mg "rounds_by_fars" fR fdR ["fars", "setting"]) (GR : FnOk P w K mg base CX0 4 fR fdR ["fars", "setting"] spRB) (Fa : Cal K mg "fars_of_lines" fF fdF ["lines"]) (GF : FnOk P w K mg base CX0 1 fF fdF ["lines"] spFars) : FnOk P w K mg base (L2.CX P w) 8 f fd ["yard", "setting"] (spRO CS) := by
  refine F.okX scRO (fun vs H Q E h => ?_) (fun cdv A outer s H vs Q E hr h => ?_)
  · obtain ⟨y, v, T, m, ps, rfl, _⟩ := h
    rfl
  · obtain ⟨y, v, Tv, m, ps, rfl, hY, h40, hv, hl⟩ := h
    have nd := scRO.nd
    have hr7 : Room 7 _ := hr
    have hr4 : Room 4 _ := hr.mono (by decide)
    have hr1 : Room 1 _ := hr.mono (by decide)
    refine ⟨_, pss_cons (ps_expr (pe_call GN hr7 rfl N.g N.kp N.b .nil (passes_call (takes_of rfl rfl rfl rfl) (fun _ _ _ _ h => h)) (pa_cons (pv 0) (pa_cons (pv 1) pa_nil))))
      (pss_one (ps_ret (pe_call GR hr4 rfl Rb.g Rb.kp Rb.b .nil pass0 (pa_cons (pe_call GF hr1 rfl Fa.g Fa.kp Fa.b .nil pass0 (pa_cons (pv 0) pa_nil)) (pa_cons (pv 1) pa_nil))))), ?_⟩
    obtain ⟨Y, as, ht, hP⟩ := id hY
    refine ⟨_, rfl, _, rfl, y, v, Tv, m, ps, rfl, hY, h40, hv, hl.mono fun H1 s1 ⟨t, ws, ev, hS, k⟩ => ?_⟩
    subst ev
    refine ⟨_, rfl, y, m, as, ps, rfl, s1 _ _ ht, hP.mono (sameT s1), Y.lines, by omega, fun H2 L s2 _ hL => ?_⟩
    exact ⟨_, rfl, L, t, far ps, m, ws, rfl, hL, hS.mono (sameT s2), far_inv Y.lines, by omega, fun H3 u bs rs s3 hu hR hr' => k H3 u bs rs (s2.trans s3) hu hR hr'⟩
end
end One
end P_Y4

section P_Y5
set_option linter.all false
set_option maxRecDepth 100000
set_option maxHeartbeats 8000000
namespace One
open PySem PySem.Spec PyProof.Rows L2
def rMin2 : List V → Hp → VK → Prop := fun xs H Q => ∃ i j : Int, xs = [.int i, .int j] ∧ Q (.int (if j < i then j else i)) H
theorem min2b {X : Cx} (hc : X.calm = true) : CallR X (.builtin "min") rMin2 := call_min2 hc
theorem nats_ints (ns : List Nat) : nats ns = (ns.map fun x => ((x : Nat) : Int)).map V.int := by
  rw [List.map_map]
  rfl
end One
end P_Y5

section P_S1
set_option linter.all false
set_option maxRecDepth 100000
set_option maxHeartbeats 8000000
/-! Draws by turns: a dict of the cells, of what is left of each, a place. -/
namespace One
open PySem PySem.Spec PyProof.Rows L2
abbrev kC : Key := Sum.inr ("cells" : Str)
abbrev kF : Key := Sum.inr ("lefts" : Str)
abbrev kT : Key := Sum.inr ("at" : Str)
def mkL (c l : Addr) (k : Int) : List (Key × V) := [(kC, .ref c), (kF, .ref l), (kT, .int k)]
theorem nCF : ¬ (kC = kF) := by decide +kernel
theorem nCT : ¬ (kC = kT) := by decide +kernel
theorem nFT : ¬ (kF = kT) := by decide +kernel
section
variable (c l : Addr) (k : Int)
theorem mkL_C : valV (mkL c l k) kC = some (.ref c) := valV_pos rfl
theorem mkL_F : valV (mkL c l k) kF = some (.ref l) := (valV_neg nCF).trans (valV_pos rfl)
theorem mkL_T : valV (mkL c l k) kT = some (.int k) := (valV_neg nCT).trans ((valV_neg nFT).trans (valV_pos rfl))
theorem put_atL (p : List (Key × V)) (k : Key) (v : V) (h : (p.any fun kv => decide (kv.1 = k)) = true) : putK p k v = p.map (fun kv => if kv.1 = k then (kv.1, v) else kv) := by
  unfold putK
  rw [if_pos h]
theorem mkL_put (b : Int) : putK (mkL c l k) kT (.int b) = mkL c l b := by
  rw [put_atL _ _ _ (by rw [valV_any, mkL_T]; rfl)]
  simp only [mkL, List.map_cons, List.map_nil, if_neg nCT, if_neg nFT, if_true]
theorem mkL_make : mergeK [] [(kC, V.ref c), (kF, .ref l), (kT, .int k)] = mkL c l k := by
  have e1 : putK ([] : List (Key × V)) kC (.ref c) = [(kC, .ref c)] := putK_new _ valV_nil
  have e2 : putK [(kC, V.ref c)] kF (.ref l) = [(kC, .ref c), (kF, .ref l)] := putK_new _ (by rw [valV_neg nCF]; rfl)
  have e3 : putK [(kC, V.ref c), (kF, V.ref l)] kT (.int k) = [(kC, .ref c), (kF, .ref l), (kT, .int k)] := putK_new _ (by rw [valV_neg nCT, valV_neg nFT]; rfl)
  simp only [mergeK, List.foldl_cons, List.foldl_nil]
  rw [e1, e2, e3]
  rfl
end
section
variable {H : Hp} {p c l : Addr} {k b : Int}
theorem gCL (h : H p = some (.dK (mkL c l k))) : DGet H p (.str ("cells" : Str)) (some (.ref c)) := by
  have q := DGet.k (k := kC) h
  rw [mkL_C] at q
  exact q
theorem gFL (h : H p = some (.dK (mkL c l k))) : DGet H p (.str ("lefts" : Str)) (some (.ref l)) := by
  have q := DGet.k (k := kF) h
  rw [mkL_F] at q
  exact q
theorem gTL (h : H p = some (.dK (mkL c l k))) : DGet H p (.str ("at" : Str)) (some (.int k)) := by
  have q := DGet.k (k := kT) h
  rw [mkL_T] at q
  exact q
theorem pTL (h : H p = some (.dK (mkL c l k))) : DPut H p (.str ("at" : Str)) (.int b) (upd H p (.dK (mkL c l b))) := by
  have q := DPut.k (k := kT) (v := .int b) h (by show 3 < sizeLine; decide)
  rw [mkL_put] at q
  exact q
end
/-- the draws' dict at p, its cells at c, what is left of them at l, at most n draws so far -/
structure ML (H : Hp) (p c l : Addr) (n : Nat) : Prop where
  ex : ∃ (zs ds : List Int) (k : Int), H p = some (.dK (mkL c l k)) ∧ H c = some (.lst (zs.map V.int)) ∧ H l = some (.lst (ds.map V.int)) ∧ zs.length = ds.length ∧ 0 < zs.length ∧ zs.length ≤ 63 ∧ (∀ d ∈ ds, 0 ≤ d) ∧ 0 ≤ k ∧ k ≤ (n : Int)
  ne : c ≠ l
  nn : n ≤ 1000000
/-- all stays but the dict and what is left -/
def ExtL (p l : Addr) (H H' : Hp) : Prop := ∀ b o, b ≠ p → b ≠ l → H b = some o → H' b = some o
theorem ExtL.refl (p l : Addr) (H : Hp) : ExtL p l H H := fun _ _ _ _ e => e
theorem ExtL.trans {p l : Addr} {H H1 H2 : Hp} (h : ExtL p l H H1) (k : ExtL p l H1 H2) : ExtL p l H H2 := fun b o hb hl e => k b o hb hl (h b o hb hl e)
theorem ExtL.same {p l : Addr} {H H1 : Hp} (h : Same H H1) : ExtL p l H H1 := fun b o _ _ e => h b o e
theorem ML.keep {H H' : Hp} {p c l : Addr} {n : Nat} (M : ML H p c l n) (e : Same H H') : ML H' p c l n := by
  obtain ⟨zs, ds, k, h1, h2, h3, r⟩ := M.ex
  exact ⟨⟨zs, ds, k, e _ _ h1, e _ _ h2, e _ _ h3, r⟩, M.ne, M.nn⟩
theorem ML.lt {H : Hp} {p c l : Addr} {n k : Nat} (M : ML H p c l n) (h : n ≤ k) (hk : k ≤ 1000000) : ML H p c l k := by
  obtain ⟨zs, ds, q, h1, h2, h3, h4, h5, h6, h7, h8, h9⟩ := M.ex
  exact ⟨⟨zs, ds, q, h1, h2, h3, h4, h5, h6, h7, h8, by omega⟩, M.ne, hk⟩
theorem tupL {H H' : Hp} {p c l : Addr} {n : Nat} (M : ML H p c l n) (e : ExtL p l H H') : ∀ b xs, H b = some (.tup xs) → H' b = some (.tup xs) := fun b xs h => by
  obtain ⟨zs, ds, k, h1, h2, h3, _⟩ := M.ex
  exact e b _ (ne_of h h1 (by intro z; cases z)) (ne_of h h3 (by intro z; cases z)) h
abbrev sMX : Stmt := top 60
abbrev sDR : Stmt := top 62
abbrev nMX : List Str := ["cell", "k"]
abbrev nDR : List Str := ["state", "many", "at", "place", "left", "number"]
theorem scMX : FnScope nMX ["cell", "k"] (defScope sMX) := ⟨rfl, rfl, rfl, by decide +kernel, rfl, by decide +kernel, by decide +kernel⟩
theorem scDR : FnScope nDR ["state", "many"] (defScope sDR) := ⟨rfl, rfl, rfl, by decide +kernel, rfl, by decide +kernel, by decide +kernel⟩
def spMX : Sp := fun vs H Q _ => ∃ z k : Int, vs = [.int z, .int k] ∧ 0 ≤ k ∧ k ≤ 2000000 ∧ ∀ r : Int, 0 ≤ r → r < 2147483629 → Q (.int r) H
def spDR : Sp := fun vs H Q _ => ∃ (p c l : Addr) (n : Nat) (many : Int), vs = [.ref p, .int many] ∧ ML H p c l n ∧ n < 1000000 ∧ 0 < many ∧ many < 1073741824 ∧
  ∀ (H' : Hp) (r : Int), ML H' p c l (n + 1) → ExtL p l H H' → 0 ≤ r → r < many → Q (.int r) H'
theorem int_at {zs : List Int} {i : Int} (h0 : 0 ≤ i) (h1 : i < (zs.length : Int)) : ∃ (j : Nat) (z : Int), i = (j : Nat) ∧ j < zs.length ∧ zs[j]? = some z ∧ atI (zs.map V.int) i = some (V.int z) := by
  have hj : i.toNat < zs.length := by omega
  refine ⟨i.toNat, zs[i.toNat], by omega, hj, List.getElem?_eq_getElem hj, at_of (j := i.toNat) (by omega) ?_⟩
  rw [List.getElem?_map, List.getElem?_eq_getElem hj]
  rfl
section
variable {P : Program} {w : World} {K : PySem.W.Frag} {mg : Str → Option Value} {base : Heap}
theorem ok_mixed {f : Addr} {fd : FuncData} (F : Fun K "_law_mixed" "_law_mixed" sMX f fd) : FnOk P w K mg base CX0 1 f fd ["cell", "k"] spMX := by
  refine F.ok scMX (fun vs H Q E h => ?_) (fun cdv A outer s H vs Q E hr h => ?_)
  · obtain ⟨z, k, rfl, _⟩ := h
    rfl
  · obtain ⟨z, k, rfl, h0, h1, q⟩ := h
    have nd := scMX.nd
    refine ⟨_, pss_cons (ps_set (i := 0) nd rfl (Or.inl rfl) (pe_op op_mod (pv 0) pe_int))
      (pss_one (ps_ret (pe_op op_mod (pe_op op_mul (pe_op op_mod (pe_op op_add (pe_op op_add (pe_op op_mul (pv 0) (pe_op op_add pe_int (pe_op op_mul (pe_op op_mul pe_int (pv 1)) (pv 1)))) (pe_op op_mul pe_int (pv 1))) pe_int) pe_int) pe_int) pe_int))), ?_⟩
    have kk0 : 0 ≤ 2 * k * k := Int.mul_nonneg (by omega) h0
    have kk1 : 2 * k * k ≤ 4000000 * 2000000 := Int.mul_le_mul (by omega) h1 h0 (by decide)
    have m0 : 0 ≤ z % 2147483647 := Int.emod_nonneg _ (by decide)
    have m1 : z % 2147483647 < 2147483647 := Int.emod_lt_of_pos _ (by decide)
    refine ⟨_, rfl, _, _, rfl, rfl, (by show (0 : Int) < 2147483647; decide), ?_⟩
    refine ⟨_, rfl, _, rfl, _, _, rfl, rfl, .inl ⟨by decide, by decide⟩, _, rfl, _, _, rfl, rfl, .inr ⟨by omega, by omega⟩, _, _, rfl, rfl, _, _, rfl, rfl, .inl ⟨by show -(2 ^ 64) < z % 2147483647; omega, by show z % 2147483647 < 2 ^ 64; omega⟩, ?_⟩
    refine ⟨_, rfl, _, _, rfl, rfl, .inl ⟨by decide, by decide⟩, _, _, rfl, rfl, _, _, rfl, rfl, _, _, rfl, rfl, (by show (0 : Int) < 2147483647; decide), _, _, rfl, rfl, .inr ⟨by decide, by decide⟩, _, _, rfl, rfl, (by show (0 : Int) < 2147483629; decide), ?_⟩
    exact q _ (Int.emod_nonneg _ (by decide)) (Int.emod_lt_of_pos _ (by decide))
theorem ok_draw {f fM : Addr} {fd fdM : FuncData} (F : Fun K "_law_draw" "_law_draw" sDR f fd) (T : TB mg) (Mx : Cal K mg "_law_mixed" fM fdM ["cell", "k"]) (GM : FnOk P w K mg base CX0 1 fM fdM ["cell", "k"] spMX) : FnOk P w K mg base CX0 2 f fd ["state", "many"] spDR := by
  refine F.ok scDR (fun vs H Q E h => ?_) (fun cdv A outer s H vs Q E hr h => ?_)
  · obtain ⟨p, c, l, n, many, rfl, _⟩ := h
    rfl
  · obtain ⟨p, c, l, n, many, rfl, M, hn, h0, h1, kk⟩ := h
    obtain ⟨zs, ds, k, hp, hc, hl, hzd, hz0, hz63, hd0, hk0, hkn⟩ := M.ex
    have nd := scDR.nd
    have hu := hu_of hr
    have hr1 : Room 1 _ := hr
    refine ⟨_, pss_cons (ps_set (i := 2) nd rfl (Or.inl rfl) (pe_dget hu (pv 0) pe_str (fun _ _ => rfl)))
      (pss_cons (ps_dput hu (pv 0) pe_str (pe_op op_add (pv 2) pe_int) rfl)
      (pss_cons (ps_set (i := 3) nd rfl (Or.inl rfl) (pe_op op_mod (pv 2) (pe_callB call_len_seq (by rfl) T.len PySem.boot_len (pa_cons (pe_dget hu (pv 0) pe_str (fun _ _ => rfl)) pa_nil))))
      (pss_cons (ps_set (i := 4) nd rfl (Or.inl rfl) (pe_ix ix_list (pe_dget hu (pv 0) pe_str (fun _ _ => rfl)) (pv 3) (fun _ _ => rfl)))
      (pss_cons (ps_if (pt_cmpR op_gt (pv 4) pe_int (nomark _)) (pss_cons (ps_asg (pe_op op_fdiv (pv 4) (pv 1)) (pg_sub (pe_dget hu (pv 0) pe_str (fun _ _ => rfl)) (pv 3) set_list))
      (pss_one (ps_ret (pe_op op_mod (pv 4) (pv 1))))) pss_nil)
      (pss_cons (ps_set (i := 5) nd rfl (Or.inl rfl) (pe_call GM hr1 rfl Mx.g Mx.kp Mx.b .nil pass0 (pa_cons (pe_call GM hr1 rfl Mx.g Mx.kp Mx.b .nil pass0 (pa_cons (pe_ix ix_list (pe_dget hu (pv 0) pe_str (fun _ _ => rfl)) (pv 3) (fun _ _ => rfl)) (pa_cons (pv 2) pa_nil))) (pa_cons (pe_op op_add pe_int (pv 2)) pa_nil))))
      (pss_one (ps_ret (pe_op op_mod (pe_op op_fdiv (pe_op op_add (pe_op op_mul (pv 5) pe_int) (pe_call GM hr1 rfl Mx.g Mx.kp Mx.b .nil pass0 (pa_cons (pv 5) (pa_cons (pe_op op_add pe_int (pv 2)) pa_nil)))) pe_int) (pv 1))))))))), ?_⟩
    have npc : p ≠ c := ne_of hp hc (by intro z; cases z)
    have npl : p ≠ l := ne_of hp hl (by intro z; cases z)
    refine ⟨_, rfl, p, _, rfl, gTL hp, ?_⟩
    refine ⟨_, rfl, _, _, rfl, rfl, _, rfl, p, _, rfl, pTL hp, ?_⟩
    have hp1 : (upd H p (.dK (mkL c l (k + 1)))) p = some (.dK (mkL c l (k + 1))) := upd_same
    have hc1 : (upd H p (.dK (mkL c l (k + 1)))) c = some (.lst (zs.map V.int)) := (upd_ne (Ne.symm npc)).trans hc
    have hl1 : (upd H p (.dK (mkL c l (k + 1)))) l = some (.lst (ds.map V.int)) := (upd_ne (Ne.symm npl)).trans hl
    have e1 : ExtL p l H (upd H p (.dK (mkL c l (k + 1)))) := fun b o hb _ e => (upd_ne hb).trans e
    generalize upd H p (.dK (mkL c l (k + 1))) = H1 at hp1 hc1 hl1 e1
    have zl : (zs.map V.int).length = zs.length := List.length_map _
    refine ⟨_, rfl, _, rfl, p, _, rfl, gCL hp1, c, _, rfl, .inl (SqL.of hc1), _, _, rfl, rfl, (by show (0 : Int) < ((zs.map V.int).length : Nat); rw [zl]; omega), ?_⟩
    dsimp only
    rw [zl]
    have i0 : 0 ≤ k % ((zs.length : Nat) : Int) := Int.emod_nonneg _ (by omega)
    have i1 : k % ((zs.length : Nat) : Int) < ((zs.length : Nat) : Int) := Int.emod_lt_of_pos _ (by omega)
    generalize k % ((zs.length : Nat) : Int) = i at i0 i1
    obtain ⟨j, d, ej, hj, hd, ad⟩ := int_at (zs := ds) i0 (by rw [← hzd]; exact i1)
    obtain ⟨_, z, _, _, _, az⟩ := int_at (zs := zs) i0 i1
    subst ej
    refine ⟨_, rfl, p, _, rfl, gFL hp1, _, rfl, l, _, _, _, rfl, rfl, SqL.of hl1, ad, ?_⟩
    have fin : ∀ {H' : Hp} {ds' : List Int}, H' p = some (.dK (mkL c l (k + 1))) → H' c = some (.lst (zs.map V.int)) → H' l = some (.lst (ds'.map V.int)) → zs.length = ds'.length → (∀ d ∈ ds', 0 ≤ d) → ML H' p c l (n + 1) := fun {H' ds'} a1 a2 a3 a4 a5 => ⟨⟨zs, ds', k + 1, a1, a2, a3, a4, hz0, hz63, a5, by omega, by omega⟩, M.ne, by omega⟩
    have dn := hd0 d (List.mem_of_getElem? hd)
    refine ⟨_, rfl, _, _, rfl, rfl, _, rfl, ite2 (fun hb => ?_) (fun _ => ?_)⟩
    · have ix : ixN (ds.map V.int).length ((j : Nat) : Int) = some j := ix_nat (by rw [List.length_map]; exact hj)
      refine ⟨_, rfl, _, rfl, _, _, rfl, rfl, ⟨h0, h1⟩, _, rfl, p, _, rfl, gFL hp1, _, rfl, l, _, _, j, rfl, rfl, hl1, ix, ?_⟩
      have es : (ds.map V.int).set j (V.int (d / many)) = (ds.set j (d / many)).map V.int := (List.map_set).symm
      rw [es]
      have e2 : ExtL p l H (upd H1 l (.lst ((ds.set j (d / many)).map V.int))) := fun b o hb hl' e => (upd_ne hl').trans (e1 b o hb hl' e)
      refine ⟨_, rfl, _, rfl, _, _, rfl, rfl, h0, ?_⟩
      refine kk _ _ (fin (ds' := ds.set j (d / many)) ((upd_ne npl).trans hp1) ((upd_ne M.ne).trans hc1) upd_same (by rw [List.length_set]; exact hzd) fun x hx => ?_) e2 (Int.emod_nonneg _ (by omega)) (Int.emod_lt_of_pos _ h0)
      rcases List.mem_or_eq_of_mem_set hx with h | h
      · exact hd0 x h
      · rw [h]
        exact Int.ediv_nonneg dn (Int.le_of_lt h0)
    · refine ⟨_, rfl, p, _, rfl, gCL hp1, _, rfl, c, _, _, _, rfl, rfl, SqL.of hc1, az, _, rfl, z, k, rfl, hk0, by omega, fun r r0 r1 => ?_⟩
      refine ⟨_, rfl, _, _, rfl, rfl, r, 40 + k, rfl, by omega, by omega, fun g g0 g1 => ?_⟩
      refine ⟨_, rfl, _, _, rfl, rfl, .inr ⟨by decide, by decide⟩, _, rfl, _, rfl, _, _, rfl, rfl, g, 7 + k, rfl, by omega, by omega, fun q q0 q1 => ?_⟩
      refine ⟨_, _, rfl, rfl, _, _, rfl, rfl, ⟨by decide, by decide⟩, _, rfl, _, _, rfl, rfl, h0, ?_⟩
      exact kk _ _ (fin hp1 hc1 hl1 hzd hd0) e1 (Int.emod_nonneg _ (by omega)) (Int.emod_lt_of_pos _ h0)
end
end One
end P_S1

section P_S2
set_option linter.all false
set_option maxRecDepth 100000
set_option maxHeartbeats 8000000
namespace One
open PySem PySem.Spec PyProof.Rows L2
theorem dp_ints {K : PySem.W.Frag} {H : Hp} : ∀ ns : List Int, DpAll K H (ns.map V.int) (ns.map PyData.int)
  | [] => .nil
  | x :: r => .cons (.int x) (dp_ints r)
theorem ints_depth : ∀ ns : List Int, PyData.depthAll (ns.map PyData.int) = 0
  | [] => rfl
  | x :: r => by
    show max 0 (PyData.depthAll (r.map PyData.int)) = 0
    rw [ints_depth r]
    rfl
theorem ints_lay : ∀ ns : List Int, PyData.canLayAll0 (ns.map PyData.int) = true
  | [] => rfl
  | x :: r => by
    show (PyData.canLay0 (.int x) && PyData.canLayAll0 (r.map PyData.int)) = true
    rw [ints_lay r]
    rfl
theorem ints_shaped (ns : List Int) : SeqAt.shaped (.list (ns.map PyData.int)) = true := by
  unfold SeqAt.shaped
  have h1 : PyData.canLay0 (.list (ns.map PyData.int)) = true := ints_lay ns
  have h2 : PyData.depth (.list (ns.map PyData.int)) ≤ 64 := by
    show PyData.depthAll (ns.map PyData.int) + 1 ≤ 64
    rw [ints_depth]
    decide
  rw [h1, decide_eq_true h2]
  rfl
theorem nats_ne (ns : List Nat) : PyData.eqv (.list ((ns.map fun x => ((x : Nat) : Int)).map PyData.int)) (.list []) = ns.isEmpty := by
  cases ns <;> rfl
theorem ML.apart {H : Hp} {p a l q : Addr} {n : Nat} (M : ML H p a l n) (h : H q = none) : q ≠ p ∧ q ≠ l := by
  obtain ⟨zs, ds, k, h1, h2, h3, _⟩ := M.ex
  exact ⟨fun z => (by rw [z, h1] at h; cases h), fun z => (by rw [z, h3] at h; cases h)⟩
/-- a list made since is written -/
theorem ML.wrN {H0 H : Hp} {p a l q : Addr} {n0 n : Nat} {o : HO} (M0 : ML H0 p a l n0) (h0 : H0 q = none) (M : ML H p a l n) : ML (upd H q o) p a l n := by
  obtain ⟨zs, ds, k, g1, g2, g3, _⟩ := M0.ex
  obtain ⟨zs', ds', k', h1, h2, h3, r⟩ := M.ex
  exact ⟨⟨zs', ds', k', (upd_ne (ne_of_none g1 h0)).trans h1, (upd_ne (ne_of_none g2 h0)).trans h2, (upd_ne (ne_of_none g3 h0)).trans h3, r⟩, M.ne, M.nn⟩
theorem ExtL.wr {p l q : Addr} {H H' : Hp} {o : HO} (e : ExtL p l H H') (h : H q = none) : ExtL p l H (upd H' q o) := fun b u hb hl hu => by
  rw [upd_ne (ne_of_none hu h)]
  exact e b u hb hl hu
abbrev sOR : Stmt := top 63
abbrev nOR : List Str := ["state", "size", "left", "found"]
theorem scOR : FnScope nOR ["state", "size"] (defScope sOR) := ⟨rfl, rfl, rfl, by decide +kernel, rfl, by decide +kernel, by decide +kernel⟩
def spOR : Sp := fun vs H Q _ => ∃ (p a l : Addr) (n size : Nat), vs = [.ref p, .int (size : Nat)] ∧ ML H p a l n ∧ size ≤ 1000 ∧ n + size ≤ 1000000 ∧
  ∀ (H' : Hp) (b : Addr) (ms : List Nat), ML H' p a l (n + size) → ExtL p l H H' → H b = none → H' b = some (.lst (nats ms)) → ms.Perm (List.range size) → Q (.ref b) H'
section
variable {P : Program} {w : World} {K : PySem.W.Frag} {mg : Str → Option Value} {base : Heap}
theorem ok_order {f fN : Addr} {fd fdN : FuncData} (F : Fun K "_law_order" "_law_order" sOR f fd) (T : TB mg) (N : Cal K mg "_law_draw" fN fdN ["state", "many"]) (GN : FnOk P w K mg base CX0 2 fN fdN ["state", "many"] spDR) : FnOk P w K mg base CX0 3 f fd ["state", "size"] (spOR) := by
  refine F.ok scOR (fun vs H Q E h => ?_) (fun cdv A outer s H vs Q E hr h => ?_)
  · obtain ⟨p, a, l, n, size, rfl, _⟩ := h
    rfl
  · obtain ⟨p, a, l, n, size, rfl, M, h1000, hn, k⟩ := h
    obtain ⟨ns, ens, lns⟩ : ∃ ns, ns = List.range size ∧ ns.length = size := ⟨_, rfl, List.length_range⟩
    have nd := scOR.nd
    have hu2 : (A.deeper (envOfC "_law_order" (defScope sOR) s.heap.objs.size f cdv)).units + 64 < cLine := hr.units
    refine ⟨_, C8.pss_cut (ps_par (i := 2) (j := 3) (by rfl) nd rfl rfl (by decide) rfl rfl (pa_cons (pe_listRg (by rfl) (by rfl) T.list (prg_1 (by rfl) T.range (pv 1))) (pa_cons (pe_lst pa_nil) pa_nil)) (by rfl))
      (pss_cons (ps_while PassesOwn.never (pt_cmpR (op_neD (by exact hu2)) (pv 2) (pe_lst pa_nil) (nomark _))
        (pss_one (ps_expr (pe_bm PySem.F.plainAttrs_list PySem.F.slot_list_append PySem.F.type_list_append mt_append (pv 3) (pa_cons (pe_bm PySem.F.plainAttrs_list PySem.F.slot_list_pop PySem.F.type_list_pop mt_popAt (pv 2) (pa_cons (pe_call GN hr rfl N.g N.kp N.b .nil pass0 (pa_cons (pv 0) (pa_cons (pe_callB call_len_seq (by rfl) T.len PySem.boot_len (pa_cons (pv 2) pa_nil)) pa_nil))) pa_nil)) pa_nil)))))
      (pss_one (ps_ret (pv 3)))), ?_⟩
    refine ⟨fun σ H2 => ∃ (b c : Addr) (left done : List Nat) (n' : Nat), σ = [some (.ref p), some (.int (size : Nat)), some (.ref b), some (.ref c)] ∧ H b = none ∧ H c = none ∧ b ≠ c ∧ H2 b = some (.lst (nats left)) ∧ H2 c = some (.lst (nats done)) ∧ (left ++ done).Perm ns ∧ ML H2 p a l n' ∧ n' + left.length = n + ns.length ∧ ExtL p l H H2, ?_, ?_⟩
    · refine ⟨_, rfl, _, rfl, RgOk.of_le (by omega) (by omega) (by omega) (by omega), ?_⟩
      rw [nats_range, ← ens]
      refine fun b hb => ⟨Nat.zero_le _, fun c hc => ⟨_, _, rfl, ?_⟩⟩
      have s1 := Same.new (o := .lst (nats ns)) hb
      have s2 := Same.new (o := .lst []) hc
      have hbc : b ≠ c := ne_of_none upd_same hc
      exact ⟨b, c, ns, [], n, rfl, hb, s1.free hc, hbc, s2 _ _ upd_same, upd_same, by rw [List.append_nil], M.keep (s1.trans s2), rfl, ExtL.same (s1.trans s2)⟩
    · rintro σ0 H0 ⟨b, c, left0, done0, n0, rfl, hb, hc, hbc, hb0, hc0, hp0, M0, hn0, e0⟩
      unfold tSeq
      refine while_by (fun σ H2 => ∃ (left done : List Nat) (n' : Nat), σ = [some (.ref p), some (.int (size : Nat)), some (.ref b), some (.ref c)] ∧ H2 b = some (.lst (nats left)) ∧ H2 c = some (.lst (nats done)) ∧ (left ++ done).Perm ns ∧ ML H2 p a l n' ∧ n' + left.length = n + ns.length ∧ ExtL p l H H2)
        (fun σ H2 => match H2 b with
          | some (.lst xs) => xs.length
          | _ => 0) ⟨left0, done0, n0, rfl, hb0, hc0, hp0, M0, hn0, e0⟩ ?_ ?_
      · rintro σ H2 ⟨left, done, n', rfl, hb2, hc2, hp2, M2, hn2, e2⟩
        refine ⟨_, rfl, Nat.zero_le _, fun z hz => ?_⟩
        have sz := Same.new (o := .lst []) hz
        have hb3 := sz _ _ hb2
        have hc3 := sz _ _ hc2
        have M3 := M2.keep sz
        have e3 := e2.trans (ExtL.same sz)
        have ll : (left ++ done).length = ns.length := hp2.length_eq
        rw [List.length_append] at ll
        refine ⟨.list ((left.map fun x => ((x : Nat) : Int)).map PyData.int), .list [], (by
          refine .lst (SqL.of hb3) ?_
          rw [nats_ints]
          exact dp_ints _), .lst (SqL.of upd_same) .nil, ints_shaped _, rfl, _, rfl, ?_⟩
        rw [nats_ne]
        generalize hH3 : upd H2 z (.lst []) = H3 at hb3 hc3 M3 e3
        have mu : (match H2 b with
          | some (.lst xs) => xs.length
          | _ => 0) = left.length := by
          rw [hb2]
          exact List.length_map _
        cases left with
        | nil =>
          refine iteF ⟨_, rfl, k _ c done (M3.lt (by
            have : n' + ([] : List Nat).length = n + ns.length := hn2
            rw [List.length_nil] at this
            omega) (by omega)) e3 hc hc3 (ens ▸ hp2)⟩
        | cons x0 r0 =>
          have nlen : (nats (x0 :: r0)).length = (x0 :: r0).length := List.length_map _
          have hpos : 0 < (x0 :: r0).length := Nat.succ_pos _
          have nn : n' + (x0 :: r0).length = n + ns.length := hn2
          refine iteT ⟨_, rfl, .inl ⟨rfl, _, SqL.of hc3⟩, _, rfl, .inl ⟨rfl, _, SqL.of hb3⟩, _, rfl, _, rfl, b, _, rfl, .inl (SqL.of hb3), p, a, l, n', _, rfl, M3, by omega, by omega, by omega, fun H4 r M4 e4 q0 q1 => ?_⟩
          obtain ⟨j, rfl⟩ : ∃ j : Nat, r = (j : Nat) := ⟨r.toNat, by omega⟩
          rw [nlen] at q1
          have hj : j < (x0 :: r0).length := by omega
          obtain ⟨nbp, nbl⟩ := M.apart hb
          obtain ⟨ncp, ncl⟩ := M.apart hc
          have hb4 := e4 _ _ nbp nbl hb3
          have hc4 := e4 _ _ ncp ncl hc3
          obtain ⟨x, hx⟩ : ∃ x, (x0 :: r0)[j]? = some x := ⟨_, List.getElem?_eq_getElem hj⟩
          have hj' : seqIndex? ((j : Nat) : Int) (nats (x0 :: r0)).length = some j := seq_ix (by rw [nlen]; exact hj)
          refine ⟨b, _, _, j, _, rfl, rfl, hb4, by omega, by omega, hj', nats_at hx, ?_⟩
          rw [nats_erase]
          have M5 : ML (upd H4 b (.lst (nats ((x0 :: r0).eraseIdx j)))) p a l (n' + 1) := ML.wrN M hb M4
          have hc5 : (upd H4 b (.lst (nats ((x0 :: r0).eraseIdx j)))) c = some (.lst (nats done)) := (upd_ne (Ne.symm hbc)).trans hc4
          have e5 : ExtL p l H (upd H4 b (.lst (nats ((x0 :: r0).eraseIdx j)))) := (e3.trans e4).wr hb
          have hb5 : (upd H4 b (.lst (nats ((x0 :: r0).eraseIdx j)))) b = some (.lst (nats ((x0 :: r0).eraseIdx j))) := upd_same
          generalize upd H4 b (.lst (nats ((x0 :: r0).eraseIdx j))) = H5 at M5 hc5 e5 hb5
          refine ⟨c, _, _, rfl, rfl, hc5, small1000 (by rw [List.length_map]; omega), ?_⟩
          have hper := erase_perm hx
          have hle : ((x0 :: r0).eraseIdx j).length + 1 = (x0 :: r0).length := by
            have : (x0 :: r0).length = ((x0 :: r0).eraseIdx j).length + 1 := hper.length_eq
            omega
          refine ⟨⟨(x0 :: r0).eraseIdx j, done ++ [x], n' + 1, rfl, (upd_ne hbc).trans hb5, ?_, ?_, ML.wrN M hc M5, by omega, e5.wr hc⟩, ?_⟩
          · rw [upd_same, nats_app]
            rfl
          · refine List.Perm.trans ?_ hp2
            refine List.Perm.trans ?_ (List.Perm.append_right _ hper.symm)
            show ((x0 :: r0).eraseIdx j ++ (done ++ [x])).Perm (x :: ((x0 :: r0).eraseIdx j ++ done))
            rw [← List.append_assoc]
            exact List.perm_append_comm
          · rw [mu]
            show (match (upd H5 c (.lst (nats done ++ [V.int (x : Nat)]))) b with
              | some (.lst xs) => xs.length
              | _ => 0) < _
            rw [upd_ne hbc, hb5]
            show (nats ((x0 :: r0).eraseIdx j)).length < _
            rw [List.length_map]
            omega
      · intro σ H1 Q1 Q2 hq h
        obtain ⟨v, e1, e2, h⟩ := h
        refine ⟨v, e1, e2, fun z hz => ?_⟩
        obtain ⟨d, e, h1, h2, h3, h4, kk, h5, q⟩ := h z hz
        exact ⟨d, e, h1, h2, h3, h4, kk, h5, hq _ _ q⟩
end
end One
end P_S2

section P_S3
set_option linter.all false
set_option maxRecDepth 100000
set_option maxHeartbeats 8000000
namespace One
open PySem PySem.Spec PyProof.Rows L2
abbrev sBG : Stmt := top 61
abbrev nBG : List Str := ["script", "cells", "cell"]
theorem scBG : FnScope nBG ["script"] (defScope sBG) := ⟨rfl, rfl, rfl, by decide +kernel, rfl, by decide +kernel, by decide +kernel⟩
def spBG (K : PySem.W.Frag) : Sp := fun vs H Q _ => ∃ (a : Addr) (ns : List Int), vs = [.ref a] ∧ SqL K H a (ns.map V.int) ∧ ns.length ≤ 63 ∧
  ∀ (H' : Hp) (p c l : Addr), Same H H' → H p = none → H c = none → H l = none → ML H' p c l 0 → Q (.ref p) H'
def tIfI : TE := tIf (tTest (tOp (rI0 fun i j => .bl (decide (j ≤ i))) (tVar 2) (tOp (rI CPow fun i j => .int (i ^ j.toNat)) (tC (.int 10)) (tC (.int 18))))) (tVar 2) (tC (.int 0))
section
variable {P : Program} {w : World} {K : PySem.W.Frag} {mg : Str → Option Value} {base : Heap}
theorem ok_begin {f : Addr} {fd : FuncData} (F : Fun K "_law_begin" "_law_begin" sBG f fd) (T : TB mg) : FnOk P w K mg base CX0 1 f fd ["script"] (spBG K) := by
  refine F.ok scBG (fun vs H Q E h => ?_) (fun cdv A outer s H vs Q E hr h => ?_)
  · obtain ⟨a, ns, rfl, _⟩ := h
    rfl
  · obtain ⟨a, ns, rfl, hS, hl, k⟩ := h
    have nd := scBG.nd
    have hu : (A.deeper (envOfC "_law_begin" (defScope sBG) s.heap.objs.size f cdv)).units + 64 < cLine := hr.units
    refine ⟨_, pss_cons (ps_set (i := 1) nd rfl (Or.inl rfl) (pe_mid (pe_ifExp (pt_cmpR (op_neD (by exact hu)) (pv 0) (pe_lst pa_nil) (nomark _)) (pe_callTy call_list_of (by rfl) T.list (by decide +kernel) (pa_cons (pv 0) pa_nil) (by decide)) (pe_lst (pa_cons pe_int pa_nil)))))
      (pss_one (ps_ret (pe_disp (pps_cons pe_str (pv 1) (pps_cons pe_str (pe_lc (own := [("cell", 2)]) (g := (gName 2)) (tt := tYes) (te := (tIf (tTest (tOp (rI0 fun i j => .bl (decide (j ≤ i))) (tVar 2) (tOp (rI CPow fun i j => .int (i ^ j.toNat)) (tC (.int 10)) (tC (.int 18))))) (tVar 2) (tC (.int 0)))) rfl nd (pi_list (pv 1)) (blkOk_by (N := nBG) (sc := defScope sBG) (by decide +kernel)) (fun _ _ _ _ _ => pg_name (i := 2) nd rfl (Or.inl rfl)) (fun _ _ _ _ _ => pts_nil) (fun _ _ _ _ _ => by exact (pe_ifExp (pt_cmpR op_ge (pv 2) (pe_op op_pow pe_int pe_int) (nomark _)) (pv 2) pe_int))) (pps_cons pe_str pe_int pps_nil))) (by rfl) (by rfl) (fun z => by cases z) (by decide)))), ?_⟩
    refine ⟨fun v H1 => ∃ (c : Addr) (zs : List Int), v = .ref c ∧ H c = none ∧ H1 c = some (.lst (zs.map V.int)) ∧ 0 < zs.length ∧ zs.length ≤ 63 ∧ Same H H1, ?_, ?_⟩
    · refine ⟨_, rfl, Nat.zero_le _, fun l0 hl0 => ?_⟩
      have s0 := Same.new (o := .lst []) hl0
      have hS0 := s0.seq hS
      refine ⟨.list (ns.map PyData.int), .list [], .lst hS0 (dp_ints ns), .lst (SqL.of upd_same) .nil, ints_shaped ns, rfl, _, rfl, ?_⟩
      cases ns with
      | nil =>
        refine iteF ⟨by show 1 ≤ sizeLine; decide, fun c hc => ⟨c, [0], rfl, s0.free hc, upd_same, Nat.one_pos, by show 1 ≤ 63; decide, s0.trans (Same.new hc)⟩⟩
      | cons x r =>
        refine iteT ⟨_, rfl, a, _, rfl, .inl hS0, fun c hc => ⟨c, x :: r, rfl, s0.free hc, upd_same, Nat.succ_pos _, hl, s0.trans (Same.new hc)⟩⟩
    · rintro v H1 ⟨c, zs, rfl, hc0, hc, hz0, hz63, s1⟩
      refine fun p hp => ?_
      have sp := Same.new (o := .dK []) hp
      have hp1 : (upd H1 p (.dK [])) p = some (.dK []) := upd_same
      have hc1 := sp _ _ hc
      have s1p := s1.trans sp
      have hp0 := s1.free hp
      generalize upd H1 p (.dK []) = H2 at hp1 hc1 s1p
      refine ⟨_, rfl, _, rfl, c, rfl, ⟨_, SqL.of hc1⟩, fun D hD => ?_⟩
      have sD := Same.new (o := .lst []) hD
      refine lc_it (walk_list (K := K) (a := c) (xs := zs.map V.int)) (fun i H6 => ∃ ds : List Int, ds.length = i ∧ H6 D = some (.lst (ds.map V.int)) ∧ (∀ d ∈ ds, 0 ≤ d) ∧ Same H2 H6) ⟨[], rfl, upd_same, fun d h => absurd h (by simp), sD⟩ (fun i H6 _ ⟨_, _, _, _, s'⟩ => SqL.of (s' _ _ hc1)) ?_ ?_
      · rintro i x H6 H7 hi ⟨ds, ld, h6, d6, s6⟩ ⟨rfl, hx⟩
        have hx : (zs.map V.int)[i]? = some x := hx
        rw [List.length_map] at hi
        rw [List.getElem?_map, List.getElem?_eq_getElem hi] at hx
        cases hx
        generalize zs[i] = z
        have fin : ∀ d : Int, 0 ≤ d → ∃ acc, H7 D = some (.lst acc) ∧ acc.length < sizeLine ∧ ∃ ds' : List Int, ds'.length = i + 1 ∧ (upd H7 D (.lst (acc ++ [V.int d]))) D = some (.lst (ds'.map V.int)) ∧ (∀ d ∈ ds', 0 ≤ d) ∧ Same H2 (upd H7 D (.lst (acc ++ [V.int d]))) := fun d hd => by
          refine ⟨_, h6, small1000 (by rw [List.length_map]; omega), ds ++ [d], by rw [List.length_append, ld]; rfl, ?_, fun q hq => ?_, fun b o e => ?_⟩
          · rw [upd_same, List.map_append]
            rfl
          · rcases List.mem_append.mp hq with h | h
            · exact d6 q h
            · rw [List.mem_singleton.mp h]
              exact hd
          · rw [upd_ne (ne_of_none e hD)]
            exact s6 _ _ e
        refine ⟨rfl, yes ⟨_, rfl, _, _, rfl, rfl, ⟨by decide, by decide, by decide⟩, _, _, rfl, rfl, _, rfl, ite2 (fun hb => ?_) (fun _ => ?_)⟩⟩
        · have hz : (10 : Int) ^ (18 : Int).toNat ≤ z := of_decide_eq_true hb
          exact ⟨_, rfl, fin z (Int.le_trans (by decide) hz)⟩
        · exact fin 0 (Int.le_refl _)
      · rintro H6 ⟨ds, ld, h6, d6, s6⟩
        rw [List.length_map] at ld
        have hp6 := s6 _ _ hp1
        have hc6 := s6 _ _ hc1
        refine ⟨hp6, [(kC, .ref c), (kF, .ref D), (kT, .int 0)], rfl, by show 3 ≤ 15; decide, ?_⟩
        have ncp : c ≠ p := ne_of hc6 hp6 (by intro z; cases z)
        have nDp : D ≠ p := ne_of h6 hp6 (by intro z; cases z)
        have ncD : c ≠ D := ne_of_none hc1 hD
        have s7 : Same H (upd H6 p (.dK (mergeK [] [(kC, V.ref c), (kF, .ref D), (kT, .int 0)]))) := fun b o e => by
          rw [upd_ne (ne_of_none e hp0)]
          exact s6 _ _ (s1p _ _ e)
        exact k _ p c D s7 hp0 hc0 (s1p.free hD) ⟨⟨zs, ds, 0, by rw [upd_same, mkL_make], (upd_ne ncp).trans hc6, (upd_ne nDp).trans h6, ld.symm, hz0, hz63, d6, Int.le_refl _, Int.le_refl _⟩, ncD, by decide⟩
end
end One
end P_S3

section P_S4
set_option linter.all false
set_option maxRecDepth 100000
set_option maxHeartbeats 8000000
namespace One
open PySem PySem.Spec PyProof.Rows L2
abbrev sAC : Stmt := top 64
abbrev nAC : List Str := ["lines", "many", "one", "other", "base", "kept", "begin", "end", "start", "stop", "number", "line"]
theorem scAC : FnScope nAC ["lines", "many", "one", "other"] (defScope sAC) := ⟨rfl, rfl, rfl, by decide +kernel, rfl, by decide +kernel, by decide +kernel⟩
def spAC : Sp := fun vs H Q _ => ∃ (L : Addr) (as : List Addr) (ps : List (Nat × Nat)) (n i j : Nat) (a b : Nat × Nat), vs = [.ref L, .int (n : Nat), .int (i : Nat), .int (j : Nat)] ∧ H L = some (.lst (refs as)) ∧ PL H as ps ∧ ps.length ≤ 200 ∧ ps[i]? = some a ∧ ps[j]? = some b ∧
  ∀ (H' : Hp) (L' : Addr) (bs : List Addr), Same H H' → H L' = none → H' L' = some (.lst (refs bs)) → PL H' bs (putOn n ps i j a b) → Q (.ref L') H'
section
variable {P : Program} {w : World} {K : PySem.W.Frag} {mg : Str → Option Value} {base : Heap}
theorem ok_across {f : Addr} {fd : FuncData} (F : Fun K "_law_across" "_law_across" sAC f fd) (T : TB mg) : FnOk P w K mg base CX0 1 f fd ["lines", "many", "one", "other"] spAC := by
  refine F.ok scAC (fun vs H Q E h => ?_) (fun cdv A outer s H vs Q E hr h => ?_)
  · obtain ⟨L, as, ps, n, i, j, a, b, rfl, _⟩ := h
    rfl
  · obtain ⟨L, as, ps, n, i, j, a, b, rfl, hL, hP, h200, ha, hb, k⟩ := h
    have nd := scAC.nd
    refine ⟨_, pss_cons (ps_set (i := 4) nd rfl (Or.inl rfl) (pe_op op_mul pe_int (pv 1)))
      (pss_cons (ps_setLc (i := 5) (own := [("number", 10), ("line", 11)]) (g := (gTup K 2 (gCons (gName 10) (gCons (gName 11) gNil)))) (tt := (tAnd (tTest (tOp rNe (tVar 10) (tVar 2))) (tTest (tOp rNe (tVar 10) (tVar 3))))) (te := (tVar 11)) rfl nd rfl rfl (sw_true rfl rfl rfl (by decide +kernel)) (pi_enum (by rfl) T.enumerate (pa_cons (pv 0) pa_nil)) (blkOk_by (N := nAC) (sc := defScope sAC) (by decide +kernel)) (fun _ _ _ _ _ => pg_tup rfl (pgs_cons (pg_name (i := 10) nd rfl (Or.inl rfl)) (pgs_cons (pg_name (i := 11) nd rfl (Or.inl rfl)) pgs_nil))) (fun _ _ _ _ _ => pts_one (PW.pt (pw_and (pt_cmpR op_ne (pv 10) (pv 2) (nomark _)) (pw_and1 (pt_cmpR op_ne (pv 10) (pv 3) (nomark _)))))) (fun _ _ _ _ _ => by exact (pv 11)))
      (pss_cons (ps_asg (pe_ix ix_list (pv 0) (pv 2) (fun _ _ => rfl)) (pg_tup rfl (pgs_cons (pg_name (i := 6) nd rfl (Or.inl rfl)) (pgs_cons (pg_name (i := 7) nd rfl (Or.inl rfl)) pgs_nil))))
      (pss_cons (ps_asg (pe_ix ix_list (pv 0) (pv 3) (fun _ _ => rfl)) (pg_tup rfl (pgs_cons (pg_name (i := 8) nd rfl (Or.inl rfl)) (pgs_cons (pg_name (i := 9) nd rfl (Or.inl rfl)) pgs_nil))))
      (pss_cons (ps_if (pt_cmpR op_eq (pv 2) (pv 3) (nomark _)) (pss_one (ps_ret (pe_op op_catS (pv 5) (pe_lst (pa_cons (pe_tup (pa_cons (pv 6) (pa_cons (pv 4) pa_nil))) (pa_cons (pe_tup (pa_cons (pe_op op_add (pv 4) pe_int) (pa_cons (pe_op op_add (pv 4) pe_int) pa_nil))) (pa_cons (pe_tup (pa_cons (pv 7) (pa_cons (pe_op op_add (pv 4) pe_int) pa_nil))) pa_nil))))))) pss_nil)
      (pss_one (ps_ret (pe_op op_catS (pv 5) (pe_lst (pa_cons (pe_tup (pa_cons (pv 6) (pa_cons (pv 4) pa_nil))) (pa_cons (pe_tup (pa_cons (pv 7) (pa_cons (pe_op op_add (pv 4) pe_int) pa_nil))) (pa_cons (pe_tup (pa_cons (pv 8) (pa_cons (pe_op op_add (pv 4) pe_int) pa_nil))) (pa_cons (pe_tup (pa_cons (pv 9) (pa_cons (pe_op op_add (pv 4) pe_int) pa_nil))) pa_nil)))))))))))), ?_⟩
    have hal := hP.len
    refine ⟨_, rfl, _, _, rfl, rfl, .inl ⟨by decide, by decide⟩, ?_⟩
    refine ⟨_, rfl, L, _, rfl, SqL.of hL, fun D hD => ?_⟩
    have sD := Same.new (o := .lst []) hD
    refine lc_it (walk_enum (K := K) (a := L) (xs := refs as)) (fun k H6 => H6 D = some (.lst (refs (keepIx (notIJ i j) 0 (as.take k)))) ∧ Same H H6) ⟨upd_same, sD⟩ (fun k H6 _ h => SqL.of (h.2 _ _ hL)) ?_ ?_
    · rintro q x H6 H7 hk ⟨hD6, s6⟩ ⟨T', x', y', rfl, hT, rfl, ex, ey⟩
      cases ex
      have hk' : q < as.length := by rw [List.length_map] at hk; exact hk
      have ey : (refs as)[q]? = some y' := ey
      rw [List.getElem?_map, List.getElem?_eq_getElem hk'] at ey
      cases ey
      have s7 := Same.new (o := .tup [V.int (q : Nat), V.ref as[q]]) hT
      have hsn : keepIx (notIJ i j) 0 (as.take (q + 1)) = keepIx (notIJ i j) 0 (as.take q) ++ (if notIJ i j q then [as[q]] else []) := by
        rw [List.take_succ, List.getElem?_eq_getElem hk', Option.toList_some, keepIx_snoc, List.length_take, Nat.zero_add, Nat.min_eq_left (Nat.le_of_lt hk')]
      have hD7 := s7 _ _ hD6
      have s17 := s6.trans s7
      have dn : ∀ z : Nat, decide (V.int (q : Nat) = V.int (z : Nat)) = decide (q = z) := fun z => decide_eq_decide.mpr ⟨fun e => by
        have := V.int.inj e
        omega, fun e => by rw [e]⟩
      refine ⟨T', _, rfl, SqT.of upd_same, rfl, _, _, rfl, _, _, rfl, rfl, rfl, _, rfl, _, rfl, rfl, _, rfl, ?_⟩
      rw [dn]
      have yesk : notIJ i j q = true → ∃ acc, (upd H6 T' (.tup [V.int (q : Nat), V.ref as[q]])) D = some (.lst acc) ∧ acc.length < sizeLine ∧ (upd (upd H6 T' (.tup [V.int (q : Nat), V.ref as[q]])) D (.lst (acc ++ [V.ref as[q]]))) D = some (.lst (refs (keepIx (notIJ i j) 0 (as.take (q + 1))))) ∧ Same H (upd (upd H6 T' (.tup [V.int (q : Nat), V.ref as[q]])) D (.lst (acc ++ [V.ref as[q]]))) := fun hb => by
        refine ⟨_, hD7, small1000 ?_, ?_, fun b o e => ?_⟩
        · rw [List.length_map]
          have := keepIx_length_le (notIJ i j) 0 (as.take q)
          rw [List.length_take] at this
          omega
        · rw [upd_same, hsn, if_pos hb, refs_app]
          rfl
        · rw [upd_ne (ne_of_none e hD)]
          exact s17 _ _ e
      have nok : ¬ notIJ i j q = true → (upd H6 T' (.tup [V.int (q : Nat), V.ref as[q]])) D = some (.lst (refs (keepIx (notIJ i j) 0 (as.take (q + 1))))) ∧ Same H (upd H6 T' (.tup [V.int (q : Nat), V.ref as[q]])) := fun hb => by
        refine ⟨?_, s17⟩
        rw [hsn, if_neg hb, List.append_nil]
        exact hD7
      unfold notIJ at yesk nok
      cases h1 : decide (q = i) with
      | true =>
        rw [h1] at nok
        exact iteF (iteF (nok (by simp)))
      | false =>
        refine iteT ⟨_, rfl, _, rfl, rfl, _, rfl, ?_⟩
        rw [dn]
        cases h2 : decide (q = j) with
        | true =>
          rw [h1, h2] at nok
          exact iteF (nok (by simp))
        | false =>
          rw [h1, h2] at yesk
          exact iteT ⟨_, rfl, yesk (by simp)⟩
    · rintro H6 ⟨hD6, s6⟩
      have e6 : as.take (refs as).length = as := by rw [List.length_map, List.take_length]
      rw [e6] at hD6
      have hL6 := s6 _ _ hL
      have hP6 := hP.mono (sameT s6)
      have lk := keepIx_length_le (notIJ i j) 0 as
      obtain ⟨a1, ha1, pa1⟩ := hP6.get ha
      obtain ⟨b1, hb1, pb1⟩ := hP6.get hb
      have hK6 := hP6.keep (notIJ i j) 0
      refine ⟨_, rfl, _, rfl, L, _, _, V.ref a1, rfl, rfl, SqL.of hL6, ref_at ha1, a1, _, rfl, SqT.of pa1, rfl, _, _, rfl, _, _, rfl, rfl, ?_⟩
      refine ⟨_, rfl, _, rfl, L, _, _, V.ref b1, rfl, rfl, SqL.of hL6, ref_at hb1, b1, _, rfl, SqT.of pb1, rfl, _, _, rfl, _, _, rfl, rfl, ?_⟩
      refine ⟨_, rfl, _, rfl, rfl, _, rfl, ?_⟩
      have lK : (refs (keepIx (notIJ i j) 0 as)).length ≤ 200 := by
        rw [List.length_map]
        omega
      by_cases hij : i = j
      · rw [show decide (V.int (i : Nat) = V.int (j : Nat)) = true from decide_eq_true (by rw [hij])]
        refine iteT ⟨_, rfl, _, rfl, _, rfl, two_le, fun t1 ht1 => ?_⟩
        have u1 := Same.new (o := .tup [V.int (a.1 : Nat), V.int (4 * ((n : Nat) : Int))]) ht1
        refine ⟨_, rfl, _, _, rfl, rfl, _, rfl, _, _, rfl, rfl, two_le, fun t2 ht2 => ?_⟩
        have u2 := Same.new (o := .tup [V.int (4 * ((n : Nat) : Int) + 1), V.int (4 * ((n : Nat) : Int) + 2)]) ht2
        refine ⟨_, rfl, _, rfl, _, _, rfl, rfl, two_le, fun t3 ht3 => ?_⟩
        have u3 := Same.new (o := .tup [V.int (a.2 : Nat), V.int (4 * ((n : Nat) : Int) + 3)]) ht3
        refine ⟨(by show 3 ≤ sizeLine; decide), fun l9 hl9 => ?_⟩
        have u9 := Same.new (o := .lst [V.ref t1, V.ref t2, V.ref t3]) hl9
        have uA := u1.trans (u2.trans (u3.trans u9))
        refine ⟨D, l9, _, _, rfl, rfl, SqL.of (uA _ _ hD6), upd_same, Nat.le_of_lt (small1000 (by show _ + 3 ≤ 1000; omega)), fun lA hlA => ?_⟩
        have uB := Same.new (o := .lst (refs (keepIx (notIJ i j) 0 as) ++ [V.ref t1, V.ref t2, V.ref t3])) hlA
        refine k _ lA (keepIx (notIJ i j) 0 as ++ [t1, t2, t3]) (s6.trans (uA.trans uB)) ((s6.trans uA).free hlA) (by rw [upd_same, refs_app]; rfl) ?_
        unfold putOn fresh
        rw [if_pos hij]
        exact (hK6.mono (sameT (uA.trans uB))).app (.cons (PAt.of (uB _ _ (u9 _ _ (u3 _ _ (u2 _ _ upd_same)))) rfl (by omega)) (.cons (PAt.of (uB _ _ (u9 _ _ (u3 _ _ upd_same))) (by omega) (by omega)) (.cons (PAt.of (uB _ _ (u9 _ _ upd_same)) rfl (by omega)) .nil)))
      · rw [show decide (V.int (i : Nat) = V.int (j : Nat)) = false from decide_eq_false (fun z => hij (by
          have z := V.int.inj z
          omega))]
        refine iteF ⟨_, rfl, _, rfl, _, rfl, two_le, fun t1 ht1 => ?_⟩
        have u1 := Same.new (o := .tup [V.int (a.1 : Nat), V.int (4 * ((n : Nat) : Int))]) ht1
        refine ⟨_, rfl, _, rfl, _, _, rfl, rfl, two_le, fun t2 ht2 => ?_⟩
        have u2 := Same.new (o := .tup [V.int (a.2 : Nat), V.int (4 * ((n : Nat) : Int) + 2)]) ht2
        refine ⟨_, rfl, _, rfl, _, _, rfl, rfl, two_le, fun t3 ht3 => ?_⟩
        have u3 := Same.new (o := .tup [V.int (b.1 : Nat), V.int (4 * ((n : Nat) : Int) + 1)]) ht3
        refine ⟨_, rfl, _, rfl, _, _, rfl, rfl, two_le, fun t4 ht4 => ?_⟩
        have u4 := Same.new (o := .tup [V.int (b.2 : Nat), V.int (4 * ((n : Nat) : Int) + 3)]) ht4
        refine ⟨(by show 4 ≤ sizeLine; decide), fun l9 hl9 => ?_⟩
        have u9 := Same.new (o := .lst [V.ref t1, V.ref t2, V.ref t3, V.ref t4]) hl9
        have uA := u1.trans (u2.trans (u3.trans (u4.trans u9)))
        refine ⟨D, l9, _, _, rfl, rfl, SqL.of (uA _ _ hD6), upd_same, Nat.le_of_lt (small1000 (by show _ + 4 ≤ 1000; omega)), fun lA hlA => ?_⟩
        have uB := Same.new (o := .lst (refs (keepIx (notIJ i j) 0 as) ++ [V.ref t1, V.ref t2, V.ref t3, V.ref t4])) hlA
        refine k _ lA (keepIx (notIJ i j) 0 as ++ [t1, t2, t3, t4]) (s6.trans (uA.trans uB)) ((s6.trans uA).free hlA) (by rw [upd_same, refs_app]; rfl) ?_
        unfold putOn fresh
        rw [if_neg hij]
        exact (hK6.mono (sameT (uA.trans uB))).app (.cons (PAt.of (uB _ _ (u9 _ _ (u4 _ _ (u3 _ _ (u2 _ _ upd_same))))) rfl (by omega)) (.cons (PAt.of (uB _ _ (u9 _ _ (u4 _ _ (u3 _ _ upd_same)))) rfl (by omega)) (.cons (PAt.of (uB _ _ (u9 _ _ (u4 _ _ upd_same))) rfl (by omega)) (.cons (PAt.of (uB _ _ (u9 _ _ upd_same)) rfl (by omega)) .nil))))
end
end One
end P_S4

section P_S5
set_option linter.all false
set_option maxRecDepth 100000
set_option maxHeartbeats 8000000
namespace One
open PySem PySem.Spec PyProof.Rows L2
theorem blocks_at : ∀ {l : List (Nat × List Nat)}, (∀ b ∈ l, b.2.length = 4) → ∀ {i r c : Nat} {ps : List Nat}, l[i]? = some (c, ps) → r < 4 → (blocks l).getD (4 * i + r) 0 = 4 * c + ps.getD r 0
  | [], _, i, r, c, ps, h, _ => by simp at h
  | b :: l, hb, 0, r, c, ps, h, hr => by
    cases Option.some.inj h
    have h4 : ps.length = 4 := hb (c, ps) (List.mem_cons_self ..)
    show (ps.map (fun p => 4 * c + p) ++ blocks l).getD (4 * 0 + r) 0 = _
    rw [Nat.mul_zero, Nat.zero_add, List.getD_eq_getElem?_getD, List.getElem?_append_left (by rw [List.length_map]; omega), List.getElem?_map, List.getElem?_eq_getElem (by omega), List.getD_eq_getElem?_getD, List.getElem?_eq_getElem (by omega)]
    rfl
  | b :: l, hb, i + 1, r, c, ps, h, hr => by
    have h4 : b.2.length = 4 := hb b (List.mem_cons_self ..)
    have ih := blocks_at (l := l) (fun x m => hb x (List.mem_cons_of_mem _ m)) (i := i) (r := r) (c := c) (ps := ps) (by simpa using h) hr
    show (b.2.map (fun p => 4 * b.1 + p) ++ blocks l).getD (4 * (i + 1) + r) 0 = _
    rw [List.getD_eq_getElem?_getD, List.getElem?_append_right (by rw [List.length_map]; omega), List.length_map, h4, show 4 * (i + 1) + r - 4 = 4 * i + r by omega, ← List.getD_eq_getElem?_getD]
    exact ih
/-- lists of numbers, none of them the draws' -/
inductive NLs (p l : Addr) (H : Hp) : List Addr → List (List Nat) → Prop
  | nil : NLs p l H [] []
  | cons {a q as qs} : H a = some (.lst (nats q)) → a ≠ p → a ≠ l → NLs p l H as qs → NLs p l H (a :: as) (q :: qs)
theorem NLs.len {p l : Addr} {H : Hp} {as : List Addr} {qs : List (List Nat)} (h : NLs p l H as qs) : as.length = qs.length := by
  induction h with
  | nil => rfl
  | cons _ _ _ _ ih => simp [ih]
theorem NLs.ext {p l : Addr} {H H' : Hp} {as : List Addr} {qs : List (List Nat)} (h : NLs p l H as qs) (e : ExtL p l H H') : NLs p l H' as qs := by
  induction h with
  | nil => exact .nil
  | cons h1 h2 h3 _ ih => exact .cons (e _ _ h2 h3 h1) h2 h3 ih
theorem NLs.keepN {p l D : Addr} {H : Hp} {o : HO} {as : List Addr} {qs : List (List Nat)} (h : NLs p l H as qs) (hD : D ∉ as) : NLs p l (upd H D o) as qs := by
  induction h with
  | nil => exact .nil
  | cons h1 h2 h3 _ ih => exact .cons ((upd_ne fun z => hD (by rw [z]; exact List.mem_cons_self ..)).trans h1) h2 h3 (ih fun m => hD (List.mem_cons_of_mem _ m))
theorem NLs.app {p l : Addr} {H : Hp} {as bs : List Addr} {qs rs : List (List Nat)} (h : NLs p l H as qs) (k : NLs p l H bs rs) : NLs p l H (as ++ bs) (qs ++ rs) := by
  induction h with
  | nil => exact k
  | cons h1 h2 h3 _ ih => exact .cons h1 h2 h3 ih
theorem NLs.get {p l : Addr} {H : Hp} {as : List Addr} {qs : List (List Nat)} (h : NLs p l H as qs) : ∀ {i : Nat} {q : List Nat}, qs[i]? = some q → ∃ a, as[i]? = some a ∧ H a = some (.lst (nats q)) := by
  induction h with
  | nil => intro i q e; simp at e
  | cons h1 _ _ _ ih =>
    intro i q e
    cases i with
    | zero =>
      cases Option.some.inj e
      exact ⟨_, rfl, h1⟩
    | succ i => exact ih (i := i) (by simpa using e)
theorem ends_of : ∀ {ps : List (Nat × Nat)} {q : Nat × Nat}, q ∈ ps → q.1 ∈ ends ps ∧ q.2 ∈ ends ps
  | [], q, h => absurd h (by simp)
  | r :: ps, q, h => by
    rcases List.mem_cons.mp h with rfl | h
    · exact ⟨by simp [ends], by simp [ends]⟩
    · obtain ⟨a, b⟩ := ends_of h
      exact ⟨by simp [ends, a], by simp [ends, b]⟩
abbrev sYD : Stmt := top 65
abbrev nYD : List Str := ["state", "many", "lines", "number", "one", "other", "calls", "places", "found", "line", "both", "end"]
theorem scYD : FnScope nYD ["state", "many"] (defScope sYD) := ⟨rfl, rfl, rfl, by decide +kernel, rfl, by decide +kernel, by decide +kernel⟩
def spYD : Sp := fun vs H Q _ => ∃ (p a l : Addr) (n many : Nat), vs = [.ref p, .int (many : Nat)] ∧ ML H p a l n ∧ n ≤ 900000 ∧ 0 < many ∧ many ≤ 40 ∧
  ∀ (H' : Hp) (t : Addr) (ps : List (Nat × Nat)), ML H' p a l (n + 7 * many) → ExtL p l H H' → YAt H' t many ps → Q (.ref t) H'
theorem min_low {x y : Nat} {m : Int} (hm : m ∈ [((x : Nat) : Int), ((y : Nat) : Int)]) (hle : ∀ z ∈ [((x : Nat) : Int), ((y : Nat) : Int)], m ≤ z) : m = (((low x y).1 : Nat) : Int) := by
  have h1 := hle ((x : Nat) : Int) (by simp)
  have h2 := hle ((y : Nat) : Int) (by simp)
  simp only [List.mem_cons, List.not_mem_nil, or_false] at hm
  unfold low
  split <;> (simp only; omega)
theorem max_low {x y : Nat} {m : Int} (hm : m ∈ [((x : Nat) : Int), ((y : Nat) : Int)]) (hle : ∀ z ∈ [((x : Nat) : Int), ((y : Nat) : Int)], z ≤ m) : m = (((low x y).2 : Nat) : Int) := by
  have h1 := hle ((x : Nat) : Int) (by simp)
  have h2 := hle ((y : Nat) : Int) (by simp)
  simp only [List.mem_cons, List.not_mem_nil, or_false] at hm
  unfold low
  split <;> (simp only; omega)
section
variable {P : Program} {w : World} {K : PySem.W.Frag} {mg : Str → Option Value} {base : Heap}
theorem ok_yard {f fD fO fA : Addr} {fd fdD fdO fdA : FuncData} (F : Fun K "_law_yard" "_law_yard" sYD f fd) (T : TB mg) (hmin : mg "min" = none) (hmax : mg "max" = none) (D : Cal K mg "_law_draw" fD fdD ["state", "many"]) (GD : FnOk P w K mg base CX0 2 fD fdD ["state", "many"] spDR)
    (O : Cal K mg "_law_order" fO fdO ["state", "size"]) (GO : FnOk P w K mg base CX0 3 fO fdO ["state", "size"] spOR) (Ac : Cal K mg "_law_across" fA fdA ["lines", "many", "one", "other"]) (GA : FnOk P w K mg base CX0 1 fA fdA ["lines", "many", "one", "other"] spAC) : FnOk P w K mg base CX0 4 f fd ["state", "many"] spYD := by
  refine F.ok scYD (fun vs H Q E h => ?_) (fun cdv A outer s H vs Q E hr h => ?_)
  · obtain ⟨p, a, l, n, many, rfl, _⟩ := h
    rfl
  · obtain ⟨p, a, l, n, many, rfl, M, hn, h0, h40, k⟩ := h
    have nd := scYD.nd
    have hr3 : Room 3 _ := hr
    have hr2 : Room 2 _ := hr.mono (by decide)
    have hr1 : Room 1 _ := hr.mono (by decide)
    refine ⟨_, pss_cons (ps_set (i := 2) nd rfl (Or.inl rfl) (pe_lst (pa_cons (pe_tup (pa_cons pe_int (pa_cons pe_int pa_nil))) (pa_cons (pe_tup (pa_cons pe_int (pa_cons pe_int pa_nil))) pa_nil))))
      (pss_cons (ps_for PassesOwn.never rfl (pi_range2 (by rfl) T.range (pa_cons pe_int (pa_cons (pv 1) pa_nil))) (pg_name (i := 3) nd rfl (Or.inl rfl))
        (pss_cons (ps_par (i := 4) (j := 5) (by rfl) nd rfl rfl (by decide) rfl rfl (pa_cons (pe_call GD hr2 rfl D.g D.kp D.b .nil pass0 (pa_cons (pv 0) (pa_cons (pe_op op_mul pe_int (pv 3)) pa_nil))) (pa_cons (pe_call GD hr2 rfl D.g D.kp D.b .nil pass0 (pa_cons (pv 0) (pa_cons (pe_op op_mul pe_int (pv 3)) pa_nil))) pa_nil)) (by rfl))
      (pss_one (ps_set (i := 2) nd rfl (Or.inl rfl) (pe_call GA hr1 rfl Ac.g Ac.kp Ac.b .nil pass0 (pa_cons (pv 2) (pa_cons (pv 3) (pa_cons (pv 4) (pa_cons (pv 5) pa_nil)))))))))
      (pss_cons (ps_asg (pe_tup (pa_cons (pe_call GO hr3 rfl O.g O.kp O.b .nil pass0 (pa_cons (pv 0) (pa_cons (pv 1) pa_nil))) (pa_cons (pe_lc (own := [("number", 3)]) (g := (gName 3)) (tt := tYes) (te := (tCall spOR [] E0 (tCons (tVar 0) (tCons (tC (.int 4)) tNil)))) rfl nd (pi_range1 (by rfl) T.range (pa_cons (pv 1) pa_nil)) (blkOk_by (N := nYD) (sc := defScope sYD) (by decide +kernel)) (fun _ _ _ _ _ => pg_name (i := 3) nd rfl (Or.inl rfl)) (fun _ _ _ _ _ => pts_nil) (fun _ _ _ _ _ => by exact (pe_call GO hr3 rfl O.g O.kp O.b .nil pass0 (pa_cons (pv 0) (pa_cons pe_int pa_nil))))) pa_nil))) (pg_tup rfl (pgs_cons (pg_name (i := 6) nd rfl (Or.inr rfl)) (pgs_cons (pg_name (i := 7) nd rfl (Or.inr rfl)) pgs_nil))))
      (pss_cons (ps_set (i := 8) nd rfl (Or.inl rfl) (pe_lst pa_nil))
      (pss_cons (ps_for PassesOwn.never rfl (pi_list (pv 2)) (pg_name (i := 9) nd rfl (Or.inl rfl))
        (pss_cons (ps_setLc (i := 10) (own := [("end", 11)]) (g := (gName 11)) (tt := tYes) (te := (tOp (rI0 fun i j => .int (i + j)) (tOp (rI CMul fun i j => .int (i * j)) (tC (.int 4)) (tOp (rIxL K) (tVar 6) (tOp (rI CDiv fun i j => .int (i / j)) (tVar 11) (tC (.int 4))))) (tOp (rIxL K) (tOp (rIxL K) (tVar 7) (tOp (rI CDiv fun i j => .int (i / j)) (tVar 11) (tC (.int 4)))) (tOp (rI (fun _ j => 0 < j) fun i j => .int (i % j)) (tVar 11) (tC (.int 4)))))) rfl nd rfl rfl (sw_true rfl rfl rfl (by decide +kernel)) (pi_tup (pv 9)) (blkOk_by (N := nYD) (sc := defScope sYD) (by decide +kernel)) (fun _ _ _ _ _ => pg_name (i := 11) nd rfl (Or.inl rfl)) (fun _ _ _ _ _ => pts_nil) (fun _ _ _ _ _ => by exact (pe_op op_add (pe_op op_mul pe_int (pe_ix ix_list (pv 6) (pe_op op_fdiv (pv 11) pe_int) (fun _ _ => rfl))) (pe_ix ix_list (pe_ix ix_list (pv 7) (pe_op op_fdiv (pv 11) pe_int) (fun _ _ => rfl)) (pe_op op_mod (pv 11) pe_int) (fun _ _ => rfl)))))
      (pss_one (ps_expr (pe_bm PySem.F.plainAttrs_list PySem.F.slot_list_append PySem.F.type_list_append mt_append (pv 8) (pa_cons (pe_tup (pa_cons (pe_callB (cr_min rfl) (by rfl) hmin boot_min (pa_cons (pv 10) pa_nil)) (pa_cons (pe_callB (cr_max rfl) (by rfl) hmax boot_max (pa_cons (pv 10) pa_nil)) pa_nil))) pa_nil))))))
      (pss_one (ps_ret (pe_tupleOf (by rfl) T.tuple (pe_callB cr_sortedPO (by rfl) T.sorted boot_sorted (pa_cons (pv 8) pa_nil))))))))), ?_⟩
    refine ⟨two_le, fun t1 ht1 => ⟨two_le, fun t2 ht2 => ⟨two_le, fun L0 hL0 => ?_⟩⟩⟩
    obtain ⟨H1, eH1, s1, a1, b1, c1⟩ := made_two ht1 ht2 hL0
    have fL0 : H L0 = none := ((Same.new ht1).trans (Same.new ht2)).free hL0
    rw [← eH1]
    obtain ⟨nLp, nLl⟩ := M.apart fL0
    refine ⟨_, rfl, 1, _, rfl, ⟨by decide, by decide, by omega, by omega⟩, ?_⟩
    rw [show (((many : Nat) : Int) - 1).toNat = many - 1 by omega]
    refine for_range (lo := 1) (n := many - 1) (fun i σ H' => ∃ (v3 v4 v5 : Option V) (L : Addr) (as : List Addr) (ps : List (Nat × Nat)), σ = [some (.ref p), some (.int (many : Nat)), some (.ref L), v3, v4, v5, none, none, none, none, none, none] ∧ H' L = some (.lst (refs as)) ∧ L ≠ p ∧ L ≠ l ∧ PL H' as ps ∧ Grown (1 + i) ps ∧ ML H' p a l (n + 2 * i) ∧ ExtL p l H H')
      ⟨none, none, none, L0, [t1, t2], [(0, 1), (2, 3)], rfl, a1, nLp, nLl, .cons b1 (.cons c1 .nil), grown_one (by decide), M.keep s1, ExtL.same s1⟩ ?_ ?_
    · rintro i σ H2 hi ⟨v3, v4, v5, L, as, ps, rfl, hL, nLp, nLl, hP, G, M2, e2⟩
      rw [show (1 : Int) + ((i : Nat) : Int) = ((1 + i : Nat) : Int) by omega]
      have lps : ps.length = 2 * (1 + i) := G.lines.len
      refine ⟨_, rfl, _, rfl, _, _, rfl, rfl, .inl ⟨by decide, by decide⟩, p, a, l, _, _, rfl, M2, by omega, by omega, by omega, fun H3 q1 M3 e3 q10 q11 => ?_⟩
      refine ⟨_, rfl, _, rfl, _, _, rfl, rfl, .inl ⟨by decide, by decide⟩, p, a, l, _, _, rfl, M3, by omega, by omega, by omega, fun H4 q2 M4 e4 q20 q21 => ?_⟩
      obtain ⟨i1, rfl⟩ : ∃ j : Nat, q1 = (j : Nat) := ⟨q1.toNat, by omega⟩
      obtain ⟨i2, rfl⟩ : ∃ j : Nat, q2 = (j : Nat) := ⟨q2.toNat, by omega⟩
      have e24 := e3.trans e4
      obtain ⟨A1, hA⟩ : ∃ A1, ps[i1]? = some A1 := ⟨_, List.getElem?_eq_getElem (by omega)⟩
      obtain ⟨B1, hB⟩ : ∃ B1, ps[i2]? = some B1 := ⟨_, List.getElem?_eq_getElem (by omega)⟩
      have hP4 := hP.mono (tupL M2 e24)
      refine ⟨_, _, rfl, _, rfl, _, rfl, _, rfl, _, rfl, L, as, ps, 1 + i, i1, i2, A1, B1, rfl, e24 _ _ nLp nLl hL, hP4, by omega, hA, hB, fun H5 L5 bs s5 nL5 hL5 hP5 => ?_⟩
      obtain ⟨m1, m2⟩ := M4.apart nL5
      exact ⟨_, _, _, L5, bs, _, rfl, hL5, m1, m2, hP5, by rw [show 1 + (i + 1) = (1 + i) + 1 by omega]; exact G.put hA hB, (M4.keep s5).lt (by omega) (by omega), (e2.trans e24).trans (ExtL.same s5)⟩
    · rintro σ H2 ⟨v3, v4, v5, L, as, ps, rfl, hL, nLp, nLl, hP, G, M2, e2⟩
      rw [show 1 + (many - 1) = many by omega] at G
      have M2 := M2.lt (show n + 2 * (many - 1) ≤ n + 2 * many by omega) (by omega)
      refine ⟨_, rfl, _, rfl, p, a, l, _, many, rfl, M2, by omega, by omega, fun H3 cA cs M3 e3 hcn hc hcp => ?_⟩
      obtain ⟨ncp, ncl⟩ := M2.apart hcn
      refine ⟨_, rfl, _, rfl, by omega, by omega, fun Pl hPl => ?_⟩
      rw [show ((many : Nat) : Int).toNat = many by omega]
      have sP := Same.new (o := .lst []) hPl
      obtain ⟨nPp, nPl⟩ := M3.apart hPl
      refine lc_it (walk_range (lo := 0) (n := many)) (fun q H6 => ∃ (bs : List Addr) (qs : List (List Nat)), H6 Pl = some (.lst (refs bs)) ∧ Pl ∉ bs ∧ NLs p l H6 bs qs ∧ qs.length = q ∧ (∀ x ∈ qs, x.Perm [0, 1, 2, 3]) ∧ ML H6 p a l (n + 3 * many + 4 * q) ∧ ExtL p l H3 H6)
        ⟨[], [], upd_same, by simp, .nil, rfl, fun x h => absurd h (by simp), (M3.keep sP).lt (by omega) (by omega), ExtL.same sP⟩ (fun _ _ _ _ => trivial) ?_ ?_
      · rintro q v H6 H7 hq ⟨bs, qs, h6, nin, hLL, lq, hqp, M6, e6⟩ ⟨rfl, rfl⟩
        refine ⟨rfl, yes ⟨_, rfl, p, a, l, _, 4, rfl, M6, by decide, by omega, fun H8 b q8 M8 e8 hbn hb hbp => ?_⟩⟩
        obtain ⟨nbp, nbl⟩ := M6.apart hbn
        have h8 := e8 _ _ nPp nPl h6
        have nbP : b ≠ Pl := fun z => by
          rw [z, h6] at hbn
          cases hbn
        refine ⟨_, h8, small1000 (by rw [List.length_map, hLL.len]; omega), bs ++ [b], qs ++ [q8], ?_, ?_, ?_, ?_, ?_, ?_, ?_⟩
        · rw [upd_same, refs_app]
          rfl
        · intro m
          rcases List.mem_append.mp m with m | m
          · exact nin m
          · exact nbP (List.mem_singleton.mp m).symm
        · exact ((hLL.ext e8).keepN nin).app (.cons ((upd_ne nbP).trans hb) nbp nbl .nil)
        · rw [List.length_append, lq]
          rfl
        · intro x hx
          rcases List.mem_append.mp hx with hx | hx
          · exact hqp x hx
          · rw [List.mem_singleton.mp hx]
            exact hbp
        · exact (ML.wrN M3 hPl M8).lt (by omega) (by omega)
        · exact (e6.trans e8).wr hPl
      · rintro H6 ⟨bs, qs, h6, nin, hLL, lq, hqp, M6, e6⟩
        refine ⟨two_le, fun u hu => ?_⟩
        have su := Same.new (o := .tup [V.ref cA, V.ref Pl]) hu
        have e26 := e3.trans e6
        have hL6 := su _ _ (e26 _ _ nLp nLl hL)
        have hP6 := (hP.mono (tupL M2 e26)).mono (sameT su)
        have hc6 := su _ _ (e6 _ _ ncp ncl hc)
        have hPl6 := su _ _ h6
        have hLL6 := hLL.ext (ExtL.same su)
        have M6' := M6.keep su
        have e06 := (e2.trans e26).trans (ExtL.same su)
        refine ⟨u, _, rfl, SqT.of upd_same, rfl, _, _, rfl, _, _, rfl, rfl, ?_⟩
        generalize upd H6 u (.tup [V.ref cA, V.ref Pl]) = H7 at hL6 hP6 hc6 hPl6 hLL6 M6' e06
        -- the names of the ends
        have lcs : cs.length = many := by rw [hcp.length_eq, List.length_range]
        obtain ⟨bl, ebl⟩ : ∃ bl, bl = cs.zip qs := ⟨_, rfl⟩
        have lbl : bl.length = many := by rw [ebl, List.length_zip]; omega
        have bl2 : ∀ b ∈ bl, b.2.Perm [0, 1, 2, 3] := fun b hb => by
          rw [ebl] at hb
          exact hqp _ (List.of_mem_zip hb).2
        have bl1 : bl.map Prod.fst = cs := by rw [ebl, List.map_fst_zip (by omega)]
        have cal : Called many (blocks bl) := called_of_blocks (by rw [bl1]; exact hcp) bl2
        have name : ∀ e, e < 4 * many → ∃ (c0 : Nat) (q0 : List Nat) (r0 : Nat), cs[e / 4]? = some c0 ∧ qs[e / 4]? = some q0 ∧ q0[e % 4]? = some r0 ∧ (blocks bl).getD e 0 = 4 * c0 + r0 := fun e he => by
          have h1 : e / 4 < cs.length := by omega
          have h2 : e / 4 < qs.length := by omega
          have hz : bl[e / 4]? = some (cs[e / 4], qs[e / 4]) := by
            rw [ebl, List.getElem?_eq_getElem (by rw [List.length_zip]; omega), List.getElem_zip]
          have l4 : ∀ b ∈ bl, b.2.length = 4 := fun b hb => (bl2 b hb).length_eq
          have := blocks_at l4 hz (Nat.mod_lt e (by decide : 0 < 4))
          rw [Nat.div_add_mod] at this
          have q4 : (qs[e / 4]).length = 4 := (hqp _ (List.getElem_mem h2)).length_eq
          have hr4 : e % 4 < (qs[e / 4]).length := by omega
          refine ⟨cs[e / 4], qs[e / 4], (qs[e / 4])[e % 4], List.getElem?_eq_getElem h1, List.getElem?_eq_getElem h2, List.getElem?_eq_getElem hr4, ?_⟩
          rw [this, List.getD_eq_getElem?_getD, List.getElem?_eq_getElem hr4]
          rfl
        refine ⟨Nat.zero_le _, fun Fd hFd => ?_⟩
        have sF := Same.new (o := .lst []) hFd
        refine ⟨_, rfl, L, rfl, ⟨_, SqL.of (sF _ _ hL6)⟩, ?_⟩
        have lps : ps.length = 2 * many := G.lines.len
        refine for_it (walk_list (K := K) (a := L) (xs := refs as)) (fun q σ H' => ∃ (v9 v10 : Option V) (ds : List Addr), σ = [some (.ref p), some (.int (many : Nat)), some (.ref L), v3, v4, v5, some (.ref cA), some (.ref Pl), some (.ref Fd), v9, v10, none] ∧ H' Fd = some (.lst (refs ds)) ∧ PL H' ds ((ps.take q).map (callL (blocks bl))) ∧ Same H7 H')
          ⟨none, none, [], rfl, upd_same, .nil, sF⟩ (fun q σ H' _ ⟨_, _, _, _, _, _, s'⟩ => SqL.of (s' _ _ hL6)) ?_ ?_
        · rintro q v σ H8 H9 hq ⟨v9, v10, ds, rfl, hF8, hD8, s8⟩ ⟨rfl, hv⟩
          have hv : (refs as)[q]? = some v := hv
          have e1 : (refs as).length = ps.length := by rw [List.length_map, hP.len]
          rw [e1] at hq
          obtain ⟨c, hcq⟩ : ∃ c, as[q]? = some c := ⟨_, List.getElem?_eq_getElem (by rw [hP.len]; exact hq)⟩
          rw [List.getElem?_map, hcq] at hv
          cases hv
          obtain ⟨pr, hpr, pc⟩ := hP6.got hcq
          have hmem := List.mem_of_getElem? hpr
          obtain ⟨lx, ly⟩ : pr.1 < 4 * many ∧ pr.2 < 4 * many := ⟨G.lines.lt _ (ends_of hmem).1, G.lines.lt _ (ends_of hmem).2⟩
          have pc9 := s8 _ _ pc
          refine ⟨_, rfl, c, rfl, ⟨_, SqT.of pc9⟩, fun D0 hD0 => ?_⟩
          have sD := Same.new (o := .lst []) hD0
          have nm : ∀ e, e < 4 * many → ∀ H6, Same H9 H6 → ∃ (c0 : Nat) (q0 : List Nat) (r0 : Nat) (b0 : Addr), H6 cA = some (.lst (nats cs)) ∧ cs[e / 4]? = some c0 ∧ H6 Pl = some (.lst (refs bs)) ∧ bs[e / 4]? = some b0 ∧ H6 b0 = some (.lst (nats q0)) ∧ q0[e % 4]? = some r0 ∧ (blocks bl).getD e 0 = 4 * c0 + r0 := fun e he H6 s6 => by
            obtain ⟨c0, q0, r0, g1, g2, g3, g4⟩ := name e he
            obtain ⟨b0, g5, g6⟩ := hLL6.get g2
            exact ⟨c0, q0, r0, b0, s6 _ _ (s8 _ _ hc6), g1, s6 _ _ (s8 _ _ hPl6), g5, s6 _ _ (s8 _ _ g6), g3, g4⟩
          refine lc_it (walk_tup (K := K) (a := c) (xs := [V.int (pr.1 : Nat), V.int (pr.2 : Nat)])) (fun j H6 => H6 D0 = some (.lst (nats (([pr.1, pr.2].take j).map fun e => (blocks bl).getD e 0))) ∧ Same H9 H6) ⟨upd_same, sD⟩ (fun j H6 _ h => SqT.of (h.2 _ _ pc9)) ?_ ?_
          · rintro j x H6 HX hj ⟨h6, s6⟩ ⟨rfl, hx⟩
            have hj : j < 2 := hj
            obtain ⟨e, he, ee, ej⟩ : ∃ e : Nat, e < 4 * many ∧ x = V.int (e : Nat) ∧ [pr.1, pr.2][j]? = some e := by
              have hx : [V.int (pr.1 : Nat), V.int (pr.2 : Nat)][j]? = some x := hx
              have hc : j = 0 ∨ j = 1 := by omega
              rcases hc with rfl | rfl
              · cases hx
                exact ⟨pr.1, lx, rfl, rfl⟩
              · cases hx
                exact ⟨pr.2, ly, rfl, rfl⟩
            subst ee
            obtain ⟨c0, q0, r0, b0, g0, g1, g2, g3, g4, g5, g6⟩ := nm e he _ s6
            have d4 : ((e : Nat) : Int) / 4 = ((e / 4 : Nat) : Int) := by omega
            have m4 : ((e : Nat) : Int) % 4 = ((e % 4 : Nat) : Int) := by omega
            refine ⟨rfl, yes ⟨_, rfl, _, rfl, _, _, rfl, rfl, ⟨by decide, by decide⟩, cA, _, _, V.int (c0 : Nat), rfl, rfl, SqL.of g0, at_of (j := e / 4) d4 (nats_at g1), _, _, rfl, rfl, .inl ⟨by decide, by decide⟩, ?_⟩⟩
            refine ⟨_, rfl, _, rfl, _, _, rfl, rfl, ⟨by decide, by decide⟩, Pl, _, _, V.ref b0, rfl, rfl, SqL.of g2, at_of (j := e / 4) d4 (by rw [List.getElem?_map, g3]; rfl), _, rfl, _, _, rfl, rfl, (by show (0 : Int) < 4; decide), b0, _, _, V.int (r0 : Nat), rfl, rfl, SqL.of g4, at_of (j := e % 4) m4 (nats_at g5), _, _, rfl, rfl, _, h6, small1000 ?_, ?_, fun b o eo => ?_⟩
            · rw [List.length_map, List.length_map, List.length_take]
              show min j 2 ≤ 1000
              omega
            · rw [upd_same, List.take_succ, ej, Option.toList_some, List.map_append, nats_app]
              show some (HO.lst (_ ++ [V.int (4 * ((c0 : Nat) : Int) + ((r0 : Nat) : Int))])) = some (HO.lst (_ ++ [V.int (((blocks bl).getD e 0 : Nat) : Int)]))
              rw [g6, show ((4 * c0 + r0 : Nat) : Int) = 4 * ((c0 : Nat) : Int) + ((r0 : Nat) : Int) by omega]
            · rw [upd_ne (ne_of_none eo hD0)]
              exact s6 _ _ eo
          · rintro H6 ⟨h6, s6⟩
            have h6 : H6 D0 = some (.lst ([(((blocks bl).getD pr.1 0 : Nat) : Int), (((blocks bl).getD pr.2 0 : Nat) : Int)].map V.int)) := h6
            have hF6 := s6 _ _ hF8
            refine ⟨_, rfl, .inl ⟨rfl, _, SqL.of hF6⟩, _, rfl, D0, _, rfl, SqL.of h6, Nat.succ_pos _, fun m1 hm1 hle1 => ⟨_, rfl, D0, _, rfl, SqL.of h6, Nat.succ_pos _, fun m2 hm2 hle2 => ⟨two_le, fun t hT => ?_⟩⟩⟩
            rw [min_low hm1 hle1, max_low hm2 hle2]
            have sT := Same.new (o := .tup [V.int (((low ((blocks bl).getD pr.1 0) ((blocks bl).getD pr.2 0)).1 : Nat) : Int), V.int (((low ((blocks bl).getD pr.1 0) ((blocks bl).getD pr.2 0)).2 : Nat) : Int)]) hT
            have hF7 := sT _ _ hF6
            have ldq : ds.length = q := by
              rw [hD8.len, List.length_map, List.length_take]
              omega
            have s69 := s6.trans sT
            have hD9 := hD8.mono (sameT s69)
            have hFd0 : H7 Fd = none := hFd
            refine ⟨Fd, _, _, rfl, rfl, hF7, small1000 (by rw [List.length_map]; omega), ?_⟩
            have hT7 : (upd H6 t (.tup [V.int (((low ((blocks bl).getD pr.1 0) ((blocks bl).getD pr.2 0)).1 : Nat) : Int), V.int (((low ((blocks bl).getD pr.1 0) ((blocks bl).getD pr.2 0)).2 : Nat) : Int)])) t = some (.tup [V.int (((low ((blocks bl).getD pr.1 0) ((blocks bl).getD pr.2 0)).1 : Nat) : Int), V.int (((low ((blocks bl).getD pr.1 0) ((blocks bl).getD pr.2 0)).2 : Nat) : Int)]) := upd_same
            have sB := s8.trans s69
            generalize upd H6 t (.tup [V.int (((low ((blocks bl).getD pr.1 0) ((blocks bl).getD pr.2 0)).1 : Nat) : Int), V.int (((low ((blocks bl).getD pr.1 0) ((blocks bl).getD pr.2 0)).2 : Nat) : Int)]) = HT at hF7 hD9 hT7 sB
            have k9 : ∀ b xs, HT b = some (.tup xs) → (upd HT Fd (.lst (refs ds ++ [V.ref t]))) b = some (.tup xs) := fun b xs h => (upd_ne (ne_of h hF7 (by intro z; cases z))).trans h
            refine ⟨_, _, ds ++ [t], rfl, by rw [upd_same, refs_app]; rfl, ?_, fun b o eo => ?_⟩
            · rw [List.take_succ, hpr, Option.toList_some, List.map_append]
              exact (hD9.mono k9).app (.cons (k9 _ _ hT7) .nil)
            · rw [upd_ne (ne_of_none eo hFd0)]
              exact sB _ _ eo
        · rintro σ H8 ⟨v9, v10, ds, rfl, hF8, hD8, s8⟩
          have e1 : (refs as).length = ps.length := by rw [List.length_map, hP.len]
          rw [e1, List.take_length] at hD8
          refine ⟨_, rfl, ?_⟩
          show rSortedPO K [V.ref Fd] H8 (fun x H1 => kTup K x H1 Q)
          refine rd_sorted (SqL.of hF8) hD8 fun gs ms l2 hC hperm hle hl2 => ?_
          have s9 := Same.new (o := .lst (refs gs)) hl2
          refine .inl ⟨l2, _, rfl, SqL.of upd_same, fun u2 hu2 => ?_⟩
          have s10 := Same.new (o := .tup (refs gs)) hu2
          have sA := s8.trans (s9.trans s10)
          exact k _ u2 ms ((M6'.keep sA).lt (by omega) (by omega)) (e06.trans (ExtL.same sA)) ⟨called_yard G cal hperm hle, gs, upd_same, hC.mono (sameT (s9.trans s10))⟩
end
end One
end P_S5

section P_S6
set_option linter.all false
set_option maxRecDepth 100000
set_option maxHeartbeats 8000000
namespace One
open PySem PySem.Spec PyProof.Rows L2
abbrev sSZ : Stmt := top 66
abbrev nSZ : List Str := ["state", "most", "some"]
theorem scSZ : FnScope nSZ ["state", "most"] (defScope sSZ) := ⟨rfl, rfl, rfl, by decide +kernel, rfl, by decide +kernel, by decide +kernel⟩
def spSZ : Sp := fun vs H Q _ => ∃ (p a l : Addr) (n most : Nat), vs = [.ref p, .int (most : Nat)] ∧ ML H p a l n ∧ n ≤ 900000 ∧ 3 ≤ most ∧ most ≤ 40 ∧
  ∀ (H' : Hp) (r : Nat), ML H' p a l (n + 4) → ExtL p l H H' → 0 < r → r ≤ most → Q (.int (r : Nat)) H'
section
variable {P : Program} {w : World} {K : PySem.W.Frag} {mg : Str → Option Value} {base : Heap}
theorem ok_size {f fD : Addr} {fd fdD : FuncData} (F : Fun K "_law_size" "_law_size" sSZ f fd) (hmin : mg "min" = none) (D : Cal K mg "_law_draw" fD fdD ["state", "many"]) (GD : FnOk P w K mg base CX0 2 fD fdD ["state", "many"] spDR) : FnOk P w K mg base CX0 3 f fd ["state", "most"] spSZ := by
  refine F.ok scSZ (fun vs H Q E h => ?_) (fun cdv A outer s H vs Q E hr h => ?_)
  · obtain ⟨p, a, l, n, most, rfl, _⟩ := h
    rfl
  · obtain ⟨p, a, l, n, most, rfl, M, hn, h3, h40, k⟩ := h
    have nd := scSZ.nd
    have hr2 : Room 2 _ := hr
    refine ⟨_, pss_cons (ps_set (i := 2) nd rfl (Or.inl rfl) (pe_lst (pa_cons (pe_op op_add pe_int (pe_call GD hr2 rfl D.g D.kp D.b .nil pass0 (pa_cons (pv 0) (pa_cons pe_int pa_nil)))) (pa_cons (pe_callB (call_min2 rfl) (by rfl) hmin boot_min (pa_cons (pv 1) (pa_cons (pe_op op_add pe_int (pe_call GD hr2 rfl D.g D.kp D.b .nil pass0 (pa_cons (pv 0) (pa_cons pe_int pa_nil)))) pa_nil))) (pa_cons (pe_op op_add pe_int (pe_call GD hr2 rfl D.g D.kp D.b .nil pass0 (pa_cons (pv 0) (pa_cons (pv 1) pa_nil)))) pa_nil)))))
      (pss_one (ps_ret (pe_ix ix_list (pv 2) (pe_call GD hr2 rfl D.g D.kp D.b .nil pass0 (pa_cons (pv 0) (pa_cons pe_int pa_nil))) (fun _ _ => rfl)))), ?_⟩
    refine ⟨_, rfl, p, a, l, n, 3, rfl, M, by omega, by decide, by decide, fun H1 q1 M1 e1 a0 a1 => ⟨_, _, rfl, rfl, ?_⟩⟩
    refine ⟨_, rfl, _, rfl, p, a, l, _, 7, rfl, M1, by omega, by decide, by decide, fun H2 q2 M2 e2 b0 b1 => ⟨_, _, rfl, rfl, _, _, rfl, ?_⟩⟩
    refine ⟨_, rfl, _, rfl, p, a, l, _, _, rfl, M2, by omega, by omega, by omega, fun H3 q3 M3 e3 c0 c1 => ⟨_, _, rfl, rfl, (by show 3 ≤ sizeLine; decide), fun L hL => ?_⟩⟩
    obtain ⟨nLp, nLl⟩ := M3.apart hL
    have sL := Same.new (o := .lst [V.int (1 + q1), V.int (if 2 + q2 < ((most : Nat) : Int) then 2 + q2 else ((most : Nat) : Int)), V.int (1 + q3)]) hL
    refine ⟨_, rfl, _, rfl, p, a, l, _, 3, rfl, M3.keep sL, by omega, by decide, by decide, fun H4 q4 M4 e4 d0 d1 => ?_⟩
    have hL4 := e4 _ _ nLp nLl (upd_same (H := H3) (a := L) (o := .lst [V.int (1 + q1), V.int (if 2 + q2 < ((most : Nat) : Int) then 2 + q2 else ((most : Nat) : Int)), V.int (1 + q3)]))
    have eA := e1.trans (e2.trans (e3.trans ((ExtL.same sL).trans e4)))
    have M4 : ML H4 p a l (n + 4) := M4
    have fin : ∀ z : Int, 0 < z → z ≤ (most : Int) → Q (.int z) H4 := fun z z0 z1 => by
      have := k H4 z.toNat M4 eA (by omega) (by omega)
      rw [show ((z.toNat : Nat) : Int) = z by omega] at this
      exact this
    have hc : q4 = 0 ∨ q4 = 1 ∨ q4 = 2 := by omega
    rcases hc with rfl | rfl | rfl
    · exact ⟨L, _, _, _, rfl, rfl, SqL.of hL4, rfl, fin _ (by omega) (by omega)⟩
    · exact ⟨L, _, _, _, rfl, rfl, SqL.of hL4, rfl, fin _ (by split <;> omega) (by split <;> omega)⟩
    · exact ⟨L, _, _, _, rfl, rfl, SqL.of hL4, rfl, fin _ (by omega) (by omega)⟩
end
end One
end P_S6

section P_S7
set_option linter.all false
set_option maxRecDepth 100000
set_option maxHeartbeats 8000000
namespace One
open PySem PySem.Spec PyProof.Rows L2
/-- a dict from ends to ends -/
def fkv (F : Nat → Nat) (es : List Nat) : List (Key × V) := es.map fun e => (Sum.inl ((e : Nat) : Int), V.int (F e : Nat))
theorem fkv_snoc (F : Nat → Nat) (es : List Nat) (e : Nat) : fkv F (es ++ [e]) = fkv F es ++ [(Sum.inl ((e : Nat) : Int), V.int (F e : Nat))] := by
  unfold fkv
  rw [List.map_append]
  rfl
theorem fkv_in {F : Nat → Nat} : ∀ {es : List Nat} {e : Nat}, e ∈ es → valV (fkv F es) (Sum.inl ((e : Nat) : Int)) = some (.int (F e : Nat))
  | [], e, h => absurd h (by simp)
  | x :: es, e, h => by
    by_cases q : x = e
    · subst q
      exact valV_pos rfl
    · have m : e ∈ es := (List.mem_cons.mp h).resolve_left fun z => q z.symm
      have ne : ¬ ((Sum.inl ((x : Nat) : Int) : Key) = Sum.inl ((e : Nat) : Int)) := fun z => q (by have := Sum.inl.inj z; omega)
      exact (valV_neg (p := ((Sum.inl ((x : Nat) : Int) : Key), V.int (F x : Nat))) ne).trans (fkv_in m)
theorem fkv_out {F : Nat → Nat} : ∀ {es : List Nat} {e : Nat}, e ∉ es → valV (fkv F es) (Sum.inl ((e : Nat) : Int)) = none
  | [], e, _ => valV_nil
  | x :: es, e, h => by
    have ne : ¬ ((Sum.inl ((x : Nat) : Int) : Key) = Sum.inl ((e : Nat) : Int)) := fun z => h (by
      have := Sum.inl.inj z
      rw [show x = e by omega]
      exact List.mem_cons_self ..)
    exact (valV_neg (p := ((Sum.inl ((x : Nat) : Int) : Key), V.int (F x : Nat))) ne).trans (fkv_out fun m => h (List.mem_cons_of_mem _ m))
theorem fkv_put {F : Nat → Nat} {es : List Nat} {e y : Nat} (h : e ∉ es) (hy : y = F e) : putK (fkv F es) (Sum.inl ((e : Nat) : Int)) (.int (y : Nat)) = fkv F (es ++ [e]) := by
  rw [putK_new _ (fkv_out h), fkv_snoc, hy]
theorem ends_take {ps : List (Nat × Nat)} {i : Nat} {p : Nat × Nat} (h : ps[i]? = some p) : ends (ps.take (i + 1)) = ends (ps.take i) ++ [p.1, p.2] := by
  rw [List.take_succ, h, Option.toList_some, ends_append]
  rfl
abbrev sFA : Stmt := top 67
abbrev nFA : List Str := ["yard", "found", "one", "other"]
theorem scFA : FnScope nFA ["yard"] (defScope sFA) := ⟨rfl, rfl, rfl, by decide +kernel, rfl, by decide +kernel, by decide +kernel⟩
def spFA : Sp := fun vs H Q _ => ∃ (t : Addr) (n : Nat) (as : List Addr) (ps : List (Nat × Nat)), vs = [.ref t] ∧ H t = some (.tup (refs as)) ∧ PL H as ps ∧ Lines n ps ∧ n ≤ 100 ∧
  ∀ (H' : Hp) (D : Addr), Same H H' → H D = none → H' D = some (.dK (fkv (far ps) (ends ps))) → Q (.ref D) H'
section
variable {P : Program} {w : World} {K : PySem.W.Frag} {mg : Str → Option Value} {base : Heap}
theorem ok_far {f : Addr} {fd : FuncData} (F : Fun K "_law_far" "_law_far" sFA f fd) : FnOk P w K mg base CX0 1 f fd ["yard"] spFA := by
  refine F.ok scFA (fun vs H Q E h => ?_) (fun cdv A outer s H vs Q E hr h => ?_)
  · obtain ⟨t, n, as, ps, rfl, _⟩ := h
    rfl
  · obtain ⟨t, n, as, ps, rfl, ht, hP, L, hn, k⟩ := h
    have nd := scFA.nd
    have hu := hu_of hr
    refine ⟨_, pss_cons (ps_set (i := 1) nd rfl (Or.inl rfl) pe_dnewK)
      (pss_cons (ps_for PassesOwn.never rfl (pi_tup (pv 0)) (pg_tup rfl (pgs_cons (pg_name (i := 2) nd rfl (Or.inl rfl)) (pgs_cons (pg_name (i := 3) nd rfl (Or.inl rfl)) pgs_nil)))
        (pss_cons (ps_dput hu (pv 1) (pv 2) (pv 3) rfl)
      (pss_one (ps_dput hu (pv 1) (pv 3) (pv 2) rfl))))
      (pss_one (ps_ret (pv 1)))), ?_⟩
    refine fun D hD => ?_
    have sD := Same.new (o := .dK []) hD
    refine ⟨_, rfl, t, rfl, ⟨_, SqT.of (sD _ _ ht)⟩, ?_⟩
    refine for_it (walk_tup (K := K) (a := t) (xs := refs as)) (fun i σ H' => ∃ v2 v3 : Option V, σ = [some (.ref t), some (.ref D), v2, v3] ∧ H' D = some (.dK (fkv (far ps) (ends (ps.take i)))) ∧ Same H H') ⟨none, none, rfl, upd_same, sD⟩ (fun i σ H' _ ⟨_, _, _, _, s'⟩ => SqT.of (s' _ _ ht)) ?_ ?_
    · rintro i v σ H6 H7 hi ⟨v2, v3, rfl, h6, s6⟩ ⟨rfl, hv⟩
      have hv : (refs as)[i]? = some v := hv
      rw [List.length_map] at hi
      rw [List.getElem?_map, List.getElem?_eq_getElem hi] at hv
      cases hv
      obtain ⟨p, hp, pc⟩ := hP.got (List.getElem?_eq_getElem hi)
      have et := ends_take hp
      have ndt : (ends (ps.take (i + 1))).Nodup := by
        have e : ends ps = ends (ps.take (i + 1)) ++ ends (ps.drop (i + 1)) := by rw [← ends_append, List.take_append_drop]
        have := L.nd
        rw [e] at this
        exact (List.nodup_append.mp this).1
      rw [et] at ndt
      obtain ⟨_, nd2, nd3⟩ := List.nodup_append.mp ndt
      have n1 : p.1 ∉ ends (ps.take i) := fun m => nd3 _ m _ (by simp) rfl
      have n2 : p.2 ∉ ends (ps.take i) := fun m => nd3 _ m _ (by simp) rfl
      have n12 : p.2 ≠ p.1 := fun z => by
        rw [z] at nd2
        simp at nd2
      obtain ⟨f1, f2⟩ := far_of L.nd (List.mem_of_getElem? hp)
      have len : ∀ es : List Nat, es.length ≤ 500 → (fkv (far ps) es).length < sizeLine := fun es h => by
        unfold fkv
        rw [List.length_map]
        exact small1000 (by omega)
      have le : (ends (ps.take i)).length ≤ 400 := by
        have nd' : (ends (ps.take i)).Nodup := (List.nodup_append.mp ndt).1
        have := pigeon (4 * n) _ nd' fun x hx => L.lt x (by
          have e : ends ps = ends (ps.take i) ++ ends (ps.drop i) := by rw [← ends_append, List.take_append_drop]
          rw [e]
          exact List.mem_append_left _ hx)
        omega
      refine ⟨_, _, rfl, SqT.of (s6 _ _ pc), rfl, _, _, rfl, _, _, rfl, rfl, ?_⟩
      have p1 := DPut.k (k := Sum.inl ((p.1 : Nat) : Int)) (v := .int (p.2 : Nat)) h6 (len _ (by omega))
      rw [fkv_put n1 f1.symm] at p1
      refine ⟨_, rfl, _, rfl, _, rfl, D, _, rfl, p1, ?_⟩
      have h7 : (upd H7 D (.dK (fkv (far ps) (ends (ps.take i) ++ [p.1])))) D = some (.dK (fkv (far ps) (ends (ps.take i) ++ [p.1]))) := upd_same
      have p2 := DPut.k (k := Sum.inl ((p.2 : Nat) : Int)) (v := .int (p.1 : Nat)) h7 (len _ (by rw [List.length_append]; show _ + 1 ≤ 500; omega))
      rw [fkv_put (fun m => by
        rcases List.mem_append.mp m with m | m
        · exact n2 m
        · exact n12 (List.mem_singleton.mp m)) f2.symm] at p2
      refine ⟨_, rfl, _, rfl, _, rfl, D, _, rfl, p2, ?_⟩
      refine ⟨_, _, rfl, ?_, fun b o e => ?_⟩
      · rw [upd_same, et, List.append_assoc]
        rfl
      · rw [upd_ne (ne_of_none e hD), upd_ne (ne_of_none e hD)]
        exact s6 _ _ e
    · rintro σ H6 ⟨v2, v3, rfl, h6, s6⟩
      rw [List.length_map, hP.len, List.take_length] at h6
      exact ⟨_, rfl, k _ D s6 hD h6⟩
end
end One
end P_S7

section P_S8
set_option linter.all false
set_option maxRecDepth 100000
set_option maxHeartbeats 8000000
namespace One
open PySem PySem.Spec PyProof.Rows L2
theorem fkv_get {H : Hp} {D : Addr} {n e : Nat} {ps : List (Nat × Nat)} (L : Lines n ps) (h : H D = some (.dK (fkv (far ps) (ends ps)))) (he : e < 4 * n) : DGet H D (.int ((e : Nat) : Int)) (some (.int (far ps e : Nat))) := by
  have q := DGet.k (k := Sum.inl ((e : Nat) : Int)) h
  rw [fkv_in (ends_full L he)] at q
  exact q
/-- where one comes to behind so many steps from the first end of a crossing -/
def goalK (F W : Nat → Nat) (c k : Nat) : Nat := F (iter (nextE F W) k (4 * c))
theorem goal_next (F W : Nat → Nat) (c k : Nat) : goalK F W c (k + 1) = F (goalK F W c k ^^^ (W (goalK F W c k / 4) + 1)) := rfl
/-- the first of its four ends to which one comes -/
structure OutAt (F W : Nat → Nat) (c j : Nat) : Prop where
  here : goalK F W c j / 4 = c
  first : ∀ i, i < j → goalK F W c i / 4 ≠ c
theorem out_some {F W : Nat → Nat} {n c : Nat} (I : Inv2 F n) (hW : ∀ c, c < n → W c < 3) (hc : c < n) : ∃ j, OutAt F W c j := by
  have G := next_goes I hW
  obtain ⟨kk, per, _⟩ := G.per (s := 4 * c) (by omega)
  have pos := per.pos
  have last : goalK F W c (kk - 1) / 4 = c := by
    have b := per.back
    rw [show kk = (kk - 1) + 1 by omega] at b
    have l := I.lt _ (G.iter_lt (show 4 * c < 4 * n by omega) (kk - 1))
    have blk : (goalK F W c (kk - 1) ^^^ (W (goalK F W c (kk - 1) / 4) + 1)) / 4 = goalK F W c (kk - 1) / 4 := mate_block (hW _ (by show F _ / 4 < n; omega))
    have b : goalK F W c (kk - 1) ^^^ (W (goalK F W c (kk - 1) / 4) + 1) = 4 * c := b
    rw [b] at blk
    omega
  have least : ∀ k, goalK F W c k / 4 = c → ∃ j, OutAt F W c j := by
    intro k
    induction k using Nat.strongRecOn with
    | ind k ih =>
      intro h
      by_cases q : ∃ i, i < k ∧ goalK F W c i / 4 = c
      · obtain ⟨i, hi, e⟩ := q
        exact ih i hi e
      · exact ⟨k, h, fun i hi e => q ⟨i, hi, e⟩⟩
  exact least _ last
theorem goal_ne {F W : Nat → Nat} {n c j : Nat} (I : Inv2 F n) (hW : ∀ c, c < n → W c < 3) (hc : c < n) : goalK F W c j ≠ 4 * c := fun h => by
  have G := next_goes I hW
  have l := G.iter_lt (show 4 * c < 4 * n by omega) j
  have h' : F (iter (nextE F W) j (4 * c)) = 4 * c := h
  have : iter (nextE F W) j (4 * c) = F (4 * c) := by
    have q := I.inv _ l
    rw [h'] at q
    exact q.symm
  exact no_far I hW (by omega) j this
abbrev sOU : Stmt := top 68
abbrev nOU : List Str := ["fars", "setting", "crossing", "goal"]
theorem scOU : FnScope nOU ["fars", "setting", "crossing"] (defScope sOU) := ⟨rfl, rfl, rfl, by decide +kernel, rfl, by decide +kernel, by decide +kernel⟩
def spOU : Sp := fun vs H Q _ => ∃ (D S : Addr) (n c : Nat) (ps : List (Nat × Nat)) (ws : List Nat), vs = [.ref D, .ref S, .int (c : Nat)] ∧ Lines n ps ∧ H D = some (.dK (fkv (far ps) (ends ps))) ∧ H S = some (.lst (nats ws)) ∧ ws.length = n ∧ (∀ x ∈ ws, x < 3) ∧ c < n ∧
  ∀ (j o : Nat), OutAt (far ps) (wayL ws) c j → o < 3 → goalK (far ps) (wayL ws) c j = 4 * c + o + 1 → Q (.int (o : Nat)) H
section
variable {P : Program} {w : World} {K : PySem.W.Frag} {mg : Str → Option Value} {base : Heap}
theorem ok_outer {f : Addr} {fd : FuncData} (F : Fun K "_law_outer" "_law_outer" sOU f fd) : FnOk P w K mg base CX0 1 f fd ["fars", "setting", "crossing"] spOU := by
  refine F.ok scOU (fun vs H Q E h => ?_) (fun cdv A outer s H vs Q E hr h => ?_)
  · obtain ⟨D, S, n, c, ps, ws, rfl, _⟩ := h
    rfl
  · obtain ⟨D, S, n, c, ps, ws, rfl, L, hD, hS, hl, hw, hc, k⟩ := h
    have nd := scOU.nd
    have hu := hu_of hr
    refine ⟨_, C8.pss_cut (ps_set (i := 3) nd rfl (Or.inl rfl) (pe_dget hu (pv 0) (pe_op op_mul pe_int (pv 2)) (fun _ _ => rfl)))
      (pss_cons (ps_while PassesOwn.never (pt_cmpR op_ne (pe_op op_fdiv (pv 3) pe_int) (pv 2) (nomark _))
        (pss_one (ps_set (i := 3) nd rfl (Or.inl rfl) (pe_dget hu (pv 0) (pe_op op_xor (pv 3) (pe_op op_add (pe_ix ix_list (pv 1) (pe_op op_fdiv (pv 3) pe_int) (fun _ _ => rfl)) pe_int)) (fun _ _ => rfl)))))
      (pss_one (ps_ret (pe_op op_sub (pe_op op_mod (pv 3) pe_int) pe_int)))), ?_⟩
    have I := far_inv L
    have hWl : ∀ x, x < n → wayL ws x < 3 ∧ ws[x]? = some (wayL ws x) := fun x hx => by
      have hl' : x < ws.length := by omega
      unfold wayL
      rw [List.getD_eq_getElem?_getD, List.getElem?_eq_getElem hl']
      exact ⟨hw _ (List.getElem_mem hl'), rfl⟩
    have hW : ∀ x, x < n → wayL ws x < 3 := fun x hx => (hWl x hx).1
    have G := next_goes I hW
    obtain ⟨j, O⟩ := out_some I hW hc
    have gl : ∀ i, goalK (far ps) (wayL ws) c i < 4 * n := fun i => I.lt _ (G.iter_lt (by omega) i)
    refine ⟨fun σ H2 => σ = [some (.ref D), some (.ref S), some (.int (c : Nat)), some (.int (goalK (far ps) (wayL ws) c 0 : Nat))] ∧ H2 = H, ?_, ?_⟩
    · have q := fkv_get L hD (show 4 * c < 4 * n by omega)
      rw [show ((4 * c : Nat) : Int) = 4 * ((c : Nat) : Int) by omega] at q
      exact ⟨_, rfl, _, rfl, _, _, rfl, rfl, .inl ⟨by decide, by decide⟩, D, _, rfl, q, rfl, rfl⟩
    · rintro σ0 H0 ⟨rfl, rfl⟩
      unfold tSeq
      refine ⟨fun m σ H2 => ∃ i, i + m = j ∧ σ = [some (.ref D), some (.ref S), some (.int (c : Nat)), some (.int (goalK (far ps) (wayL ws) c i : Nat))] ∧ H2 = H0, ⟨j, 0, Nat.zero_add _, rfl, rfl⟩, ?_⟩
      rintro m σ H2 ⟨i, him, rfl, rfl⟩
      have d4 : ((goalK (far ps) (wayL ws) c i : Nat) : Int) / 4 = ((goalK (far ps) (wayL ws) c i / 4 : Nat) : Int) := by omega
      have hg := gl i
      refine ⟨_, rfl, _, _, rfl, rfl, ⟨by decide, by decide⟩, _, rfl, rfl, _, rfl, ?_⟩
      refine ite2 (fun hb => ?_) (fun hb => ?_)
      rotate_left
      · have hb : ¬ (!decide (V.int (((goalK (far ps) (wayL ws) c i : Nat) : Int) / 4) = V.int (c : Nat))) = true := hb
        rw [d4] at hb
        have hq : goalK (far ps) (wayL ws) c i / 4 = c := Classical.byContradiction fun q => hb (by
          rw [decide_eq_false (fun z => q (by have := V.int.inj z; omega))]
          rfl)
        have ij : i = j := by
          rcases Nat.lt_or_ge i j with h | h
          · exact absurd hq (O.first i h)
          · omega
        subst ij
        refine ⟨_, rfl, _, _, rfl, rfl, (by show (0 : Int) < 4; decide), _, _, rfl, rfl, ?_⟩
        have ne := goal_ne (j := i) I hW hc
        obtain ⟨o, ho, eo⟩ : ∃ o, o < 3 ∧ goalK (far ps) (wayL ws) c i = 4 * c + o + 1 := ⟨goalK (far ps) (wayL ws) c i - 4 * c - 1, by omega, by omega⟩
        have := k i o O ho eo
        show Q (.int (((goalK (far ps) (wayL ws) c i : Nat) : Int) % 4 - 1)) H2
        rw [show ((goalK (far ps) (wayL ws) c i : Nat) : Int) % 4 - 1 = ((o : Nat) : Int) by omega]
        exact this
      · have hb : (!decide (V.int (((goalK (far ps) (wayL ws) c i : Nat) : Int) / 4) = V.int (c : Nat))) = true := hb
        rw [d4] at hb
        have hq : ¬ goalK (far ps) (wayL ws) c i / 4 = c := fun q => by
          rw [q, decide_eq_true rfl] at hb
          cases hb
        have ij : i < j := by
          rcases Nat.lt_or_ge i j with h | h
          · exact h
          · have : i = j := by omega
            subst this
            exact absurd O.here hq
        refine ⟨fun σ' H' => ∃ i', i' + (m - 1) = j ∧ σ' = [some (.ref D), some (.ref S), some (.int (c : Nat)), some (.int (goalK (far ps) (wayL ws) c i' : Nat))] ∧ H' = H2, fun σ' H' h => ⟨m - 1, by omega, h⟩, ?_⟩
        obtain ⟨w3, wat⟩ := hWl (goalK (far ps) (wayL ws) c i / 4) (by omega)
        refine ⟨_, rfl, _, rfl, _, rfl, _, rfl, _, _, rfl, rfl, ⟨by decide, by decide⟩, S, _, _, V.int (wayL ws (goalK (far ps) (wayL ws) c i / 4) : Nat), rfl, rfl, SqL.of hS, at_of (j := goalK (far ps) (wayL ws) c i / 4) d4 (nats_at wat), _, _, rfl, rfl, _, _, rfl, rfl, D, _, rfl, ?_, i + 1, by omega, rfl, rfl⟩
        have q := fkv_get L hD (show (goalK (far ps) (wayL ws) c i ^^^ (wayL ws (goalK (far ps) (wayL ws) c i / 4) + 1)) < 4 * n by
          have := mate_block (e := goalK (far ps) (wayL ws) c i) w3
          omega)
        have ex : Builtin.bitXor ((goalK (far ps) (wayL ws) c i : Nat) : Int) (((wayL ws (goalK (far ps) (wayL ws) c i / 4) : Nat) : Int) + 1) = ((goalK (far ps) (wayL ws) c i ^^^ (wayL ws (goalK (far ps) (wayL ws) c i / 4) + 1) : Nat) : Int) := by
          rw [Bits.bitXor_pp (by omega) (by omega), show (((wayL ws (goalK (far ps) (wayL ws) c i / 4) : Nat) : Int) + 1).toNat = wayL ws (goalK (far ps) (wayL ws) c i / 4) + 1 by omega]
          rfl
        rw [← goal_next (far ps) (wayL ws) c i] at q
        rw [← ex] at q
        exact q
end
end One
end P_S8

section P_S9
set_option linter.all false
set_option maxRecDepth 100000
set_option maxHeartbeats 8000000
namespace One
open PySem PySem.Spec PyProof.Rows L2
/-! ### tuple * 1, len(dict) -/
theorem tuple_mul1 (l : Addr) (items : Array Value) (n : Nat) (dd : Option Addr) (sl : Array (Option Value)) (u : Tok) :
    Meets (Builtin.«tuple.__mul__» ⟨[.ref l, .int 1 u], []⟩) (fun _ R s => s.heap.get? l = some { cls := .type "tuple", dict := dd, data := .seq items n, slots := sl } ∧ R (.ok (.ret (Value.ref l))) s) :=
  .of_wp fun prog w A R s h => by
    obtain ⟨hp, g, d, tk, os⟩ := s
    obtain ⟨hl, h⟩ := h
    have f1 := AutoSeq1.idx_int
    have c0 : (decide ((1 : Int) < -(2 ^ 63)) || decide ((1 : Int) ≥ 2 ^ 63)) = false := by decide
    have c1 : (items.isEmpty || (1 : Int) == 1) = true := by simp
    wp_walk using wpAny_loadPart' hl
    repeat (first
      | (refine wpAny_ite_false (decide_eq_false (by rw [c0]; exact Bool.false_ne_true)) ?_; wp_walk using wpAny_loadPart' hl)
      | (refine wpAny_ite_true (decide_eq_true (by rw [c1])) ?_; wp_walk using wpAny_loadPart' hl))
    exact ⟨_, rfl, h⟩
def rRepX (K : PySem.W.Frag) : R2 := fun x y H Q => ∃ (l : Addr) (k : Nat) (v : V), x = .ref l ∧ y = .int (k : Nat) ∧ H l = some (.tup [v]) ∧ 0 < k ∧ k ≤ 1000 ∧ ∀ (H' : Hp) (p : Addr), Same H H' → H' p = some (.tup (List.replicate k v)) → Q (.ref p) H'
section
variable {X : Cx}
/-- (x,) * k -/
theorem op_repX : OpR X (binaryOp .Mult) (rRepX X.K) := by
  intro pins s σ H x y v u Q I rx ry h
  obtain ⟨l, k, z, rfl, rfl, hl, hk0, hk1, q⟩ := h
  have hT : SqT X.K H l [z] := SqT.of hl
  by_cases h1 : k = 1
  · subst h1
    cases rx
    obtain ⟨t, rfl⟩ := ry
    obtain ⟨its, r, ⟨⟨cls, dd, data, sl⟩, ho, hc, n, hd⟩, hs⟩ := I.tuple hT
    simp only at hc hd
    subst hc hd
    refine wpAny_binaryOp_repeat_ref (T := "tuple") (U := "int") (by decide) ⟨_, ho, rfl⟩ (fun s' => typeIs_int s' 1 t) noFill_tuple_mul F.fills_int_mul F.slot_int_rmul repeat_tuple F.slot_int_index.lookup
      (call_meets F.slot_int_rmul (typeIs_int s 1 t) F.entry_int_rmul (F.args_int_rmul_2 _ _) (int_rmul_tuple 1 t l its.toArray n dd sl)
        ⟨ho, rfl, ⟨_, ho, rfl⟩, call_meets F.slot_tuple_mul ⟨_, ho, rfl⟩ F.entry_tuple_mul (F.args_tuple_mul_2 _ _) (tuple_mul1 l its.toArray n dd sl t) ⟨ho, ?_⟩⟩)
    exact ⟨.ref l, H, I, rfl, q H l (Same.refl H) hl⟩
  · refine op_repT pins s σ H _ _ v u Q I rx ry ⟨l, (k : Nat), [z], rfl, rfl, hT, by simp, by omega, by omega, by show 1 ≤ 1000; decide, fun p hp => ?_⟩
    have e : (List.replicate ((k : Nat) : Int).toNat [z]).flatten = List.replicate k z := by
      rw [show ((k : Nat) : Int).toNat = k by omega]
      clear q hk0 hk1 h1 ry
      induction k with
      | zero => rfl
      | succ k ih => rw [List.replicate_succ, List.flatten_cons, ih, List.replicate_succ]; rfl
    rw [e]
    exact q _ p (Same.new hp) upd_same
theorem cr_len_d : CallR X (.builtin "len") (fun xs H Q => ∃ (p : Addr) (kvs : List (Key × V)), xs = [.ref p] ∧ H p = some (.dK kvs) ∧ Q (.int kvs.length) H) := by
  intro pins s σ H xs us Q I r h
  obtain ⟨p, kvs, rfl, hp, q⟩ := h
  rw [Vals.ref1 r]
  exact d_len I (.inl hp) fun t s' I' => ⟨.int kvs.length, H, I', ⟨_, rfl⟩, q⟩
end
end One
end P_S9

section P_SA
set_option linter.all false
set_option maxRecDepth 100000
set_option maxHeartbeats 8000000
namespace One
open PySem PySem.Spec PyProof.Rows L2
theorem ends_two : ∀ ps : List (Nat × Nat), (ends ps).length = 2 * ps.length
  | [] => rfl
  | p :: r => by
    show (ends r).length + 1 + 1 = 2 * (r.length + 1)
    rw [ends_two r]
    omega
abbrev sST : Stmt := top 69
abbrev nST : List Str := ["state", "fars", "many", "way", "found", "number", "crossing"]
theorem scST : FnScope nST ["state", "fars"] (defScope sST) := ⟨rfl, rfl, rfl, by decide +kernel, rfl, by decide +kernel, by decide +kernel⟩
def spST : Sp := fun vs H Q _ => ∃ (p a l D : Addr) (n m : Nat) (ps : List (Nat × Nat)), vs = [.ref p, .ref D] ∧ ML H p a l n ∧ n ≤ 900000 ∧ Lines m ps ∧ 0 < m ∧ m ≤ 40 ∧ D ≠ p ∧ H D = some (.dK (fkv (far ps) (ends ps))) ∧
  ∀ (H' : Hp) (t : Addr) (ws : List Nat), ML H' p a l (n + 2 + 3 * m) → ExtL p l H H' → SetAt H' t m ws → Q (.ref t) H'
section
variable {P : Program} {w : World} {K : PySem.W.Frag} {mg : Str → Option Value} {base : Heap}
theorem ok_setting {f fD fO fU : Addr} {fd fdD fdO fdU : FuncData} (F : Fun K "_law_setting" "_law_setting" sST f fd) (T : TB mg) (D : Cal K mg "_law_draw" fD fdD ["state", "many"]) (GD : FnOk P w K mg base CX0 2 fD fdD ["state", "many"] spDR)
    (O : Cal K mg "_law_order" fO fdO ["state", "size"]) (GO : FnOk P w K mg base CX0 3 fO fdO ["state", "size"] spOR) (Ou : Cal K mg "_law_outer" fU fdU ["fars", "setting", "crossing"]) (GU : FnOk P w K mg base CX0 1 fU fdU ["fars", "setting", "crossing"] spOU) : FnOk P w K mg base CX0 4 f fd ["state", "fars"] spST := by
  refine F.ok scST (fun vs H Q E h => ?_) (fun cdv A outer s H vs Q E hr h => ?_)
  · obtain ⟨p, a, l, D0, n, m, ps, rfl, _⟩ := h
    rfl
  · obtain ⟨p, a, l, D0, n, m, ps, rfl, M, hn, L, h0, h40, nDp, hD, k⟩ := h
    have nd := scST.nd
    have hr3 : Room 3 _ := hr
    have hr2 : Room 2 _ := hr.mono (by decide)
    have hr1 : Room 1 _ := hr.mono (by decide)
    have nDl : D0 ≠ l := by
      obtain ⟨_, ds, _, _, _, h3, _⟩ := M.ex
      exact ne_of hD h3 (by intro z; cases z)
    refine ⟨_, pss_cons (ps_par (i := 2) (j := 3) (by rfl) nd rfl rfl (by decide) rfl rfl (pa_cons (pe_mid (pe_op op_fdiv (pe_callB cr_len_d (by rfl) T.len PySem.boot_len (pa_cons (pv 1) pa_nil)) pe_int)) (pa_cons (pe_call GD hr2 rfl D.g D.kp D.b .nil pass0 (pa_cons (pv 0) (pa_cons pe_int pa_nil))) pa_nil)) (by rfl))
      (pss_cons (ps_if (pt_cmpR op_eq (pv 3) pe_int (nomark _)) (pss_one (ps_ret (pe_op op_repX (pe_tup (pa_cons (pe_call GD hr2 rfl D.g D.kp D.b .nil pass0 (pa_cons (pv 0) (pa_cons pe_int pa_nil))) pa_nil)) (pv 2)))) pss_nil)
      (pss_cons (ps_setLc (i := 4) (own := [("number", 5)]) (g := (gName 5)) (tt := tYes) (te := (tCall spDR [] E0 (tCons (tVar 0) (tCons (tC (.int 3)) tNil)))) rfl nd rfl rfl (sw_true rfl rfl rfl (by decide +kernel)) (pi_range1 (by rfl) T.range (pa_cons (pv 2) pa_nil)) (blkOk_by (N := nST) (sc := defScope sST) (by decide +kernel)) (fun _ _ _ _ _ => pg_name (i := 5) nd rfl (Or.inl rfl)) (fun _ _ _ _ _ => pts_nil) (fun _ _ _ _ _ => by exact (pe_call GD hr2 rfl D.g D.kp D.b .nil pass0 (pa_cons (pv 0) (pa_cons pe_int pa_nil)))))
      (pss_cons (ps_if (pt_cmpR op_gt (pv 3) pe_int (nomark _)) (pss_one (ps_for PassesOwn.never rfl (pi_list (pe_call GO hr3 rfl O.g O.kp O.b .nil pass0 (pa_cons (pv 0) (pa_cons (pv 2) pa_nil)))) (pg_name (i := 6) nd rfl (Or.inl rfl))
        (pss_one (ps_if (pt_cmpR op_gt (pe_call GD hr2 rfl D.g D.kp D.b .nil pass0 (pa_cons (pv 0) (pa_cons (pe_op op_sub (pe_op op_mul pe_int (pv 3)) pe_int) pa_nil))) pe_int (nomark _)) (pss_one (ps_asg (pe_call GU hr1 rfl Ou.g Ou.kp Ou.b .nil pass0 (pa_cons (pv 1) (pa_cons (pv 4) (pa_cons (pv 6) pa_nil)))) (pg_sub (pv 4) (pv 6) set_list))) pss_nil)))) pss_nil)
      (pss_one (ps_ret (pe_tupleOf (by rfl) T.tuple (pv 4))))))), ?_⟩
    refine ⟨fun v H1 => v = .int (m : Nat) ∧ H1 = H, ?_, ?_⟩
    · refine ⟨_, rfl, D0, _, rfl, hD, _, _, rfl, rfl, ⟨by decide, by decide⟩, ?_, rfl⟩
      have e : (((fkv (far ps) (ends ps)).length : Nat) : Int) / 4 = ((m : Nat) : Int) := by
        unfold fkv
        rw [List.length_map, ends_two, L.len]
        omega
      show V.int ((((fkv (far ps) (ends ps)).length : Nat) : Int) / 4) = _
      rw [e]
    rintro v H1' ⟨rfl, rfl⟩
    refine ⟨_, rfl, p, a, l, n, 4, rfl, M, by omega, by decide, by decide, fun H1 way M1 e1 w0 w4 => ⟨_, _, rfl, ?_⟩⟩
    have hD1 := e1 _ _ nDp nDl hD
    refine ⟨_, rfl, rfl, _, rfl, ite2 (fun _ => ?_) (fun _ => ?_)⟩
    · refine ⟨_, rfl, p, a, l, _, 3, rfl, M1, by omega, by decide, by decide, fun H2 q M2 e2 q0 q3 => ⟨by show 1 ≤ sizeLine; decide, fun t1 ht1 => ?_⟩⟩
      have s3 := Same.new (o := .tup [V.int q]) ht1
      refine ⟨_, rfl, t1, m, V.int q, rfl, rfl, upd_same, h0, by omega, fun H3 t3 s4 ht3 => ?_⟩
      have s34 := s3.trans s4
      refine k H3 t3 (List.replicate m q.toNat) ((M2.keep s34).lt (by omega) (by omega)) ((e1.trans e2).trans (ExtL.same s34)) ⟨List.length_replicate, fun x hx => ?_, ?_⟩
      · rw [(List.mem_replicate.mp hx).2]
        omega
      · rw [ht3]
        unfold nats
        rw [List.map_replicate, show ((q.toNat : Nat) : Int) = q by omega]
    · refine ⟨_, rfl, _, rfl, by omega, by omega, fun Fd hFd => ?_⟩
      rw [show ((m : Nat) : Int).toNat = m by omega]
      have sF := Same.new (o := .lst []) hFd
      obtain ⟨nFp, nFl⟩ := M1.apart hFd
      refine lc_it (walk_range (lo := 0) (n := m)) (fun i H6 => ∃ ws : List Nat, ws.length = i ∧ H6 Fd = some (.lst (nats ws)) ∧ (∀ x ∈ ws, x < 3) ∧ ML H6 p a l (n + 1 + i) ∧ ExtL p l H1 H6)
        ⟨[], rfl, upd_same, fun x h => absurd h (by simp), M1.keep sF, ExtL.same sF⟩ (fun _ _ _ _ => trivial) ?_ ?_
      · rintro i v H6 H7 hi ⟨ws, lw, h6, w6, M6, e6⟩ ⟨rfl, rfl⟩
        refine ⟨rfl, yes ⟨_, rfl, p, a, l, _, 3, rfl, M6, by omega, by decide, by decide, fun H8 q M8 e8 q0 q3 => ?_⟩⟩
        have h8 := e8 _ _ nFp nFl h6
        refine ⟨_, h8, small1000 (by rw [List.length_map]; omega), ws ++ [q.toNat], by rw [List.length_append, lw]; rfl, ?_, fun x hx => ?_, (ML.wrN M1 hFd M8).lt (by omega) (by omega), (e6.trans e8).wr hFd⟩
        · rw [upd_same, nats_app]
          show some (HO.lst (nats ws ++ [V.int q])) = some (HO.lst (nats ws ++ [V.int ((q.toNat : Nat) : Int)]))
          rw [show ((q.toNat : Nat) : Int) = q by omega]
        · rcases List.mem_append.mp hx with h | h
          · exact w6 x h
          · rw [List.mem_singleton.mp h]
            omega
      · rintro H6 ⟨ws, lw, h6, w6, M6, e6⟩
        have fin : ∀ (H' : Hp) (ws' : List Nat), H' Fd = some (.lst (nats ws')) → ws'.length = m → (∀ x ∈ ws', x < 3) → ML H' p a l (n + 1 + 3 * m) → ExtL p l H1 H' → kTup K (.ref Fd) H' Q := fun H' ws' hF hlw hw M' e' => by
          refine .inl ⟨Fd, _, rfl, SqL.of hF, fun u hu => ?_⟩
          have su := Same.new (o := .tup (nats ws')) hu
          exact k _ u ws' ((M'.keep su).lt (by omega) (by omega)) ((e1.trans e').trans (ExtL.same su)) ⟨hlw, hw, upd_same⟩
        refine ⟨_, rfl, _, _, rfl, rfl, _, rfl, ite2 (fun hb => ?_) (fun _ => ?_)⟩
        · have hw1 : (1 : Int) < way := of_decide_eq_true hb
          refine ⟨_, rfl, _, rfl, p, a, l, _, m, rfl, M6, by omega, by omega, fun H7 b cs M7 e7 hbn hb7 hbp => ⟨b, rfl, ⟨_, SqL.of hb7⟩, ?_⟩⟩
          obtain ⟨nbp, nbl⟩ := M6.apart hbn
          have h7 := e7 _ _ nFp nFl h6
          have nFb : Fd ≠ b := ne_of_none h6 hbn
          have lcs : cs.length = m := by rw [hbp.length_eq, List.length_range]
          refine for_it (walk_list (K := K) (a := b) (xs := nats cs)) (fun i σ H' => ∃ (v5 v6 : Option V) (ws' : List Nat), σ = [some (.ref p), some (.ref D0), some (.int (m : Nat)), some (.int way), some (.ref Fd), v5, v6] ∧ ws'.length = m ∧ (∀ x ∈ ws', x < 3) ∧ H' Fd = some (.lst (nats ws')) ∧ H' b = some (.lst (nats cs)) ∧ ML H' p a l (n + 1 + 2 * m + i) ∧ ExtL p l H1 H')
            ⟨_, _, ws, rfl, lw, w6, h7, hb7, M7.lt (by omega) (by omega), e6.trans e7⟩ (fun i σ H' _ ⟨_, _, _, _, _, _, _, h', _⟩ => SqL.of h') ?_ ?_
          · rintro i v σ H8 H9 hi ⟨v5, v6, ws', rfl, lw', w', hF9, hb9, M9, e9⟩ ⟨rfl, hv⟩
            have hv : (nats cs)[i]? = some v := hv
            rw [List.length_map] at hi
            rw [List.getElem?_map, List.getElem?_eq_getElem hi] at hv
            cases hv
            have hcm : cs[i] < m := List.mem_range.mp (hbp.mem_iff.mp (List.getElem_mem hi))
            generalize cs[i] = c at hcm
            refine ⟨_, rfl, _, rfl, _, _, rfl, rfl, .inl ⟨by decide, by decide⟩, _, _, rfl, rfl, p, a, l, _, _, rfl, M9, by omega, by omega, by omega, fun HA q MA eA q0 q1 => ⟨_, _, rfl, rfl, _, rfl, ite2 (fun _ => ?_) (fun _ => ?_)⟩⟩
            · have hFA := eA _ _ nFp nFl hF9
              have hDA := (e9.trans eA) _ _ nDp nDl hD1
              refine ⟨_, rfl, _, rfl, _, rfl, D0, Fd, m, c, ps, ws', rfl, L, hDA, hFA, lw', w', hcm, fun j o OA ho eo => ?_⟩
              refine ⟨_, rfl, _, rfl, Fd, _, _, c, rfl, rfl, hFA, ix_nat (by rw [List.length_map, lw']; exact hcm), ?_⟩
              have es : (nats ws').set c (V.int (o : Nat)) = nats (ws'.set c o) := (List.map_set).symm
              rw [es]
              refine ⟨_, _, ws'.set c o, rfl, by rw [List.length_set]; exact lw', fun x hx => ?_, upd_same, (upd_ne (Ne.symm nFb)).trans (eA _ _ nbp nbl hb9), ML.wrN M1 hFd MA, (e9.trans eA).wr hFd⟩
              rcases List.mem_or_eq_of_mem_set hx with h | h
              · exact w' x h
              · rw [h]
                exact ho
            · exact ⟨_, _, ws', rfl, lw', w', eA _ _ nFp nFl hF9, eA _ _ nbp nbl hb9, MA, e9.trans eA⟩
          · rintro σ H8 ⟨v5, v6, ws', rfl, lw', w', hF9, hb9, M9, e9⟩
            rw [List.length_map, lcs] at M9
            exact ⟨_, rfl, fin _ ws' hF9 lw' w' (M9.lt (by omega) (by omega)) e9⟩
        · exact ⟨_, rfl, fin _ ws h6 lw w6 (M6.lt (by omega) (by omega)) e6⟩
end
end One
end P_SA

section P_M21
set_option linter.all false
/-! Going on from each end of a crossing, till one comes to the crossing; and the rounds that have its lines. -/
namespace One
theorem xor_blk {c r w : Nat} (hr : r < 4) (hw : w < 4) : (4 * c + r) ^^^ w = 4 * c + (r ^^^ w) := by
  have h1 := Nat.xor_div_two_pow (a := 4 * c + r) (b := w) (n := 2)
  have h2 := Nat.xor_mod_two_pow (a := 4 * c + r) (b := w) (n := 2)
  rw [show (2 : Nat) ^ 2 = 4 from rfl] at h1 h2
  have e1 : (4 * c + r) / 4 = c := by omega
  have e2 : (4 * c + r) % 4 = r := by omega
  have e3 : w / 4 = 0 := by omega
  have e4 : w % 4 = w := by omega
  rw [e1, e3, Nat.xor_zero] at h1
  rw [e2, e4] at h2
  have h3 : (r ^^^ w) % 4 = r ^^^ w := by
    have hc : (r = 0 ∨ r = 1 ∨ r = 2 ∨ r = 3) ∧ (w = 0 ∨ w = 1 ∨ w = 2 ∨ w = 3) := by omega
    obtain ⟨rfl | rfl | rfl | rfl, rfl | rfl | rfl | rfl⟩ := hc <;> decide
  have := Nat.div_add_mod ((4 * c + r) ^^^ w) 4
  rw [h1, h2] at this
  exact this.symm
section
variable {F W : Nat → Nat} {n : Nat}
def goalE (F W : Nat → Nat) (e k : Nat) : Nat := F (iter (nextE F W) k e)
theorem goalE_next (F W : Nat → Nat) (e k : Nat) : goalE F W e (k + 1) = F (goalE F W e k ^^^ (W (goalE F W e k / 4) + 1)) := rfl
/-- the first end of the crossing to which one comes from e -/
structure FirstAt (F W : Nat → Nat) (c e j x : Nat) : Prop where
  is : goalE F W e j = x
  here : x / 4 = c
  first : ∀ i, i < j → goalE F W e i / 4 ≠ c
theorem FirstAt.one {c e j k x y : Nat} (a : FirstAt F W c e j x) (b : FirstAt F W c e k y) : j = k ∧ x = y := by
  have : j = k := by
    rcases Nat.lt_trichotomy j k with h | h | h
    · exact absurd (by rw [a.is]; exact a.here) (b.first j h)
    · exact h
    · exact absurd (by rw [b.is]; exact b.here) (a.first k h)
  subst this
  exact ⟨rfl, a.is.symm.trans b.is⟩
theorem goalE_lt (I : Inv2 F n) (hW : ∀ c, c < n → W c < 3) {e : Nat} (he : e < 4 * n) (k : Nat) : goalE F W e k < 4 * n := I.lt _ ((next_goes I hW).iter_lt he k)
theorem iter_blk (I : Inv2 F n) (hW : ∀ c, c < n → W c < 3) {e : Nat} (he : e < 4 * n) (k : Nat) : iter (nextE F W) (k + 1) e / 4 = goalE F W e k / 4 := by
  have l := goalE_lt I hW he k
  exact mate_block (hW _ (by omega : goalE F W e k / 4 < n))
theorem first_some (I : Inv2 F n) (hW : ∀ c, c < n → W c < 3) {c e : Nat} (he : e < 4 * n) (hc : e / 4 = c) : ∃ j x, FirstAt F W c e j x := by
  have G := next_goes I hW
  obtain ⟨kk, per, _⟩ := G.per he
  have pos := per.pos
  have last : goalE F W e (kk - 1) / 4 = c := by
    have b := iter_blk I hW he (kk - 1)
    rw [show kk - 1 + 1 = kk by omega, per.back] at b
    omega
  have least : ∀ k, goalE F W e k / 4 = c → ∃ j x, FirstAt F W c e j x := by
    intro k
    induction k using Nat.strongRecOn with
    | ind k ih =>
      intro h
      by_cases q : ∃ i, i < k ∧ goalE F W e i / 4 = c
      · obtain ⟨i, hi, e⟩ := q
        exact ih i hi e
      · exact ⟨k, _, rfl, h, fun i hi e => q ⟨i, hi, e⟩⟩
  exact least _ last
theorem FirstAt.rev (I : Inv2 F n) (hW : ∀ c, c < n → W c < 3) {c e j x : Nat} (he : e < 4 * n) (hc : e / 4 = c) (a : FirstAt F W c e j x) : FirstAt F W c x j e := by
  have key : ∀ i, i ≤ j → goalE F W x i = iter (nextE F W) (j - i) e := fun i hi => by
    have h := iter_far I hW ((next_goes I hW).iter_lt he (j - i)) i
    rw [← iter_add, show i + (j - i) = j by omega] at h
    have hx : F (iter (nextE F W) j e) = x := a.is
    rw [hx] at h
    show F (iter (nextE F W) i x) = _
    rw [h, I.inv _ ((next_goes I hW).iter_lt he _)]
  refine ⟨?_, hc, fun i hi => ?_⟩
  · rw [key j (Nat.le_refl _), Nat.sub_self]
    rfl
  · rw [key i (by omega), show j - i = (j - i - 1) + 1 by omega, iter_blk I hW he]
    exact a.first _ (by omega)
theorem FirstAt.ne (I : Inv2 F n) (hW : ∀ c, c < n → W c < 3) {c e j x : Nat} (he : e < 4 * n) (a : FirstAt F W c e j x) : x ≠ e := fun h => by
  subst h
  have l := (next_goes I hW).iter_lt he j
  have : iter (nextE F W) j x = F x := by
    have q := I.inv _ l
    have hx : F (iter (nextE F W) j x) = x := a.is
    rw [hx] at q
    exact q.symm
  exact no_far I hW he j this
/-- each end's first is its mate by the outer way -/
theorem outer_all (I : Inv2 F n) (hW : ∀ c, c < n → W c < 3) {c o j0 : Nat} (hc : c < n) (ho : o < 3) (a : FirstAt F W c (4 * c) j0 (4 * c + o + 1)) {r : Nat} (hr : r < 4) : ∃ j, FirstAt F W c (4 * c + r) j ((4 * c + r) ^^^ (o + 1)) := by
  have hl : ∀ r, r < 4 → 4 * c + r < 4 * n := fun r h => by omega
  have hb : ∀ r, r < 4 → (4 * c + r) / 4 = c := fun r h => by omega
  obtain ⟨j, x, q⟩ := first_some I hW (hl r hr) (hb r hr)
  have xc : ∃ s, s < 4 ∧ x = 4 * c + s := ⟨x - 4 * c, by have := q.here; omega, by have := q.here; omega⟩
  obtain ⟨s, hs, rfl⟩ := xc
  have sr : s ≠ r := fun h => q.ne I hW (hl r hr) (by rw [h])
  have q' := q.rev I hW (hl r hr) (hb r hr)
  have a' := a.rev I hW (by omega) (by omega)
  rw [xor_blk hr (by omega)]
  have z0 : r = 0 → s = o + 1 := fun h => by
    subst h
    have := (q.one a).2
    omega
  have z1 : r = o + 1 → s = 0 := fun h => by
    subst h
    have e : 4 * c + o + 1 = 4 * c + (o + 1) := by omega
    rw [e] at a'
    have := (q.one a').2
    omega
  have z2 : s = 0 → r = o + 1 := fun h => by
    subst h
    have := (q'.one a).2
    omega
  have z3 : s = o + 1 → r = 0 := fun h => by
    subst h
    have e : 4 * c + o + 1 = 4 * c + (o + 1) := by omega
    rw [e] at a'
    have := (q'.one a').2
    omega
  refine ⟨j, ?_⟩
  have hs' : s = r ^^^ (o + 1) := by
    have hh : (r = 0 ∨ r = 1 ∨ r = 2 ∨ r = 3) ∧ (s = 0 ∨ s = 1 ∨ s = 2 ∨ s = 3) ∧ (o = 0 ∨ o = 1 ∨ o = 2) := by omega
    obtain ⟨rfl | rfl | rfl | rfl, rfl | rfl | rfl | rfl, rfl | rfl | rfl⟩ := hh <;> first | decide | (exfalso; omega)
  rw [← hs']
  exact q
/-- whatever way the crossing itself has -/
theorem FirstAt.way {W' : Nat → Nat} {c e j x : Nat} (a : FirstAt F W c e j x) (h : ∀ d, d ≠ c → W' d = W d) : FirstAt F W' c e j x := by
  have key : ∀ i, i ≤ j → iter (nextE F W') i e = iter (nextE F W) i e := by
    intro i
    induction i with
    | zero => intro _; rfl
    | succ i ih =>
      intro hi
      show nextE F W' (iter (nextE F W') i e) = nextE F W (iter (nextE F W) i e)
      rw [ih (by omega)]
      have := a.first i (by omega)
      have q : W' (F (iter (nextE F W) i e) / 4) = W (F (iter (nextE F W) i e) / 4) := h _ this
      show F (iter (nextE F W) i e) ^^^ (W' (F (iter (nextE F W) i e) / 4) + 1) = _
      rw [q]
      rfl
  have kg : ∀ i, i ≤ j → goalE F W' e i = goalE F W e i := fun i hi => by
    unfold goalE
    rw [key i hi]
  exact ⟨(kg j (Nat.le_refl _)).trans a.is, a.here, fun i hi => by rw [kg i (by omega)]; exact a.first i hi⟩
/-! ### the lines of a round -/
def On (F W : Nat → Nat) (p : Nat × Nat) (e : Nat) : Prop := e ∈ rnd (nextE F W) p.1 p.2 ∨ F e ∈ rnd (nextE F W) p.1 p.2
theorem rnd_next (p : Nat × Nat) (h : Per (nextE F W) p.1 p.2) {x : Nat} (hx : x ∈ rnd (nextE F W) p.1 p.2) : nextE F W x ∈ rnd (nextE F W) p.1 p.2 := by
  obtain ⟨i, _, rfl⟩ := mem_rnd.mp hx
  exact h.mod (i + 1)
theorem On.far (I : Inv2 F n) {p : Nat × Nat} {e : Nat} (he : e < 4 * n) (h : On F W p e) : On F W p (F e) := by
  rcases h with h | h
  · exact .inr (by rw [I.inv e he]; exact h)
  · exact .inl h
theorem On.mate (I : Inv2 F n) (hW : ∀ c, c < n → W c < 3) {p : Nat × Nat} (hp : p.1 < 4 * n) (per : Per (nextE F W) p.1 p.2) {e : Nat} (he : e < 4 * n) (h : On F W p e) : On F W p (e ^^^ (W (e / 4) + 1)) := by
  rcases h with h | h
  · obtain ⟨i, hi, rfl⟩ := mem_rnd.mp h
    have pos := per.pos
    obtain ⟨x, hx, ex⟩ : ∃ x ∈ rnd (nextE F W) p.1 p.2, nextE F W x = iter (nextE F W) i p.1 := by
      by_cases h0 : i = 0
      · subst h0
        refine ⟨iter (nextE F W) (p.2 - 1) p.1, per.mod _, ?_⟩
        have b := per.back
        rw [show p.2 = (p.2 - 1) + 1 by omega] at b
        exact b
      · refine ⟨iter (nextE F W) (i - 1) p.1, per.mod _, ?_⟩
        rw [show i = (i - 1) + 1 by omega]
        rfl
    have lx := rnd_lt I hW hp hx
    have lF := I.lt x lx
    have blk : (F x ^^^ (W (F x / 4) + 1)) / 4 = F x / 4 := mate_block (hW _ (by omega))
    right
    have e1 : iter (nextE F W) i p.1 ^^^ (W (iter (nextE F W) i p.1 / 4) + 1) = F x := by
      rw [← ex]
      show (F x ^^^ (W (F x / 4) + 1)) ^^^ (W ((F x ^^^ (W (F x / 4) + 1)) / 4) + 1) = F x
      rw [blk, mate_mate]
    rw [e1, I.inv x lx]
    exact hx
  · left
    have := rnd_next p per h
    have e2 : nextE F W (F e) = e ^^^ (W (e / 4) + 1) := by
      unfold nextE
      rw [I.inv e he]
    rw [e2] at this
    exact this
theorem On.same (I : Inv2 F n) (hW : ∀ c, c < n → W c < 3) {p : Nat × Nat} (hp : p.1 < 4 * n) (per : Per (nextE F W) p.1 p.2) {e k : Nat} (he : e < 4 * n) (pe : Per (nextE F W) e k) (h : On F W p e) {x : Nat} (hx : x < 4 * n) : On F W p x ↔ On F W (e, k) x := by
  have G := next_goes I hW
  have se : e ∈ rnd (nextE F W) e k := self_rnd pe
  rcases h with h | h
  · have a1 := Per.same G hp he per pe h se
    have a2 := Per.same G he hp pe per se h
    exact ⟨fun q => q.elim (fun q => .inl (a1 _ q)) (fun q => .inr (a1 _ q)), fun q => q.elim (fun q => .inl (a2 _ q)) (fun q => .inr (a2 _ q))⟩
  · obtain ⟨pf, hf⟩ := far_round I hW he pe
    have sf : F e ∈ rnd (nextE F W) (F e) k := self_rnd pf
    have a1 := Per.same G hp (I.lt e he) per pf h sf
    have a2 := Per.same G (I.lt e he) hp pf per sf h
    have key : ∀ z, z < 4 * n → (z ∈ rnd (nextE F W) p.1 p.2 ↔ F z ∈ rnd (nextE F W) e k) := fun z hz => by
      constructor
      · intro q
        obtain ⟨y, hy, rfl⟩ := (hf z).mp (a1 _ q)
        rw [I.inv y (rnd_lt I hW he hy)]
        exact hy
      · intro q
        exact a2 _ ((hf z).mpr ⟨F z, q, I.inv z hz⟩)
    constructor
    · rintro (q | q)
      · exact .inr ((key x hx).mp q)
      · left
        have := (key (F x) (I.lt x hx)).mp q
        rw [I.inv x hx] at this
        exact this
    · rintro (q | q)
      · exact .inr ((key (F x) (I.lt x hx)).mpr (by rw [I.inv x hx]; exact q))
      · exact .inl ((key x hx).mpr q)
/-- the way at the crossing leads back: no other of its ends is on that round -/
theorem back_only (I : Inv2 F n) (hW : ∀ c, c < n → W c < 3) {c e j : Nat} (he : e < 4 * n) (hc : e / 4 = c) (a : FirstAt F W c e j (e ^^^ (W c + 1))) : Per (nextE F W) e (j + 1) ∧ ∀ x, x < 4 * n → x / 4 = c → On F W (e, j + 1) x → x = e ∨ x = e ^^^ (W c + 1) := by
  have hcn : c < n := by omega
  have notc : ∀ i, 0 < i → i ≤ j → iter (nextE F W) i e / 4 ≠ c := fun i h0 hi => by
    rw [show i = (i - 1) + 1 by omega, iter_blk I hW he]
    exact a.first _ (by omega)
  have per : Per (nextE F W) e (j + 1) := by
    refine ⟨by omega, ?_, fun i h0 h1 e' => ?_⟩
    · show goalE F W e j ^^^ (W (goalE F W e j / 4) + 1) = e
      rw [a.is, a.here, mate_mate]
    · exact notc i h0 (by omega) (by rw [e']; exact hc)
  refine ⟨per, fun x hx xc h => ?_⟩
  rcases h with h | h
  · obtain ⟨i, hi, rfl⟩ := mem_rnd.mp h
    by_cases h0 : i = 0
    · subst h0
      exact .inl rfl
    · exact absurd xc (notc i (by omega) (by have : i < j + 1 := hi; omega))
  · obtain ⟨i, hi, e1⟩ := mem_rnd.mp h
    have hi : i < j + 1 := hi
    have e2 : goalE F W e i = x := by
      show F (iter (nextE F W) i e) = x
      have : iter (nextE F W) i e = F x := e1
      rw [this, I.inv x hx]
    by_cases hj : i = j
    · subst hj
      exact .inr (e2.symm.trans a.is)
    · exact absurd (by rw [e2]; exact xc) (a.first i (by omega))
end
end One
end P_M21

section P_M22
set_option linter.all false
/-! How many of a crossing's ends are on each round. -/
namespace One
section
variable {F W : Nat → Nat} {n : Nat}
/-- the ends of a round, and the far ones -/
def bothE (F W : Nat → Nat) (p : Nat × Nat) : List Nat := rnd (nextE F W) p.1 p.2 ++ (rnd (nextE F W) p.1 p.2).map F
def cntE (F W : Nat → Nat) (c : Nat) (p : Nat × Nat) : Nat := ((bothE F W p).filter fun e => decide (e / 4 = c)).length
theorem mem_both (I : Inv2 F n) (hW : ∀ c, c < n → W c < 3) {p : Nat × Nat} (hp : p.1 < 4 * n) {e : Nat} (he : e < 4 * n) : e ∈ bothE F W p ↔ On F W p e := by
  unfold bothE On
  rw [List.mem_append, List.mem_map]
  constructor
  · rintro (h | ⟨x, hx, rfl⟩)
    · exact .inl h
    · exact .inr (by rw [I.inv x (rnd_lt I hW hp hx)]; exact hx)
  · rintro (h | h)
    · exact .inl h
    · exact .inr ⟨F e, h, I.inv e he⟩
theorem both_lt (I : Inv2 F n) (hW : ∀ c, c < n → W c < 3) {p : Nat × Nat} (hp : p.1 < 4 * n) {e : Nat} (h : e ∈ bothE F W p) : e < 4 * n := by
  rcases List.mem_append.mp h with h | h
  · exact rnd_lt I hW hp h
  · obtain ⟨x, hx, rfl⟩ := List.mem_map.mp h
    exact I.lt _ (rnd_lt I hW hp hx)
theorem both_nodup (I : Inv2 F n) (hW : ∀ c, c < n → W c < 3) {p : Nat × Nat} (hp : p.1 < 4 * n) (per : Per (nextE F W) p.1 p.2) : (bothE F W p).Nodup := by
  have G := next_goes I hW
  have nd := G.nodup hp p.2 per.first
  refine List.nodup_append.mpr ⟨nd, ?_, fun a ha b hb e => ?_⟩
  · refine List.pairwise_map.mpr (nd.imp_of_mem fun {x y} hx hy ne e => ne ?_)
    rw [← I.inv x (rnd_lt I hW hp hx), ← I.inv y (rnd_lt I hW hp hy), e]
  · obtain ⟨x, hx, rfl⟩ := List.mem_map.mp hb
    subst e
    obtain ⟨i, hi, rfl⟩ := mem_rnd.mp hx
    obtain ⟨j, hj, ej⟩ := mem_rnd.mp ha
    have l := G.iter_lt hp i
    -- the one goes on to the other's far end
    have : ∃ d, iter (nextE F W) d (iter (nextE F W) i p.1) = iter (nextE F W) j p.1 := by
      refine ⟨p.2 - i + j, ?_⟩
      rw [← iter_add]
      have e1 : p.2 - i + j + i = j + p.2 := by
        have : i < p.2 := hi
        omega
      rw [e1, iter_add, per.back]
    obtain ⟨d, hd⟩ := this
    exact no_far I hW l d (hd.trans ej)
theorem filter_perm_len {l m : List Nat} (h1 : l.Nodup) (h2 : m.Nodup) (h : ∀ x, x ∈ l ↔ x ∈ m) : l.length = m.length := ((List.perm_ext_iff_of_nodup h1 h2).mpr h).length_eq
/-- as many as the list of those of the crossing's ends that are on it -/
theorem cnt_of (I : Inv2 F n) (hW : ∀ c, c < n → W c < 3) {c : Nat} {p : Nat × Nat} (hc : c < n) (hp : p.1 < 4 * n) (per : Per (nextE F W) p.1 p.2) {m : List Nat} (nd : m.Nodup) (h : ∀ x, x ∈ m ↔ x / 4 = c ∧ On F W p x) : cntE F W c p = m.length := by
  unfold cntE
  refine filter_perm_len ((both_nodup I hW hp per).filter _) nd fun x => ?_
  rw [List.mem_filter, decide_eq_true_eq, h]
  constructor
  · rintro ⟨a, b⟩
    exact ⟨b, (mem_both I hW hp (both_lt I hW hp a)).mp a⟩
  · rintro ⟨b, a⟩
    exact ⟨(mem_both I hW hp (by omega)).mpr a, b⟩
theorem cnt_none (I : Inv2 F n) (hW : ∀ c, c < n → W c < 3) {c : Nat} {p : Nat × Nat} (hc : c < n) (hp : p.1 < 4 * n) (per : Per (nextE F W) p.1 p.2) (h : ∀ x, x / 4 = c → ¬ On F W p x) : cntE F W c p = 0 :=
  cnt_of I hW hc hp per (m := []) .nil fun x => ⟨fun q => by simp at q, fun q => absurd q.2 (h x q.1)⟩
/-- it has lines at the crossing just where some are counted -/
theorem meets_iff (I : Inv2 F n) (hW : ∀ c, c < n → W c < 3) {c : Nat} {p : Nat × Nat} (hp : p.1 < 4 * n) (per : Per (nextE F W) p.1 p.2) : (∃ x ∈ rnd (nextE F W) p.1 p.2, x / 4 = c) ↔ cntE F W c p ≠ 0 := by
  unfold cntE
  rw [← Nat.pos_iff_ne_zero, List.length_pos_iff_exists_mem]
  constructor
  · rintro ⟨x, hx, e⟩
    exact ⟨x, List.mem_filter.mpr ⟨List.mem_append.mpr (.inl hx), decide_eq_true e⟩⟩
  · rintro ⟨x, hx⟩
    obtain ⟨h1, h2⟩ := List.mem_filter.mp hx
    have h2 := of_decide_eq_true h2
    rcases List.mem_append.mp h1 with h | h
    · exact ⟨x, h, h2⟩
    · obtain ⟨z, hz, rfl⟩ := List.mem_map.mp h
      refine ⟨nextE F W z, rnd_next p per hz, ?_⟩
      have lz := I.lt z (rnd_lt I hW hp hz)
      have : (F z ^^^ (W (F z / 4) + 1)) / 4 = F z / 4 := mate_block (hW _ (by omega))
      exact this.trans h2
theorem On.one {rs : List (Nat × Nat)} (I : Inv2 F n) (R : Rounds F W n rs) {p q : Nat × Nat} (hp : p ∈ rs) (hq : q ∈ rs) {e : Nat} (he : e < 4 * n) (h : On F W p e) (k : On F W q e) : p = q := by
  have sym : ∀ {p q : Nat × Nat}, (∀ x, x ∈ rnd (nextE F W) p.1 p.2 → x ∉ rnd (nextE F W) q.1 q.2 ∧ F x ∉ rnd (nextE F W) q.1 q.2) → On F W p e → On F W q e → False := fun {p q} d h k => by
    rcases h with h | h
    · obtain ⟨a, b⟩ := d _ h
      rcases k with k | k
      · exact a k
      · exact b k
    · obtain ⟨a, b⟩ := d _ h
      rw [I.inv e he] at b
      rcases k with k | k
      · exact b k
      · exact a k
  have : ∀ {l : List (Nat × Nat)}, l.Pairwise (fun p q => ∀ x, x ∈ rnd (nextE F W) p.1 p.2 → x ∉ rnd (nextE F W) q.1 q.2 ∧ F x ∉ rnd (nextE F W) q.1 q.2) → p ∈ l → q ∈ l → p = q := by
    intro l hl
    induction hl with
    | nil => intro h; simp at h
    | @cons a l ha _ ih =>
      intro h1 h2
      rcases List.mem_cons.mp h1 with e1 | g1
      · rcases List.mem_cons.mp h2 with e2 | g2
        · exact e1.trans e2.symm
        · subst e1
          exact (sym (ha _ g2) h k).elim
      · rcases List.mem_cons.mp h2 with e2 | g2
        · subst e2
          exact (sym (ha _ g1) k h).elim
        · exact ih g1 g2
  exact this R.one hp hq
theorem counts_list {rs : List (Nat × Nat)} {g : Nat × Nat → Nat} {v : Nat} {ms : List (Nat × Nat)} (hv : v ≠ 0) (nd : rs.Nodup) (ndm : ms.Nodup) (h : ∀ p ∈ rs, p ∈ ms → g p = v) (h0 : ∀ p ∈ rs, p ∉ ms → g p = 0) (hm : ∀ p ∈ ms, p ∈ rs) : (rs.filter fun p => decide (g p ≠ 0)).map g = List.replicate ms.length v := by
  have mem : ∀ p, p ∈ rs.filter (fun p => decide (g p ≠ 0)) ↔ p ∈ ms := fun p => by
    rw [List.mem_filter, decide_eq_true_eq]
    constructor
    · rintro ⟨a, b⟩
      by_cases q : p ∈ ms
      · exact q
      · exact absurd (h0 p a q) b
    · intro q
      exact ⟨hm p q, by rw [h p (hm p q) q]; exact hv⟩
  have len : (rs.filter fun p => decide (g p ≠ 0)).length = ms.length := ((List.perm_ext_iff_of_nodup (nd.filter _) ndm).mpr mem).length_eq
  refine List.eq_replicate_iff.mpr ⟨by rw [List.length_map, len], fun x hx => ?_⟩
  obtain ⟨p, hp, rfl⟩ := List.mem_map.mp hx
  exact h p (List.mem_filter.mp hp).1 ((mem p).mp hp)
/-- two rounds with two ends each where the outer way is set, else one with four -/
theorem met_counts {rs : List (Nat × Nat)} (I : Inv2 F n) (hW : ∀ c, c < n → W c < 3) (R : Rounds F W n rs) {c o j0 : Nat} (hc : c < n) (ho : o < 3) (a : FirstAt F W c (4 * c) j0 (4 * c + o + 1)) : (rs.filter fun p => decide (cntE F W c p ≠ 0)).map (cntE F W c) = if W c = o then [2, 2] else [4] := by
  have hl : ∀ r, r < 4 → 4 * c + r < 4 * n := fun r h => by omega
  have hb : ∀ r, r < 4 → (4 * c + r) / 4 = c := fun r h => by omega
  have ndr : rs.Nodup := R.up.imp fun h e => by
    subst e
    omega
  have at_ : ∀ x, x < 4 * n → x / 4 = c → ∃ r, r < 4 ∧ x = 4 * c + r := fun x _ h => ⟨x - 4 * c, by omega, by omega⟩
  have lt_ : ∀ x, x / 4 = c → x < 4 * n := fun x h => by omega
  -- from each end the round leads to its mate by the outer way
  have path : ∀ {p : Nat × Nat} {e : Nat}, p ∈ rs → e < 4 * n → On F W p e → ∀ i, On F W p (iter (nextE F W) i e) ∧ On F W p (goalE F W e i) := fun {p e} hp he h i => by
    obtain ⟨p1, p2⟩ := R.per p hp
    induction i with
    | zero => exact ⟨h, h.far I he⟩
    | succ i ih =>
      have l := goalE_lt I hW he i
      have q := ih.2.mate I hW p1 p2 l
      exact ⟨q, q.far I ((next_goes I hW).iter_lt he (i + 1))⟩
  have outer : ∀ {p : Nat × Nat} {r : Nat}, p ∈ rs → r < 4 → On F W p (4 * c + r) → On F W p ((4 * c + r) ^^^ (o + 1)) := fun {p r} hp hr h => by
    obtain ⟨j, q⟩ := outer_all I hW hc ho a hr
    have := (path hp (hl r hr) h j).2
    rw [q.is] at this
    exact this
  have own : ∀ {p : Nat × Nat} {r : Nat}, p ∈ rs → r < 4 → On F W p (4 * c + r) → On F W p ((4 * c + r) ^^^ (W c + 1)) := fun {p r} hp hr h => by
    obtain ⟨p1, p2⟩ := R.per p hp
    have := h.mate I hW p1 p2 (hl r hr)
    rwa [hb r hr] at this
  obtain ⟨p, hp, hop⟩ := R.all (4 * c) (hl 0 (by decide))
  have hop : On F W p (4 * c + 0) := hop
  have wc := hW c hc
  obtain ⟨p1, p2⟩ := R.per p hp
  by_cases hw : W c = o
  · rw [if_pos hw]
    -- one of the two others
    obtain ⟨r, hr, hr0, hro⟩ : ∃ r, r < 4 ∧ r ≠ 0 ∧ r ≠ o + 1 := by
      by_cases h1 : o = 0
      · exact ⟨2, by decide, by decide, by omega⟩
      · exact ⟨1, by decide, by decide, by omega⟩
    obtain ⟨q, hq, hoq⟩ := R.all (4 * c + r) (hl r hr)
    obtain ⟨q1, q2⟩ := R.per q hq
    have only : ∀ {p' : Nat × Nat} {s : Nat}, p' ∈ rs → s < 4 → On F W p' (4 * c + s) → ∀ x, x / 4 = c → (On F W p' x ↔ x = 4 * c + s ∨ x = (4 * c + s) ^^^ (o + 1)) := fun {p' s} hp' hs h x xc => by
      obtain ⟨k1, k2⟩ := R.per p' hp'
      obtain ⟨j, f⟩ := outer_all I hW hc ho a hs
      rw [← hw] at f
      obtain ⟨pe, ex⟩ := back_only I hW (hl s hs) (hb s hs) f
      constructor
      · intro hx
        rw [← hw]
        exact ex x (lt_ x xc) xc ((On.same I hW k1 k2 (hl s hs) pe h (lt_ x xc)).mp hx)
      · rintro (rfl | rfl)
        · exact h
        · exact outer hp' hs h
    have x0 : (4 * c + 0) ^^^ (o + 1) = 4 * c + (o + 1) := by
      rw [xor_blk (by decide) (by omega), Nat.zero_xor]
    have xr : ∃ s, s < 4 ∧ (4 * c + r) ^^^ (o + 1) = 4 * c + s ∧ s ≠ r ∧ s ≠ 0 ∧ s ≠ o + 1 := by
      refine ⟨r ^^^ (o + 1), ?_, xor_blk hr (by omega), ?_⟩
      · have hh : (r = 1 ∨ r = 2 ∨ r = 3) ∧ (o = 0 ∨ o = 1 ∨ o = 2) := by omega
        obtain ⟨rfl | rfl | rfl, rfl | rfl | rfl⟩ := hh <;> decide
      · have hh : (r = 1 ∨ r = 2 ∨ r = 3) ∧ (o = 0 ∨ o = 1 ∨ o = 2) := by omega
        obtain ⟨rfl | rfl | rfl, rfl | rfl | rfl⟩ := hh <;> first | decide | (exfalso; omega)
    obtain ⟨s, hs, es, sr, s0, so⟩ := xr
    have onp := only hp (by decide : 0 < 4) hop
    have onq := only hq hr hoq
    rw [x0] at onp
    rw [es] at onq
    have pq : p ≠ q := fun e => by
      subst e
      have := (onp _ (hb r hr)).mp hoq
      omega
    have nds : [p, q].Nodup := by simp [pq]
    refine (counts_list (v := 2) (ms := [p, q]) (by decide) ndr nds (fun z hz hm => ?_) (fun z hz hm => ?_) (fun z hm => ?_)).trans rfl
    · simp only [List.mem_cons, List.not_mem_nil, or_false] at hm
      rcases hm with rfl | rfl
      · refine cnt_of I hW hc p1 p2 (m := [4 * c + 0, 4 * c + (o + 1)]) (by simp) fun x => ?_
        simp only [List.mem_cons, List.not_mem_nil, or_false]
        constructor
        · intro h
          have xc : x / 4 = c := by omega
          exact ⟨xc, (onp x xc).mpr h⟩
        · rintro ⟨xc, h⟩
          exact (onp x xc).mp h
      · refine cnt_of I hW hc q1 q2 (m := [4 * c + r, 4 * c + s]) (by simp; omega) fun x => ?_
        simp only [List.mem_cons, List.not_mem_nil, or_false]
        constructor
        · intro h
          have xc : x / 4 = c := by omega
          exact ⟨xc, (onq x xc).mpr h⟩
        · rintro ⟨xc, h⟩
          exact (onq x xc).mp h
    · obtain ⟨z1, z2⟩ := R.per z hz
      refine cnt_none I hW hc z1 z2 fun x xc h => hm ?_
      obtain ⟨t, ht, rfl⟩ := at_ x (lt_ x xc) xc
      have hh : t = 0 ∨ t = o + 1 ∨ t = r ∨ t = s := by omega
      simp only [List.mem_cons, List.not_mem_nil, or_false]
      rcases hh with rfl | rfl | rfl | rfl
      · exact .inl (On.one I R hz hp (hl _ ht) h hop)
      · exact .inl (On.one I R hz hp (hl _ ht) h ((onp _ xc).mpr (.inr rfl)))
      · exact .inr (On.one I R hz hq (hl _ ht) h hoq)
      · exact .inr (On.one I R hz hq (hl _ ht) h ((onq _ xc).mpr (.inr rfl)))
    · simp only [List.mem_cons, List.not_mem_nil, or_false] at hm
      rcases hm with rfl | rfl
      · exact hp
      · exact hq
  · rw [if_neg hw]
    have all4 : ∀ r, r < 4 → On F W p (4 * c + r) := fun r hr => by
      have a1 : On F W p (4 * c + (o + 1)) := by
        have := outer hp (by decide : 0 < 4) hop
        rwa [xor_blk (by decide) (by omega), Nat.zero_xor] at this
      have a2 : On F W p (4 * c + (W c + 1)) := by
        have := own hp (by decide : 0 < 4) hop
        rwa [xor_blk (by decide) (by omega), Nat.zero_xor] at this
      have a3 : On F W p (4 * c + ((o + 1) ^^^ (W c + 1))) := by
        have := own hp (by omega : o + 1 < 4) a1
        rwa [xor_blk (by omega) (by omega)] at this
      generalize W c = w at hw wc a2 a3
      have hh : (r = 0 ∨ r = 1 ∨ r = 2 ∨ r = 3) ∧ (o = 0 ∨ o = 1 ∨ o = 2) ∧ (w = 0 ∨ w = 1 ∨ w = 2) := by omega
      obtain ⟨rfl | rfl | rfl | rfl, rfl | rfl | rfl, rfl | rfl | rfl⟩ := hh <;> first | exact absurd rfl hw | exact hop | exact a1 | exact a2 | exact a3
    refine (counts_list (v := 4) (ms := [p]) (by decide) ndr (by simp) (fun z hz hm => ?_) (fun z hz hm => ?_) (fun z hm => ?_)).trans rfl
    · rw [List.mem_singleton] at hm
      subst hm
      refine cnt_of I hW hc p1 p2 (m := [4 * c + 0, 4 * c + 1, 4 * c + 2, 4 * c + 3]) (by simp) fun x => ?_
      simp only [List.mem_cons, List.not_mem_nil, or_false]
      constructor
      · rintro (rfl | rfl | rfl | rfl)
        · exact ⟨hb 0 (by decide), all4 0 (by decide)⟩
        · exact ⟨hb 1 (by decide), all4 1 (by decide)⟩
        · exact ⟨hb 2 (by decide), all4 2 (by decide)⟩
        · exact ⟨hb 3 (by decide), all4 3 (by decide)⟩
      · rintro ⟨xc, _⟩
        omega
    · obtain ⟨z1, z2⟩ := R.per z hz
      refine cnt_none I hW hc z1 z2 fun x xc h => hm ?_
      obtain ⟨t, ht, rfl⟩ := at_ x (lt_ x xc) xc
      rw [List.mem_singleton]
      exact On.one I R hz hp (hl t ht) h (all4 t ht)
    · rw [List.mem_singleton] at hm
      subst hm
      exact hp
end
end One
end P_M22

section P_M23
set_option linter.all false
/-! How many rounds there are when one crossing is turned. -/
namespace One
section
variable {F W W' : Nat → Nat} {n : Nat}
theorem rounds_to (I : Inv2 F n) (hW : ∀ c, c < n → W c < 3) : ∀ i, i ≤ 4 * n → ∃ rs, RTo F W n i rs
  | 0, _ => ⟨[], rto_nil⟩
  | i + 1, hi => by
    obtain ⟨rs, R⟩ := rounds_to I hW i (by omega)
    by_cases g : Gone F W rs i
    · exact ⟨rs, R.skip g⟩
    · obtain ⟨k, a, _⟩ := (next_goes I hW).per (show i < 4 * n by omega)
      exact ⟨_, R.more I hW (by omega) g a⟩
theorem rounds_some (I : Inv2 F n) (hW : ∀ c, c < n → W c < 3) : ∃ rs, Rounds F W n rs := by
  obtain ⟨rs, R⟩ := rounds_to I hW (4 * n) (Nat.le_refl _)
  exact ⟨rs, R.done⟩
theorem outer_some (I : Inv2 F n) (hW : ∀ c, c < n → W c < 3) {c : Nat} (hc : c < n) : ∃ o j, o < 3 ∧ FirstAt F W c (4 * c) j (4 * c + o + 1) := by
  obtain ⟨j, x, a⟩ := first_some I hW (show 4 * c < 4 * n by omega) (show 4 * c / 4 = c by omega)
  have h1 := a.ne I hW (by omega)
  have h2 := a.here
  exact ⟨x - 4 * c - 1, j, by omega, by rw [show 4 * c + (x - 4 * c - 1) + 1 = x by omega]; exact a⟩
theorem len_split {α : Type} (p : α → Bool) : ∀ l : List α, l.length = (l.filter fun x => !p x).length + (l.filter p).length
  | [] => rfl
  | x :: l => by
    rw [List.filter_cons, List.filter_cons, List.length_cons, len_split p l]
    cases p x
    · simp only [Bool.not_false, if_true, List.length_cons]
      rw [if_neg (by decide)]
      omega
    · simp only [Bool.not_true, if_true, List.length_cons]
      rw [if_neg (by decide)]
      omega
/-- a round that has no line at the crossing stays -/
theorem same_off (I : Inv2 F n) (hW : ∀ c, c < n → W c < 3) (hW' : ∀ c, c < n → W' c < 3) {rs rs' : List (Nat × Nat)} (R : Rounds F W n rs) (R' : Rounds F W' n rs') {c : Nat} (h : ∀ d, d ≠ c → W' d = W d) {p : Nat × Nat} (hp : p ∈ rs) (h0 : cntE F W c p = 0) : p ∈ rs' ∧ cntE F W' c p = 0 := by
  obtain ⟨p1, p2⟩ := R.per p hp
  have off : ∀ x ∈ rnd (nextE F W) p.1 p.2, F x / 4 ≠ c := fun x hx e => by
    have q := (meets_iff I hW (c := c) p1 p2).mp
    have lx := rnd_lt I hW p1 hx
    have lF := I.lt x lx
    have b : (F x ^^^ (W (F x / 4) + 1)) / 4 = F x / 4 := mate_block (hW _ (by omega))
    exact q ⟨nextE F W x, rnd_next p p2 hx, b.trans e⟩ h0
  have step : ∀ x ∈ rnd (nextE F W) p.1 p.2, nextE F W' x = nextE F W x := fun x hx => by
    unfold nextE
    rw [h _ (off x hx)]
  have key : ∀ i, iter (nextE F W') i p.1 = iter (nextE F W) i p.1 := by
    intro i
    induction i with
    | zero => rfl
    | succ i ih =>
      show nextE F W' (iter (nextE F W') i p.1) = nextE F W (iter (nextE F W) i p.1)
      rw [ih]
      exact step _ (p2.mod i)
  have er : rnd (nextE F W') p.1 p.2 = rnd (nextE F W) p.1 p.2 := by
    unfold rnd
    exact List.map_congr_left fun i _ => key i
  have per' : Per (nextE F W') p.1 p.2 := ⟨p2.pos, (key _).trans p2.back, fun i a b e => p2.first i a b ((key i).symm.trans e)⟩
  refine ⟨(R'.first I hW' p1 per').mpr fun x hx => ?_, ?_⟩
  · rw [er] at hx
    exact R.least p hp x hx
  · have e2 : bothE F W' p = bothE F W p := by
      unfold bothE
      rw [er]
    unfold cntE at h0 ⊢
    rw [e2]
    exact h0
theorem met_len {rs : List (Nat × Nat)} (I : Inv2 F n) (hW : ∀ c, c < n → W c < 3) (R : Rounds F W n rs) {c o j0 : Nat} (hc : c < n) (ho : o < 3) (a : FirstAt F W c (4 * c) j0 (4 * c + o + 1)) : (rs.filter fun p => decide (cntE F W c p ≠ 0)).length = if W c = o then 2 else 1 := by
  have := congrArg List.length (met_counts I hW R hc ho a)
  rw [List.length_map] at this
  rw [this]
  split <;> rfl
/-- two of three settings that differ at a crossing: as many rounds, but one more by the outer way -/
theorem count_at (I : Inv2 F n) (hW : ∀ c, c < n → W c < 3) (hW' : ∀ c, c < n → W' c < 3) {rs rs' : List (Nat × Nat)} (R : Rounds F W n rs) (R' : Rounds F W' n rs') {c o j0 : Nat} (hc : c < n) (h : ∀ d, d ≠ c → W' d = W d) (ho : o < 3) (a : FirstAt F W c (4 * c) j0 (4 * c + o + 1)) :
    ∃ K, rs.length = K + (if W c = o then 2 else 1) ∧ rs'.length = K + (if W' c = o then 2 else 1) := by
  have a' := a.way h
  have l1 := len_split (fun p => decide (cntE F W c p ≠ 0)) rs
  have l2 := len_split (fun p => decide (cntE F W' c p ≠ 0)) rs'
  rw [met_len I hW R hc ho a] at l1
  rw [met_len I hW' R' hc ho a'] at l2
  refine ⟨(rs.filter fun p => !decide (cntE F W c p ≠ 0)).length, l1, ?_⟩
  rw [l2]
  congr 1
  have nd : ∀ {W : Nat → Nat} {rs : List (Nat × Nat)}, Rounds F W n rs → rs.Nodup := fun R => R.up.imp fun h e => by
    subst e
    omega
  refine ((List.perm_ext_iff_of_nodup ((nd R').filter _) ((nd R).filter _)).mpr fun p => ?_).length_eq
  rw [List.mem_filter, List.mem_filter]
  have z : ∀ {k : Nat}, (!decide (k ≠ 0)) = true ↔ k = 0 := fun {k} => by
    rw [Bool.not_eq_true', decide_eq_false_iff_not]
    omega
  rw [z, z]
  constructor
  · rintro ⟨h1, h2⟩
    exact same_off I hW' hW R' R (fun d hd => (h d hd).symm) h1 h2
  · rintro ⟨h1, h2⟩
    exact same_off I hW hW' R R' h h1 h2
/-- while there are two rounds, some crossing is met by two -/
theorem two_met {ps : List (Nat × Nat)} {rs : List (Nat × Nat)} (L : Lines n ps) (Wh : Whole n ps) (hn : 0 < n) (hW : ∀ c, c < n → W c < 3) (R : Rounds (far ps) W n rs) (h2 : 2 ≤ rs.length) : ∃ c, c < n ∧ (rs.filter fun p => decide (cntE (far ps) W c p ≠ 0)).length = 2 := by
  have I := far_inv L
  refine Classical.byContradiction fun no => ?_
  have one : ∀ c, c < n → (rs.filter fun p => decide (cntE (far ps) W c p ≠ 0)).length = 1 := fun c hc => by
    obtain ⟨o, j, ho, a⟩ := outer_some I hW hc
    have q := met_len I hW R hc ho a
    by_cases e : W c = o
    · rw [if_pos e] at q
      exact absurd ⟨c, hc, q⟩ no
    · rw [if_neg e] at q
      exact q
  have cnt0 : ∀ {p : Nat × Nat} {e : Nat}, p ∈ rs → e < 4 * n → On (far ps) W p e → p ∈ rs.filter fun p => decide (cntE (far ps) W (e / 4) p ≠ 0) := fun {p e} hp he h => by
    obtain ⟨p1, _⟩ := R.per p hp
    refine List.mem_filter.mpr ⟨hp, decide_eq_true ?_⟩
    unfold cntE
    rw [← Nat.pos_iff_ne_zero, List.length_pos_iff_exists_mem]
    exact ⟨e, List.mem_filter.mpr ⟨(mem_both I hW p1 he).mpr h, decide_eq_true rfl⟩⟩
  have same : ∀ {p q : Nat × Nat} {e g : Nat}, p ∈ rs → q ∈ rs → e < 4 * n → g < 4 * n → e / 4 = g / 4 → On (far ps) W p e → On (far ps) W q g → p = q := fun {p q e g} hp hq he hg eg h k => by
    have a1 := cnt0 hp he h
    have a2 := cnt0 hq hg k
    rw [← eg] at a2
    obtain ⟨z, hz⟩ := List.length_eq_one_iff.mp (one (e / 4) (by omega))
    rw [hz, List.mem_singleton] at a1 a2
    exact a1.trans a2.symm
  obtain ⟨p, hp, h0⟩ := R.all 0 (by omega)
  have all : ∀ c, c < n → ∀ e, e < 4 * n → e / 4 = c → On (far ps) W p e := by
    refine Wh (fun c => ∀ e, e < 4 * n → e / 4 = c → On (far ps) W p e) (fun l hl => ?_) fun e he e0 => ?_
    · have l1 := L.lt _ (mem_ends.mpr ⟨l, hl, .inl rfl⟩)
      have l2 := L.lt _ (mem_ends.mpr ⟨l, hl, .inr rfl⟩)
      have f12 : far ps l.1 = l.2 ∧ far ps l.2 = l.1 := far_of L.nd hl
      have go : ∀ {a b : Nat}, a < 4 * n → b < 4 * n → far ps a = b → (∀ e, e < 4 * n → e / 4 = a / 4 → On (far ps) W p e) → ∀ e, e < 4 * n → e / 4 = b / 4 → On (far ps) W p e := fun {a b} ha hb hf h e he eb => by
        have ob := (h a ha rfl).far I ha
        rw [hf] at ob
        obtain ⟨q, hq, oq⟩ := R.all e he
        have := same hq hp he hb eb oq ob
        subst this
        exact oq
      exact ⟨go l1 l2 f12.1, go l2 l1 f12.2⟩
    · obtain ⟨q, hq, oq⟩ := R.all e he
      have := same hq hp he (show 0 < 4 * n by omega) (by omega) oq h0
      subst this
      exact oq
  have only : ∀ q ∈ rs, q = p := fun q hq => by
    obtain ⟨q1, q2⟩ := R.per q hq
    exact On.one I R hq hp q1 (.inl (self_rnd q2)) (all _ (by omega : q.1 / 4 < n) q.1 q1 rfl)
  match rs, h2, only, R.up with
  | a :: b :: t, _, only, up =>
    have e1 := only a (List.mem_cons_self ..)
    have e2 := only b (List.mem_cons_of_mem _ (List.mem_cons_self ..))
    have := (List.pairwise_cons.mp up).1 b (List.mem_cons_self ..)
    rw [e1, e2] at this
    omega
end
end One
end P_M23

section P_U1
set_option linter.all false
set_option maxRecDepth 100000
set_option maxHeartbeats 16000000
namespace One
open PySem PySem.Spec PyProof.Rows L2
theorem cut_whole {xs : List V} {lo hi : Option Int} (h : HT.sIx xs.length 0 lo = 0 ∧ HT.sIx xs.length xs.length hi = xs.length) : cutV xs lo hi = xs := by
  unfold cutV
  rw [h.1, h.2, List.drop_zero, Nat.sub_zero, List.take_length]
theorem rd_slA {K : PySem.W.Frag} {H : Hp} {a : Addr} {xs : List V} {lo hi : Option Int} {Q : VK} (ha : H a = some (.tup xs)) (k : ∀ (H' : Hp) (p : Addr), Same H H' → H' p = some (.tup (cutV xs lo hi)) → Q (.ref p) H') : rSlA K (.ref a) lo hi H Q :=
  ⟨a, xs, rfl, SqT.of ha, fun h => k H a (Same.refl H) (by rw [cut_whole h]; exact ha), fun _ p hp => k _ p (Same.new hp) upd_same⟩
theorem rd_catA {K : PySem.W.Frag} {H : Hp} {a b : Addr} {xs ys : List V} {Q : VK} (ha : H a = some (.tup xs)) (hb : H b = some (.tup ys)) (hl : xs.length + ys.length ≤ sizeLine) (k : ∀ (H' : Hp) (p : Addr), Same H H' → H' p = some (.tup (xs ++ ys)) → Q (.ref p) H') : rCatA K (.ref a) (.ref b) H Q :=
  ⟨a, b, xs, ys, rfl, rfl, SqT.of ha, SqT.of hb, hl, fun e => k H b (Same.refl H) (by rw [e]; exact hb), fun _ e => k H a (Same.refl H) (by rw [e, List.append_nil]; exact ha), fun _ _ p hp => k _ p (Same.new hp) upd_same⟩
theorem cut_take {xs : List V} {i : Nat} (h : i ≤ xs.length) : cutV xs none (some (i : Nat)) = xs.take i := by
  unfold cutV
  rw [HT.sIx_none, HT.sIx_nat, List.drop_zero, Nat.sub_zero, Nat.min_eq_left h]
theorem cut_drop {xs : List V} {i : Nat} (h : i ≤ xs.length) : cutV xs (some (i : Nat)) none = xs.drop i := by
  unfold cutV
  rw [HT.sIx_none, HT.sIx_nat, Nat.min_eq_left h]
  exact List.take_of_length_le (by rw [List.length_drop]; omega)
theorem cut_init {xs : List V} : cutV xs none (some (-1)) = xs.take (xs.length - 1) := by
  unfold cutV
  have e : HT.sIx xs.length xs.length (some (-1)) = xs.length - 1 := by
    show (if (-1 : Int) < 0 then ((-1 : Int) + (xs.length : Int)).toNat else min (-1 : Int).toNat xs.length) = xs.length - 1
    rw [if_pos (by decide)]
    omega
  rw [HT.sIx_none, e, List.drop_zero, Nat.sub_zero]
/-- one put in the place of another -/
def put_ (xs : List V) (i : Nat) (v : V) : List V := (xs.take i ++ [v]) ++ xs.drop (i + 1)
theorem pt_len {xs : List V} {i : Nat} {v : V} (h : i < xs.length) : (put_ xs i v).length = xs.length := by
  unfold put_
  simp only [List.length_append, List.length_take, List.length_drop, List.length_cons, List.length_nil]
  omega
theorem pt_at {xs : List V} {i : Nat} {v : V} (h : i < xs.length) : (put_ xs i v)[i]? = some v := by
  have e : (xs.take i).length = i := by rw [List.length_take]; omega
  unfold put_
  rw [List.append_assoc, List.getElem?_append_right (by omega), e, Nat.sub_self]
  rfl
theorem pt_take {xs : List V} {i : Nat} {v : V} (h : i < xs.length) : (put_ xs i v).take i = xs.take i := by
  have e : (xs.take i).length = i := by rw [List.length_take]; omega
  unfold put_
  rw [List.append_assoc, List.take_append_of_le_length (by omega), List.take_of_length_le (by omega)]
theorem pt_mem {xs : List V} {i : Nat} {v x : V} (h : x ∈ put_ xs i v) : x = v ∨ x ∈ xs := by
  unfold put_ at h
  rcases List.mem_append.mp h with h | h
  · rcases List.mem_append.mp h with h | h
    · exact .inr (List.mem_of_mem_take h)
    · exact .inl (List.mem_singleton.mp h)
  · exact .inr (List.mem_of_mem_drop h)

abbrev sWW : Stmt := top 42
abbrev nWW : List Str := ["ways", "crossing", "way"]
theorem scWW : FnScope nWW ["ways", "crossing", "way"] (defScope sWW) := ⟨rfl, rfl, rfl, by decide +kernel, rfl, by decide +kernel, by decide +kernel⟩
def spWW : Sp := fun vs H Q _ => ∃ (u : Addr) (c : Nat) (v : V) (xs : List V), vs = [.ref u, .int (c : Nat), v] ∧ H u = some (.tup xs) ∧ c < xs.length ∧ xs.length ≤ 100 ∧ ∀ (H' : Hp) (q : Addr), Same H H' → H' q = some (.tup (put_ xs c v)) → Q (.ref q) H'
def spME : Sp := fun vs H Q _ => ∃ (t : Addr) (c : Nat) (es : List Nat), vs = [.ref t, .int (c : Nat)] ∧ H t = some (.tup (nats es)) ∧ es.length ≤ 10000 ∧ ∀ H', Same H H' → Q (.bl (es.any fun e => decide (e / 4 = c))) H'
/-- whether the round of that number has an end at the crossing -/
def meetB (f : Nat → Nat) (rs : List (Nat × Nat)) (c i : Nat) : Bool := (rnd f (rs.getD i (0, 0)).1 (rs.getD i (0, 0)).2).any fun e => decide (e / 4 = c)
def spRM : Sp := fun vs H Q _ => ∃ (r : Addr) (c : Nat) (as : List Addr) (f : Nat → Nat) (rs : List (Nat × Nat)), vs = [.ref r, .int (c : Nat)] ∧ H r = some (.tup (refs as)) ∧ RsAt f H as rs ∧ rs.length ≤ 1000 ∧ (∀ p ∈ rs, p.2 ≤ 10000) ∧
  ∀ (H' : Hp) (q : Addr), Same H H' → H' q = some (.tup (nats ((List.range rs.length).filter (meetB f rs c)))) → Q (.ref q) H'
theorem RsAt.got {f : Nat → Nat} {H : Hp} {as : List Addr} {rs : List (Nat × Nat)} (h : RsAt f H as rs) : ∀ {i : Nat} {a : Addr}, as[i]? = some a → ∃ p, rs[i]? = some p ∧ H a = some (.tup (nats (rnd f p.1 p.2))) := by
  induction h with
  | nil => intro i a e; simp at e
  | cons h1 _ ih =>
    intro i a e
    cases i with
    | zero =>
      cases Option.some.inj e
      exact ⟨_, rfl, h1⟩
    | succ i => exact ih (i := i) (by simpa using e)
theorem getD_of {α : Type} {xs : List α} {i : Nat} {x d : α} (h : xs[i]? = some x) : xs.getD i d = x := by
  rw [List.getD_eq_getElem?_getD, h]
  rfl
theorem put_off {xs : List V} {c i : Nat} {v : V} (hc : c < xs.length) (h : i ≠ c) : (put_ xs c v)[i]? = xs[i]? := by
  have e : (xs.take c).length = c := by rw [List.length_take]; omega
  unfold put_
  rw [List.append_assoc]
  rcases Nat.lt_or_ge i c with q | q
  · rw [List.getElem?_append_left (by omega), List.getElem?_take, if_pos q]
  · rw [List.getElem?_append_right (by omega), e]
    obtain ⟨d, rfl⟩ : ∃ d, i = c + (d + 1) := ⟨i - c - 1, by omega⟩
    rw [show c + (d + 1) - c = d + 1 by omega]
    show (xs.drop (c + 1))[d]? = _
    rw [List.getElem?_drop]
    congr 1
    omega
section
variable {P : Program} {w : World} {K : PySem.W.Frag} {mg : Str → Option Value} {base : Heap}
theorem ok_ww {f : Addr} {fd : FuncData} (F : Fun K "with_way" "with_way" sWW f fd) : FnOk P w K mg base CX0 1 f fd ["ways", "crossing", "way"] spWW := by
  refine F.ok scWW (fun vs H Q E h => ?_) (fun cdv A outer s H vs Q E hr h => ?_)
  · obtain ⟨u, c, v, xs, rfl, _⟩ := h
    rfl
  · obtain ⟨u, c, v, xs, rfl, hu, hc, hl, k⟩ := h
    refine ⟨_, pss_one (ps_ret (pe_op op_catA (pe_op op_catA (pe_slice sl_tupA (pv 0) po_none (po_some (pv 1))) (pe_tup (pa_cons (pv 2) pa_nil))) (pe_slice sl_tupA (pv 0) (po_some (pe_op op_add (pv 1) pe_int)) po_none))), ?_⟩
    refine ⟨_, rfl, _, rfl, _, rfl, rd_slA hu fun H4 b1 s4 h4 => ?_⟩
    rw [cut_take (by omega)] at h4
    refine ⟨_, rfl, (by show 1 ≤ sizeLine; decide), fun b2 hb2 => ?_⟩
    have s5 := Same.new (o := .tup [v]) hb2
    have h5 := upd_same (H := H4) (a := b2) (o := .tup [v])
    have h45 := s5 _ _ h4
    generalize upd H4 b2 (.tup [v]) = H5 at s5 h5 h45
    have big : ∀ {x y : Nat}, x + y ≤ 200 → x + y ≤ sizeLine := fun h => Nat.le_trans h (by decide)
    refine rd_catA h45 h5 (big (by rw [List.length_take]; show _ + 1 ≤ 200; omega)) fun H6 b3 s6 h6 => ?_
    have s36 := s4.trans (s5.trans s6)
    refine ⟨_, rfl, _, rfl, _, _, rfl, rfl, _, rfl, ?_⟩
    unfold tNoPart
    dsimp only
    refine rd_slA (s36 _ _ hu) fun H7 b4 s7 h7 => ?_
    rw [show ((c : Nat) : Int) + 1 = ((c + 1 : Nat) : Int) by omega, cut_drop (by omega)] at h7
    refine rd_catA (s7 _ _ h6) h7 (big ?_) fun H8 b5 s8 h8 => ?_
    · rw [List.length_append, List.length_take, List.length_drop]
      show _ + 1 + _ ≤ 200
      omega
    exact k H8 b5 (s36.trans (s7.trans s8)) h8
end
theorem up_len : ∀ {rs : List (Nat × Nat)} {a N : Nat}, rs.Pairwise (fun p q => p.1 < q.1) → (∀ p ∈ rs, a ≤ p.1 ∧ p.1 < N) → rs.length ≤ N - a
  | [], _, _, _, _ => Nat.zero_le _
  | p :: rs, a, N, h, hb => by
    obtain ⟨h1, h2⟩ := List.pairwise_cons.mp h
    have hp := hb p (List.mem_cons_self ..)
    have := up_len (a := p.1 + 1) (N := N) h2 fun q hq => ⟨h1 q hq, (hb q (List.mem_cons_of_mem _ hq)).2⟩
    rw [List.length_cons]
    omega
theorem rounds_small {F W : Nat → Nat} {n : Nat} {rs : List (Nat × Nat)} (I : Inv2 F n) (hW : ∀ c, c < n → W c < 3) (R : Rounds F W n rs) : rs.length ≤ 4 * n ∧ ∀ p ∈ rs, p.2 ≤ 4 * n := by
  refine ⟨?_, fun p hp => ?_⟩
  · have := up_len (a := 0) (N := 4 * n) R.up fun p hp => ⟨Nat.zero_le _, (R.per p hp).1⟩
    omega
  · obtain ⟨h1, h2⟩ := R.per p hp
    obtain ⟨k, hk, hl⟩ := (next_goes I hW).per h1
    rw [h2.one hk]
    exact hl
theorem set_ok {H : Hp} {u : Addr} {m : Nat} {ws : List Nat} (h : SetAt H u m ws) : ∀ x ∈ nats ws, okW false x = true ∧ TV H x "int" := fun x hx => by
  obtain ⟨z, hz, rfl⟩ := List.mem_map.mp hx
  refine ⟨?_, .int _⟩
  have := h.lt z hz
  show (((decide (0 ≤ ((z : Nat) : Int)) && decide (((z : Nat) : Int) < 3))) || _) = true
  rw [decide_eq_true (by omega : 0 ≤ ((z : Nat) : Int)), decide_eq_true (by omega : ((z : Nat) : Int) < 3)]
  rfl
theorem look_good {C : Addr} {H : Hp} {u : Addr} {m : Nat} {ws : List Nat} {Q : Hp → Prop} {E : XK} (h : SetAt H u m ws) (k : ∀ H', Same H H' → Q H') : LookW C false (.ref u) m H Q E :=
  .inr ⟨u, _, rfl, h.here, (List.length_map _).trans h.len, fun x hx => ⟨_, (set_ok h x hx).2⟩, fun _ H' s => k H' s, fun i x hx hb _ => by
    have := (set_ok h x (List.mem_of_getElem? hx)).1
    rw [hb] at this
    cases this⟩
/-! ### a tuple of small numbers, as data -/
def nsD (rs : List Nat) : PyData := .tuple (rs.map fun x => PyData.int (x : Nat))
theorem dp_ns {K : PySem.W.Frag} {H : Hp} : ∀ rs : List Nat, DpAll K H (nats rs) (rs.map fun x => PyData.int (x : Nat))
  | [] => .nil
  | _ :: r => .cons (.int _) (dp_ns r)
theorem dp_nsD {K : PySem.W.Frag} {H : Hp} {u : Addr} {rs : List Nat} (h : H u = some (.tup (nats rs))) : Dp K H (.ref u) (nsD rs) := .tup (SqT.of h) (dp_ns rs)
theorem ns_all : ∀ rs : List Nat, (∀ x ∈ rs, x < 1000) → PyData.showableAll (rs.map fun x => PyData.int (x : Nat)) = true ∧ PyData.hasDictAll (rs.map fun x => PyData.int (x : Nat)) = false ∧ PyData.depthAll (rs.map fun x => PyData.int (x : Nat)) ≤ 1 ∧ PyData.leavesShortAll 8 (rs.map fun x => PyData.int (x : Nat)) = true ∧ PyData.bulkAll (rs.map fun x => PyData.int (x : Nat)) = rs.length
  | [], _ => ⟨rfl, rfl, Nat.zero_le _, rfl, rfl⟩
  | x :: r, h => by
    obtain ⟨h1, h2, h3, h4, h5⟩ := ns_all r fun q m => h q (List.mem_cons_of_mem _ m)
    have q1 := h x (List.mem_cons_self ..)
    have a1 : PyData.showable (.int (x : Nat)) = true := by
      show decide (((x : Nat) : Int).natAbs.log2 < 1920) = true
      simp only [Int.natAbs_natCast, decide_eq_true_eq]
      exact log_small q1
    have a4 : PyData.leavesShort 8 (.int (x : Nat)) = true := by
      show decide (_ ≤ 8) = true
      simp only [decide_eq_true_eq]
      exact int_short _ q1
    refine ⟨?_, ?_, ?_, ?_, ?_⟩
    · show (PyData.showable (.int (x : Nat)) && PyData.showableAll _) = true
      rw [a1, h1]; rfl
    · show (false || PyData.hasDictAll _) = false
      rw [h2]; rfl
    · show max 0 (PyData.depthAll _) ≤ 1
      exact Nat.max_le.mpr ⟨Nat.zero_le 1, h3⟩
    · show (PyData.leavesShort 8 (.int (x : Nat)) && PyData.leavesShortAll 8 _) = true
      rw [a4, h4]; rfl
    · show 0 + 1 + PyData.bulkAll _ = _
      rw [h5]
      show 0 + 1 + r.length = r.length + 1
      omega
theorem ns_fine {rs : List Nat} (h : ∀ x ∈ rs, x < 1000) (hl : rs.length ≤ 1000) : (nsD rs).showable = true ∧ (nsD rs).hasDict = false ∧ (nsD rs).depth ≤ 16 ∧ (nsD rs).shown.length ≤ sizeLine := by
  obtain ⟨h1, h2, h3, h4, h5⟩ := ns_all rs h
  refine ⟨h1, h2, ?_, ?_⟩
  · show PyData.depthAll _ + 1 ≤ 16
    omega
  · have q := PyData.shown_le_bulk 8 (Nat.le_refl _) (nsD rs) h4
    have e : (nsD rs).bulk = rs.length := h5
    rw [e] at q
    have : (40000 : Nat) ≤ sizeLine := by decide
    omega
theorem repr_ns {K : PySem.W.Frag} {H : Hp} {u : Addr} {rs : List Nat} {Q : VK} (hu : H u = some (.tup (nats rs))) (h : ∀ x ∈ rs, x < 1000) (hl : rs.length ≤ 1000) (q : Q (.str (nsD rs).shown) H) : rRepr K [.ref u] H Q := by
  obtain ⟨h1, h2, h3, h4⟩ := ns_fine h hl
  exact ⟨u, _, rfl, dp_nsD hu, h1, h2, h3, h4, q⟩

def cntI (F W : Nat → Nat) (rs : List (Nat × Nat)) (c i : Nat) : Nat := cntE F W c (rs.getD i (0, 0))
def metI (F W : Nat → Nat) (rs : List (Nat × Nat)) (c k : Nat) : List (Nat × Nat) := ((List.range k).filter fun i => decide (cntI F W rs c i ≠ 0)).map fun i => (i, cntI F W rs c i)
theorem put_set (ws : List Nat) {c : Nat} (z : Nat) (hc : c < ws.length) : put_ (nats ws) c (.int (z : Nat)) = nats (ws.set c z) := by
  unfold put_ nats
  rw [List.map_set, List.set_eq_take_append_cons_drop, if_pos (by rw [List.length_map]; exact hc), List.append_assoc]
  rfl
theorem way_set {ws : List Nat} {c d z : Nat} (h : d ≠ c) : wayL (ws.set c z) d = wayL ws d := by
  unfold wayL
  rw [List.getD_eq_getElem?_getD, List.getD_eq_getElem?_getD, List.getElem?_set_ne (Ne.symm h)]
theorem map_range (rs : List (Nat × Nat)) : (List.range rs.length).map (fun i => rs.getD i (0, 0)) = rs := by
  refine List.ext_getElem? fun i => ?_
  rw [List.getElem?_map]
  rcases Nat.lt_or_ge i rs.length with h | h
  · rw [List.getElem?_range h, List.getElem?_eq_getElem h]
    show some (rs.getD i (0, 0)) = _
    rw [List.getD_eq_getElem?_getD, List.getElem?_eq_getElem h]
    rfl
  · rw [List.getElem?_eq_none (by rw [List.length_range]; exact h), List.getElem?_eq_none h]
    rfl
theorem met_snd (F W : Nat → Nat) (rs : List (Nat × Nat)) (c : Nat) : (metI F W rs c rs.length).map (·.2) = (rs.filter fun p => decide (cntE F W c p ≠ 0)).map (cntE F W c) := by
  have e : (rs.filter fun p => decide (cntE F W c p ≠ 0)).map (cntE F W c) = (((List.range rs.length).map fun i => rs.getD i (0, 0)).filter fun p => decide (cntE F W c p ≠ 0)).map (cntE F W c) := by rw [map_range]
  rw [e, List.filter_map, List.map_map]
  unfold metI
  rw [List.map_map]
  rfl
theorem met_fst (F W : Nat → Nat) (rs : List (Nat × Nat)) (c : Nat) : (metI F W rs c rs.length).map (·.1) = (List.range rs.length).filter fun i => decide (cntI F W rs c i ≠ 0) := by
  unfold metI
  rw [List.map_map]
  exact List.map_id _
theorem meet_filter {F W : Nat → Nat} {n c : Nat} {rs : List (Nat × Nat)} (I : Inv2 F n) (hW : ∀ c, c < n → W c < 3) (R : Rounds F W n rs) : (List.range rs.length).filter (meetB (nextE F W) rs c) = (List.range rs.length).filter fun i => decide (cntI F W rs c i ≠ 0) := by
  refine List.filter_congr fun i hi => ?_
  have hi := List.mem_range.mp hi
  have hp : rs.getD i (0, 0) ∈ rs := by
    rw [List.getD_eq_getElem?_getD, List.getElem?_eq_getElem hi]
    exact List.getElem_mem hi
  obtain ⟨h1, h2⟩ := R.per _ hp
  have q := meets_iff I hW (c := c) h1 h2
  unfold meetB cntI
  rw [Bool.eq_iff_iff, List.any_eq_true, decide_eq_true_eq, ← q]
  simp only [decide_eq_true_eq]
end One
end P_U1

section P_U2
set_option linter.all false
set_option maxRecDepth 100000
set_option maxHeartbeats 8000000
namespace One
open PySem PySem.Spec PyProof.Rows L2
/-! ### how many rounds, by settings as lists -/
structure Ok3 (n : Nat) (ws : List Nat) : Prop where
  len : ws.length = n
  lt : ∀ x ∈ ws, x < 3
theorem SetAt.ok {H : Hp} {u : Addr} {n : Nat} {ws : List Nat} (h : SetAt H u n ws) : Ok3 n ws := ⟨h.len, h.lt⟩
theorem Ok3.ways {n : Nat} {ws : List Nat} (h : Ok3 n ws) : ∀ c, c < n → wayL ws c < 3 := fun c hc => by
  have hl : c < ws.length := by rw [h.len]; exact hc
  unfold wayL
  rw [List.getD_eq_getElem?_getD, List.getElem?_eq_getElem hl]
  exact h.lt _ (List.getElem_mem hl)
theorem Ok3.set {n : Nat} {ws : List Nat} (h : Ok3 n ws) (c : Nat) {w : Nat} (hw : w < 3) : Ok3 n (ws.set c w) := ⟨by rw [List.length_set]; exact h.len, fun x hx => by
  rcases List.mem_or_eq_of_mem_set hx with hx | rfl
  · exact h.lt x hx
  · exact hw⟩
theorem way_same {ws : List Nat} {c w : Nat} (h : c < ws.length) : wayL (ws.set c w) c = w := by
  unfold wayL
  rw [List.getD_eq_getElem?_getD, List.getElem?_set_self h]
  rfl
open Classical in
noncomputable def Cn (F : Nat → Nat) (n : Nat) (ws : List Nat) : Nat := if h : ∃ rs, Rounds F (wayL ws) n rs then (Classical.choose h).length else 0
section
variable {F : Nat → Nat} {n : Nat} {ws : List Nat}
theorem Cn_eq (I : Inv2 F n) (h : Ok3 n ws) {rs : List (Nat × Nat)} (R : Rounds F (wayL ws) n rs) : Cn F n ws = rs.length := by
  unfold Cn
  have e : ∃ rs, Rounds F (wayL ws) n rs := ⟨rs, R⟩
  rw [dif_pos e]
  rw [(Classical.choose_spec e).eq I h.ways R]
theorem Cn_rs (I : Inv2 F n) (h : Ok3 n ws) : ∃ rs, Rounds F (wayL ws) n rs ∧ Cn F n ws = rs.length := by
  obtain ⟨rs, R⟩ := rounds_some I h.ways
  exact ⟨rs, R, Cn_eq I h R⟩
theorem Cn_pos (I : Inv2 F n) (h : Ok3 n ws) (hn : 0 < n) : 0 < Cn F n ws := by
  obtain ⟨rs, R, e⟩ := Cn_rs I h
  obtain ⟨p, hp, _⟩ := R.all 0 (by omega)
  rw [e]
  exact List.length_pos_of_mem hp
/-- two rounds meet the crossing -/
def Two (F : Nat → Nat) (n : Nat) (ws : List Nat) (c : Nat) : Prop := ∃ o j, o < 3 ∧ FirstAt F (wayL ws) c (4 * c) j (4 * c + o + 1) ∧ wayL ws c = o
theorem two_len (I : Inv2 F n) (h : Ok3 n ws) {rs : List (Nat × Nat)} (R : Rounds F (wayL ws) n rs) {c : Nat} (hc : c < n) : (rs.filter fun p => decide (cntE F (wayL ws) c p ≠ 0)).length = 2 ↔ Two F n ws c := by
  obtain ⟨o, j, ho, a⟩ := outer_some I h.ways hc
  have q := met_len I h.ways R hc ho a
  constructor
  · intro e
    refine ⟨o, j, ho, a, Classical.byContradiction fun z => ?_⟩
    rw [if_neg z] at q
    omega
  · rintro ⟨o', j', ho', a', e⟩
    have : o = o' := by
      have := (a.one a').2
      omega
    subst this
    rw [if_pos e] at q
    exact q
theorem Cn_set (I : Inv2 F n) (h : Ok3 n ws) {c w : Nat} (hc : c < n) (hw : w < 3) : (Two F n ws c ∧ w ≠ wayL ws c → Cn F n (ws.set c w) + 1 = Cn F n ws) ∧ (¬ (Two F n ws c ∧ w ≠ wayL ws c) → Cn F n ws ≤ Cn F n (ws.set c w)) := by
  obtain ⟨o, j, ho, a⟩ := outer_some I h.ways hc
  obtain ⟨rs, R, e1⟩ := Cn_rs I h
  obtain ⟨rs', R', e2⟩ := Cn_rs I (h.set c hw)
  obtain ⟨K, k1, k2⟩ := count_at I h.ways (h.set c hw).ways R R' hc (fun d hd => way_set hd) ho a
  rw [way_same (by rw [h.len]; exact hc)] at k2
  rw [e1, e2, k1, k2]
  constructor
  · rintro ⟨⟨o', j', ho', a', e⟩, ne⟩
    have : o = o' := by
      have := (a.one a').2
      omega
    subst this
    rw [if_pos e, if_neg (fun z => ne (z.trans e.symm))]
  · intro no
    by_cases e : wayL ws c = o
    · have : w = wayL ws c := Classical.byContradiction fun z => no ⟨⟨o, j, ho, a, e⟩, z⟩
      rw [if_pos e, if_pos (this.trans e)]
      exact Nat.le_refl _
    · rw [if_neg e]
      split <;> omega
theorem Cn_less (I : Inv2 F n) (h : Ok3 n ws) {c w : Nat} (hc : c < n) (hw : w < 3) : Cn F n (ws.set c w) < Cn F n ws ↔ Two F n ws c ∧ w ≠ wayL ws c := by
  obtain ⟨a, b⟩ := Cn_set I h hc hw
  constructor
  · intro l
    refine Classical.byContradiction fun no => ?_
    have := b no
    omega
  · intro t
    have := a t
    omega
theorem Cn_one (I : Inv2 F n) (h : Ok3 n ws) {c w : Nat} (hc : c < n) (hw : w < 3) : Cn F n ws ≤ Cn F n (ws.set c w) + 1 := by
  obtain ⟨a, b⟩ := Cn_set I h hc hw
  by_cases t : Two F n ws c ∧ w ≠ wayL ws c
  · have := a t
    omega
  · have := b t
    omega
theorem two_some {ps : List (Nat × Nat)} (L : Lines n ps) (Wh : Whole n ps) (hn : 0 < n) (h : Ok3 n ws) (h2 : 2 ≤ Cn (far ps) n ws) : ∃ c, c < n ∧ Two (far ps) n ws c := by
  obtain ⟨rs, R, e⟩ := Cn_rs (far_inv L) h
  obtain ⟨c, hc, q⟩ := two_met L Wh hn h.ways R (by omega)
  exact ⟨c, hc, (two_len (far_inv L) h R hc).mp q⟩
def otherW (v : Nat) : Nat := if v = 0 then 1 else 0
theorem otherW_lt (v : Nat) : otherW v < 3 := by
  unfold otherW
  split <;> omega
theorem otherW_ne (v : Nat) : otherW v ≠ v := by
  unfold otherW
  split <;> omega
/-- the first lead -/
inductive FL (F : Nat → Nat) (n : Nat) : List Nat → List (Nat × Nat) → Prop
  | nil {ws : List Nat} : Cn F n ws ≤ 1 → FL F n ws []
  | cons {ws : List Nat} {c : Nat} {ts : List (Nat × Nat)} : 2 ≤ Cn F n ws → c < n → Two F n ws c → (∀ d, d < c → ¬ Two F n ws d) → FL F n (ws.set c (otherW (wayL ws c))) ts → FL F n ws ((c, otherW (wayL ws c)) :: ts)
theorem FL.det : ∀ {ts qs : List (Nat × Nat)} {ws : List Nat}, FL F n ws ts → FL F n ws qs → ts = qs
  | [], [], _, _, _ => rfl
  | [], _ :: _, _, .nil a, .cons b _ _ _ _ => by omega
  | _ :: _, [], _, .cons a _ _ _ _, .nil b => by omega
  | _ :: _, _ :: _, ws, .cons (c := c) a1 a2 a3 a4 a5, .cons (c := d) b1 b2 b3 b4 b5 => by
    have : c = d := by
      rcases Nat.lt_trichotomy c d with h | h | h
      · exact absurd a3 (b4 c h)
      · exact h
      · exact absurd b3 (a4 d h)
    subst this
    rw [FL.det a5 b5]
/-- any lead: each turn makes one round less, till there is one -/
inductive LD (F : Nat → Nat) (n : Nat) : List Nat → List (Nat × Nat) → Prop
  | nil {ws : List Nat} : Cn F n ws ≤ 1 → LD F n ws []
  | cons {ws : List Nat} {c w : Nat} {ts : List (Nat × Nat)} : c < n → w < 3 → Two F n ws c → w ≠ wayL ws c → LD F n (ws.set c w) ts → LD F n ws ((c, w) :: ts)
theorem FL.ld : ∀ {ts : List (Nat × Nat)} {ws : List Nat}, FL F n ws ts → LD F n ws ts
  | [], _, .nil a => .nil a
  | _ :: _, _, .cons _ a2 a3 _ a5 => .cons a2 (otherW_lt _) a3 (otherW_ne _) a5.ld
theorem LD.len (I : Inv2 F n) (hn : 0 < n) : ∀ {ts : List (Nat × Nat)} {ws : List Nat}, Ok3 n ws → LD F n ws ts → Cn F n ws = ts.length + 1
  | [], ws, h, .nil a => by
    have := Cn_pos I h hn
    show Cn F n ws = 0 + 1
    omega
  | (c, w) :: ts, ws, h, .cons a1 a2 a3 a4 a5 => by
    have := a5.len I hn (h.set c a2)
    have := (Cn_set I h a1 a2).1 ⟨a3, a4⟩
    rw [List.length_cons]
    omega
theorem LD.small : ∀ {ts : List (Nat × Nat)} {ws : List Nat}, LD F n ws ts → ∀ p ∈ ts, p.1 < n ∧ p.2 < 3
  | [], _, _, p, hp => by simp at hp
  | _ :: _, _, .cons a1 a2 _ _ a5, p, hp => by
    rcases List.mem_cons.mp hp with rfl | hp
    · exact ⟨a1, a2⟩
    · exact a5.small p hp
/-- pairs compared one behind another -/
def ltPs : List (Nat × Nat) → List (Nat × Nat) → Bool
  | [], [] => false
  | [], _ :: _ => true
  | _ :: _, [] => false
  | p :: ps, q :: qs => if p = q then ltPs ps qs else decide (p.1 < q.1 ∨ (p.1 = q.1 ∧ p.2 < q.2))
theorem none_ahead : ∀ {ts qs : List (Nat × Nat)} {ws : List Nat}, FL F n ws ts → LD F n ws qs → ts.length = qs.length → ltPs qs ts = false
  | [], [], _, _, _, _ => rfl
  | [], _ :: _, _, _, _, h => by simp at h
  | _ :: _, [], _, _, _, h => by simp at h
  | _ :: ts, (d, v) :: qs, ws, .cons (c := c) a1 a2 a3 a4 a5, .cons b1 b2 b3 b4 b5, h => by
    have cd : c ≤ d := Nat.le_of_not_lt fun z => a4 d z b3
    show (if (d, v) = (c, otherW (wayL ws c)) then ltPs qs ts else decide (d < c ∨ (d = c ∧ v < otherW (wayL ws c)))) = false
    by_cases e : (d, v) = (c, otherW (wayL ws c))
    · rw [if_pos e]
      cases e
      exact none_ahead a5 b5 (by simpa using h)
    · rw [if_neg e]
      refine decide_eq_false fun z => ?_
      rcases z with z | ⟨rfl, z⟩
      · omega
      · unfold otherW at z
        split at z <;> omega
/-! no setting that differs at fewer crossings has one round -/
def mix (ws vs : List Nat) : Nat → List Nat
  | 0 => ws
  | k + 1 => (mix ws vs k).set k (wayL vs k)
theorem mix_ok {vs : List Nat} (h : Ok3 n ws) (g : Ok3 n vs) : ∀ k, k ≤ n → Ok3 n (mix ws vs k)
  | 0, _ => h
  | k + 1, hk => (mix_ok h g k (by omega)).set k (g.ways k (by omega))
theorem mix_way {vs : List Nat} (h : Ok3 n ws) (g : Ok3 n vs) : ∀ k, k ≤ n → ∀ c, c < n → wayL (mix ws vs k) c = if c < k then wayL vs c else wayL ws c
  | 0, _, c, _ => by rw [if_neg (by omega)]; rfl
  | k + 1, hk, c, hc => by
    show wayL ((mix ws vs k).set k (wayL vs k)) c = _
    by_cases e : c = k
    · subst e
      rw [way_same (by rw [(mix_ok h g c (by omega)).len]; exact hc), if_pos (by omega)]
    · rw [way_set e, mix_way h g k (by omega) c hc]
      by_cases l : c < k
      · rw [if_pos l, if_pos (by omega)]
      · rw [if_neg l, if_neg (by omega)]
def diffs (ws vs : List Nat) (k : Nat) : Nat := ((List.range k).filter fun c => decide (wayL vs c ≠ wayL ws c)).length
theorem mix_cn {vs : List Nat} (I : Inv2 F n) (h : Ok3 n ws) (g : Ok3 n vs) : ∀ k, k ≤ n → Cn F n ws ≤ Cn F n (mix ws vs k) + diffs ws vs k
  | 0, _ => Nat.le_add_right _ _
  | k + 1, hk => by
    have ih := mix_cn I h g k (by omega)
    have ok := mix_ok h g k (by omega)
    have wk := mix_way h g k (by omega) k (by omega)
    rw [if_neg (by omega)] at wk
    have dk : diffs ws vs (k + 1) = diffs ws vs k + if wayL vs k ≠ wayL ws k then 1 else 0 := by
      unfold diffs
      rw [List.range_succ, List.filter_append, List.length_append]
      congr 1
      by_cases e : wayL vs k ≠ wayL ws k
      · rw [if_pos e, List.filter_cons, if_pos (decide_eq_true e)]
        rfl
      · rw [if_neg e, List.filter_cons, if_neg (fun z => e (of_decide_eq_true z))]
        rfl
    rw [dk]
    by_cases e : wayL vs k ≠ wayL ws k
    · rw [if_pos e]
      have := Cn_one I ok (c := k) (w := wayL vs k) (by omega) (g.ways k (by omega))
      show Cn F n ws ≤ Cn F n ((mix ws vs k).set k (wayL vs k)) + (diffs ws vs k + 1)
      omega
    · rw [if_neg e]
      have e' : wayL vs k = wayL (mix ws vs k) k := by
        rw [wk]
        exact Classical.byContradiction e
      have := (Cn_set I ok (c := k) (w := wayL vs k) (by omega) (g.ways k (by omega))).2 (fun z => z.2 e')
      show Cn F n ws ≤ Cn F n ((mix ws vs k).set k (wayL vs k)) + (diffs ws vs k + 0)
      omega
theorem way_ext {vs us : List Nat} (h : Ok3 n us) (g : Ok3 n vs) (e : ∀ c, c < n → wayL us c = wayL vs c) : us = vs := by
  refine List.ext_getElem? fun i => ?_
  rcases Nat.lt_or_ge i n with l | l
  · have h1 : i < us.length := by rw [h.len]; exact l
    have h2 : i < vs.length := by rw [g.len]; exact l
    have := e i l
    unfold wayL at this
    rw [List.getD_eq_getElem?_getD, List.getD_eq_getElem?_getD, List.getElem?_eq_getElem h1, List.getElem?_eq_getElem h2] at this
    rw [List.getElem?_eq_getElem h1, List.getElem?_eq_getElem h2]
    exact congrArg some this
  · rw [List.getElem?_eq_none (by rw [h.len]; exact l), List.getElem?_eq_none (by rw [g.len]; exact l)]
theorem none_sooner {vs : List Nat} (I : Inv2 F n) (h : Ok3 n ws) (g : Ok3 n vs) : Cn F n ws ≤ Cn F n vs + diffs ws vs n := by
  have := mix_cn I h g n (Nat.le_refl _)
  have e : mix ws vs n = vs := way_ext (mix_ok h g n (Nat.le_refl _)) g fun c hc => by
    rw [mix_way h g n (Nat.le_refl _) c hc, if_pos hc]
  rw [e] at this
  exact this
end
/-! ### a tuple of pairs is less -/
def rLtD (K : PySem.W.Frag) : R2 := fun x y H Q => ∃ d e, Dp K H x d ∧ Dp K H y e ∧ PySem.W.alike d e = true ∧ d ≠ .none ∧ min d.depth e.depth ≤ 60 ∧ Q (.bl (PySem.W.dataLt d e)) H
theorem op_ltD {X : Cx} (hu : X.A.units + 64 < cLine) : OpR X (compareOp .Lt) (rLtD X.K) := by
  intro pins s σ H x y v u Q I rx ry h
  obtain ⟨d, e, hd, he, ha, hn, hm, q⟩ := h
  obtain ⟨as, r1⟩ := Dp.reads I d x v hd rx
  obtain ⟨bs, r2⟩ := Dp.reads I e y u he ry
  exact PySem.W.rcLt_alike d e X.A s v u as bs r1 r2 ha hn (by omega) _ _ _ _ ⟨.bl _, H, I, rfl, q⟩
theorem alike_prs : ∀ ps qs : List (Nat × Nat), PySem.W.alikeAll (ps.map prD) (qs.map prD) = true
  | [], _ => by
    show PySem.W.alikeAll [] _ = true
    unfold PySem.W.alikeAll
    rfl
  | p :: ps, [] => by
    show PySem.W.alikeAll (_ :: _) [] = true
    unfold PySem.W.alikeAll
    rfl
  | p :: ps, q :: qs => by
    show (PySem.W.alike (prD p) (prD q) && PySem.W.alikeAll (ps.map prD) (qs.map prD)) = true
    rw [alike_prs ps qs]
    rfl
theorem lt_prs : ∀ ps qs : List (Nat × Nat), PySem.W.dataLt (.tuple (ps.map prD)) (.tuple (qs.map prD)) = ltPs ps qs := by
  have key : ∀ ps qs : List (Nat × Nat), PyProof.Rows.lexLt PyProof.Rows.itemOrd (PySem.W.keyToksAll (ps.map prD)) (PySem.W.keyToksAll (qs.map prD)) = ltPs ps qs := by
    intro ps
    induction ps with
    | nil =>
      intro qs
      cases qs <;> rfl
    | cons p ps ih =>
      intro qs
      cases qs with
      | nil => rfl
      | cons q qs =>
        rw [List.map_cons, List.map_cons, PySem.W.dataLt_cons rfl]
        rw [ih qs]
        have e1 : PyData.eqv (prD p) (prD q) = decide (p = q) := by
          have e0 : PyData.eqv (prD p) (prD q) = (((p.1 : Int) == (q.1 : Int)) && (((p.2 : Int) == (q.2 : Int)) && true)) := rfl
          rw [e0, Bool.and_true]
          by_cases e : p = q
          · subst e
            simp
          · rw [decide_eq_false e]
            simp only [Bool.and_eq_false_iff, beq_eq_false_iff_ne]
            by_cases a : p.1 = q.1
            · exact .inr fun z => e (Prod.ext a (by omega))
            · exact .inl fun z => a (by omega)
        rw [e1]
        show _ = (if p = q then ltPs ps qs else decide (p.1 < q.1 ∨ (p.1 = q.1 ∧ p.2 < q.2)))
        by_cases e : p = q
        · rw [decide_eq_true e, if_pos rfl, if_pos e]
        · rw [decide_eq_false e, if_neg (by decide), if_neg e]
          show PySem.W.dataLt (.tuple [.int (p.1 : Int), .int (p.2 : Int)]) (.tuple [.int (q.1 : Int), .int (q.2 : Int)]) = _
          rw [PySem.W.dataLt_ii]
          refine decide_eq_decide.mpr ?_
          omega
  intro ps qs
  rw [PySem.W.dataLt_tuple]
  exact key ps qs
end One
end P_U2

section P_U4
set_option linter.all false
set_option maxRecDepth 100000
set_option maxHeartbeats 16000000
set_option linter.unusedVariables false
namespace One
open PySem PySem.Spec PyProof.Rows L2
/-! ### what was met, as a dict -/
def mkT (ks : List Nat) : List (Key × V) := ks.map fun e => (Sum.inl ((e : Nat) : Int), V.bl true)
theorem mkT_in : ∀ {ks : List Nat} {e : Nat}, e ∈ ks → valV (mkT ks) (Sum.inl ((e : Nat) : Int)) = some (.bl true)
  | [], e, h => absurd h (by simp)
  | x :: es, e, h => by
    by_cases q : x = e
    · subst q
      exact valV_pos rfl
    · have m : e ∈ es := (List.mem_cons.mp h).resolve_left fun z => q z.symm
      have ne : ¬ ((Sum.inl ((x : Nat) : Int) : Key) = Sum.inl ((e : Nat) : Int)) := fun z => q (by have := Sum.inl.inj z; omega)
      exact (valV_neg (p := ((Sum.inl ((x : Nat) : Int) : Key), V.bl true)) ne).trans (mkT_in m)
theorem mkT_out : ∀ {ks : List Nat} {e : Nat}, e ∉ ks → valV (mkT ks) (Sum.inl ((e : Nat) : Int)) = none
  | [], e, _ => valV_nil
  | x :: es, e, h => by
    have ne : ¬ ((Sum.inl ((x : Nat) : Int) : Key) = Sum.inl ((e : Nat) : Int)) := fun z => h (by
      have := Sum.inl.inj z
      rw [show x = e by omega]
      exact List.mem_cons_self ..)
    exact (valV_neg (p := ((Sum.inl ((x : Nat) : Int) : Key), V.bl true)) ne).trans (mkT_out fun m => h (List.mem_cons_of_mem _ m))
theorem mkT_put {ks : List Nat} {e : Nat} (h : e ∉ ks) : putK (mkT ks) (Sum.inl ((e : Nat) : Int)) (.bl true) = mkT (ks ++ [e]) := by
  rw [putK_new _ (mkT_out h)]
  unfold mkT
  rw [List.map_append]
  rfl
theorem nd_le : ∀ {ks ys : List Nat}, ks.Nodup → (∀ e ∈ ks, e ∈ ys) → ks.length ≤ ys.length
  | [], _, _, _ => Nat.zero_le _
  | x :: ks, ys, nd, h => by
    obtain ⟨n1, n2⟩ := List.nodup_cons.mp nd
    have hx := h x (List.mem_cons_self ..)
    have e := List.length_erase_of_mem hx
    have := nd_le (ys := ys.erase x) n2 fun e he => (List.mem_erase_of_ne (fun z => n1 (by rw [← z]; exact he))).mpr (h e (List.mem_cons_of_mem _ he))
    have := List.length_pos_of_mem hx
    rw [List.length_cons]
    omega
theorem nodup_len {N : Nat} {ks : List Nat} (nd : ks.Nodup) (h : ∀ e ∈ ks, e < N) : ks.length ≤ N := by
  have := nd_le (ys := List.range N) nd fun e he => List.mem_range.mpr (h e he)
  rwa [List.length_range] at this
/-! ### going round, marking both ends of each line -/
def gone2 (F W : Nat → Nat) (b : Nat) : Nat → List Nat
  | 0 => []
  | i + 1 => gone2 F W b i ++ [iter (nextE F W) i b, F (iter (nextE F W) i b)]
theorem mem_gone {F W : Nat → Nat} {b e : Nat} : ∀ {i : Nat}, e ∈ gone2 F W b i ↔ ∃ j, j < i ∧ (e = iter (nextE F W) j b ∨ e = F (iter (nextE F W) j b))
  | 0 => ⟨fun h => by simp [gone2] at h, fun ⟨j, h, _⟩ => by omega⟩
  | i + 1 => by
    show e ∈ gone2 F W b i ++ [_, _] ↔ _
    rw [List.mem_append, mem_gone]
    simp only [List.mem_cons, List.not_mem_nil, or_false]
    constructor
    · rintro (⟨j, h, q⟩ | q)
      · exact ⟨j, by omega, q⟩
      · exact ⟨i, by omega, q⟩
    · rintro ⟨j, h, q⟩
      by_cases e' : j = i
      · subst e'
        exact .inr q
      · exact .inl ⟨j, by omega, q⟩
section
variable {F W : Nat → Nat} {n : Nat}
theorem gone_new (I : Inv2 F n) (hW : ∀ c, c < n → W c < 3) {b k i : Nat} (hb : b < 4 * n) (per : Per (nextE F W) b k) (hi : i < k) : iter (nextE F W) i b ∉ gone2 F W b i ∧ F (iter (nextE F W) i b) ∉ gone2 F W b i ++ [iter (nextE F W) i b] := by
  have G := next_goes I hW
  have lt := fun j => G.iter_lt hb j
  have nf : ∀ a c, iter (nextE F W) a b ≠ F (iter (nextE F W) c b) := fun a c e => by
    rcases Nat.le_total c a with h | h
    · have : iter (nextE F W) (a - c) (iter (nextE F W) c b) = F (iter (nextE F W) c b) := by
        rw [← iter_add, show a - c + c = a by omega]
        exact e
      exact no_far I hW (lt c) _ this
    · have e2 : F (iter (nextE F W) a b) = iter (nextE F W) c b := by rw [e, I.inv _ (lt c)]
      have : iter (nextE F W) (c - a) (iter (nextE F W) a b) = F (iter (nextE F W) a b) := by
        rw [← iter_add, show c - a + a = c by omega, e2]
      exact no_far I hW (lt a) _ this
  have ne : ∀ j, j < i → iter (nextE F W) i b ≠ iter (nextE F W) j b := fun j hj e => G.apart hb per.first hj hi e.symm
  constructor
  · intro h
    obtain ⟨j, hj, q | q⟩ := mem_gone.mp h
    · exact ne j hj q
    · exact nf i j q
  · intro h
    rcases List.mem_append.mp h with h | h
    · obtain ⟨j, hj, q | q⟩ := mem_gone.mp h
      · exact nf j i q.symm
      · refine ne j hj ?_
        rw [← I.inv _ (lt i), q, I.inv _ (lt j)]
    · exact nf i i (List.mem_singleton.mp h).symm
theorem on_gone {b k e : Nat} (I : Inv2 F n) (hW : ∀ c, c < n → W c < 3) (hb : b < 4 * n) (he : e < 4 * n) : On F W (b, k) e ↔ e ∈ gone2 F W b k := by
  rw [mem_gone]
  unfold On
  constructor
  · rintro (h | h)
    · obtain ⟨j, hj, q⟩ := mem_rnd.mp h
      exact ⟨j, hj, .inl q.symm⟩
    · obtain ⟨j, hj, q⟩ := mem_rnd.mp h
      have q : iter (nextE F W) j b = F e := q
      exact ⟨j, hj, .inr (by rw [q, I.inv e he])⟩
  · rintro ⟨j, hj, rfl | rfl⟩
    · exact .inl (mem_rnd.mpr ⟨j, hj, rfl⟩)
    · exact .inr (by
        rw [I.inv _ ((next_goes I hW).iter_lt hb j)]
        exact mem_rnd.mpr ⟨j, hj, rfl⟩)
end
abbrev sLC : Stmt := top 70
abbrev nLC : List Str := ["fars", "setting", "met", "found", "begin", "end"]
theorem scLC : FnScope nLC ["fars", "setting"] (defScope sLC) := ⟨rfl, rfl, rfl, by decide +kernel, rfl, by decide +kernel, by decide +kernel⟩
def spLC : Sp := fun vs H Q _ => ∃ (D S : Addr) (n : Nat) (ps : List (Nat × Nat)) (ws : List Nat), vs = [.ref D, .ref S] ∧ Lines n ps ∧ n ≤ 100 ∧ H D = some (.dK (fkv (far ps) (ends ps))) ∧ SetAt H S n ws ∧ ∀ H', Same H H' → Q (.int (Cn (far ps) n ws : Nat)) H'
section
variable {P : Program} {w : World} {K : PySem.W.Frag} {mg : Str → Option Value} {base : Heap}
theorem ok_lc {f : Addr} {fd : FuncData} (F : Fun K "_law_count" "_law_count" sLC f fd) : FnOk P w K mg base CX0 1 f fd ["fars", "setting"] spLC := by
  refine F.ok scLC (fun vs H Q E h => ?_) (fun cdv A outer s H vs Q E hr h => ?_)
  · obtain ⟨D, S, n, ps, ws, rfl, _⟩ := h
    rfl
  · obtain ⟨D, S, n, ps, ws, rfl, L, h100, hD, hS, k⟩ := h
    have nd := scLC.nd
    have hu := hu_of hr
    refine ⟨_, pss_cons (ps_par (i := 2) (j := 3) (by rfl) nd rfl rfl (by decide) rfl rfl (pa_cons pe_dnewK (pa_cons pe_int pa_nil)) (by rfl))
      (pss_cons (ps_lock (ps_for PassesOwn.never rfl (pi_keys (pv 0)) (pg_name (i := 4) nd rfl (Or.inl rfl))
        (pss_one (ps_if (pt_cmp (pc_dnotin hu (pv 4) (pv 2)))
          (C8.pss_cut (ps_par (i := 3) (j := 5) (by rfl) nd rfl rfl (by decide) rfl rfl (pa_cons (pe_op op_add (pv 3) pe_int) (pa_cons (pv 4) pa_nil)) (by rfl))
          (pss_one (ps_while PassesOwn.never (pt_cmp (pc_dnotin hu (pv 5) (pv 2)))
            (pss_cons (ps_asg pe_bl (pg_sub (pv 2) (pv 5) (set_dict hu)))
            (pss_cons (ps_asg pe_bl (pg_sub (pv 2) (pe_dget hu (pv 0) (pv 5) (fun _ _ => rfl)) (set_dict hu)))
            (pss_one (ps_set (i := 5) nd rfl (Or.inl rfl) (pe_op op_xor (pe_dget hu (pv 0) (pv 5) (fun _ _ => rfl)) (pe_op op_add (pe_ix ix_tup (pv 1) (pe_op op_fdiv (pe_dget hu (pv 0) (pv 5) (fun _ _ => rfl)) pe_int) (fun _ _ => rfl)) pe_int))))))))) pss_nil))))
      (pss_one (ps_ret (pv 3)))), ?_⟩
    have I := far_inv L
    have hW := hS.ways
    obtain ⟨rs, R⟩ := rounds_some I hW
    have ec := Cn_eq I hS.ok R
    have ndr : rs.Nodup := R.up.imp fun h e => by
      subst e
      omega
    refine fun M hM => ⟨_, _, rfl, ?_⟩
    have s1 := Same.new (o := .dK []) hM
    have hDM : D ≠ M := fun z => by
      subst z
      rw [hD] at hM
      cases hM
    have hM1 : (upd H M (.dK [])) M = some (.dK []) := upd_same
    generalize upd H M (.dK []) = H1 at s1 hM1
    have hD1 := s1 _ _ hD
    refine ⟨D, _, hD1, trivial, fun od => ?_⟩
    have eL : (fkv (far ps) (ends ps)).length = (ends ps).length := List.length_map _
    have fz : (upd H1 D (.frz od (.dK (fkv (far ps) (ends ps))))) D = some (.frz od (.dK (fkv (far ps) (ends ps)))) := upd_same
    have hM2 : (upd H1 D (.frz od (.dK (fkv (far ps) (ends ps))))) M = some (.dK (mkT [])) := (upd_ne hDM.symm).trans hM1
    have oth : ∀ b o, b ≠ D → H b = some o → (upd H1 D (.frz od (.dK (fkv (far ps) (ends ps))))) b = some o := fun b o hb e => (upd_ne hb).trans (s1 _ _ e)
    generalize upd H1 D (.frz od (.dK (fkv (far ps) (ends ps)))) = H2 at fz hM2 oth
    have hSD : S ≠ D := fun z => by
      subst z
      cases hS.here.symm.trans hD
    refine ⟨_, rfl, D, od, rfl, .inl ⟨_, fz, ?_⟩⟩
    refine for_it (walk_keys (kvs := fkv (far ps) (ends ps))) (fun i σ H' => ∃ (v4 v5 : Option V) (ks : List Nat) (vs : List (Nat × Nat)), σ = [some (.ref D), some (.ref S), some (.ref M), some (.int (vs.length : Nat)), v4, v5] ∧ H' D = some (.frz od (.dK (fkv (far ps) (ends ps)))) ∧ H' M = some (.dK (mkT ks)) ∧ (∀ b o, b ≠ D → H b = some o → H' b = some o) ∧ ks.Nodup ∧ vs.Nodup ∧ (∀ p ∈ vs, p ∈ rs) ∧ (∀ e, e ∈ ks ↔ e < 4 * n ∧ ∃ p ∈ vs, On (far ps) (wayL ws) p e) ∧ ∀ j e, j < i → (ends ps)[j]? = some e → e ∈ ks)
      ⟨none, none, [], [], rfl, fz, hM2, oth, .nil, .nil, fun p h => by simp at h, fun e => ⟨fun h => by simp at h, fun ⟨_, _, h, _⟩ => by simp at h⟩, fun j e h => by omega⟩ (fun i σ H' _ ⟨_, _, _, _, _, h, _⟩ => h) ?_ ?_
    · rintro i x σ H3 H4 hi ⟨v4, v5, ks, vs, rfl, d3, m3, o3, n1, n2, n3, n4, n5⟩ ⟨rfl, kk, vv, hkv, rfl⟩
      rw [eL] at hi
      obtain ⟨b, hb⟩ : ∃ b, (ends ps)[i]? = some b := ⟨_, List.getElem?_eq_getElem hi⟩
      have hkv2 : (fkv (far ps) (ends ps))[i]? = some (Sum.inl ((b : Nat) : Int), V.int (far ps b : Nat)) := by
        show ((ends ps).map _)[i]? = _
        rw [List.getElem?_map, hb]
        rfl
      cases hkv.symm.trans hkv2
      have lb : b < 4 * n := L.lt _ (List.mem_of_getElem? hb)
      have dg : ∀ {H' : Hp} {e : Nat}, H' D = some (.frz od (.dK (fkv (far ps) (ends ps)))) → e < 4 * n → DGet H' D (.int ((e : Nat) : Int)) (some (.int (far ps e : Nat))) := fun {H' e} h he => .inl ⟨_, Sum.inl ((e : Nat) : Int), .inr ⟨od, h⟩, rfl, (fkv_in (ends_full L he)).symm⟩
      have mg' : ∀ {H' : Hp} {ks : List Nat} {e : Nat}, H' M = some (.dK (mkT ks)) → DGet H' M (.int ((e : Nat) : Int)) (valV (mkT ks) (Sum.inl ((e : Nat) : Int))) := fun {H' ks e} h => DGet.k (k := Sum.inl ((e : Nat) : Int)) h
      refine ⟨_, rfl, _, rfl, M, _, rfl, mg' m3, _, rfl, ?_⟩
      by_cases hin : b ∈ ks
      · rw [mkT_in hin]
        refine iteF ?_
        refine ⟨_, _, ks, vs, rfl, d3, m3, o3, n1, n2, n3, n4, fun j e hj he => ?_⟩
        by_cases ji : j = i
        · subst ji
          cases he.symm.trans hb
          exact hin
        · exact n5 j e (by omega) he
      · rw [mkT_out hin]
        refine iteT ?_
        obtain ⟨p, hp, onp⟩ := R.all b lb
        have pnew : p ∉ vs := fun z => hin ((n4 b).mpr ⟨lb, p, z, onp⟩)
        obtain ⟨p1, p2⟩ := R.per p hp
        obtain ⟨kk, per, _⟩ := (next_goes I hW).per lb
        have lt := fun j => (next_goes I hW).iter_lt lb j
        have notks : ∀ e, e < 4 * n → On (far ps) (wayL ws) p e → e ∉ ks := fun e he on h => by
          obtain ⟨_, q, hq, onq⟩ := (n4 e).mp h
          have := On.one I R hp (n3 q hq) he on onq
          subst this
          exact pnew hq
        have onall : ∀ e, e < 4 * n → (On (far ps) (wayL ws) p e ↔ e ∈ gone2 (far ps) (wayL ws) b kk) := fun e he => (On.same I hW p1 p2 lb per onp he).trans (on_gone I hW lb he)
        refine ⟨fun σ' H' => σ' = [some (.ref D), some (.ref S), some (.ref M), some (.int ((vs.length : Nat) + 1 : Int)), some (.int (b : Nat)), some (.int (b : Nat))] ∧ H' = H4, ?_, ?_⟩
        · exact ⟨_, rfl, _, _, rfl, rfl, _, rfl, _, _, rfl, rfl, rfl⟩
        · rintro σ0 H0 ⟨rfl, rfl⟩
          refine ⟨fun N σ' H' => ∃ i', i' + N = kk ∧ σ' = [some (.ref D), some (.ref S), some (.ref M), some (.int ((vs.length : Nat) + 1 : Int)), some (.int (b : Nat)), some (.int (iter (nextE (far ps) (wayL ws)) i' b : Nat))] ∧ H' D = some (.frz od (.dK (fkv (far ps) (ends ps)))) ∧ H' M = some (.dK (mkT (ks ++ gone2 (far ps) (wayL ws) b i'))) ∧ (∀ b o, b ≠ D → H b = some o → H' b = some o) ∧ (ks ++ gone2 (far ps) (wayL ws) b i').Nodup, ⟨kk, 0, Nat.zero_add _, rfl, d3, by
            show _ = some (HO.dK (mkT (ks ++ [])))
            rw [List.append_nil]
            exact m3, o3, by
            show (ks ++ []).Nodup
            rw [List.append_nil]
            exact n1⟩, ?_⟩
          rintro N σ' H5 ⟨i', hN, rfl, d5, m5, o5, n5'⟩
          refine ⟨_, rfl, _, rfl, M, _, rfl, mg' m5, _, rfl, ?_⟩
          by_cases hk : i' < kk
          · have on_i : On (far ps) (wayL ws) p (iter (nextE (far ps) (wayL ws)) i' b) := (onall _ (lt i')).mpr (mem_gone.mpr ⟨i', hk, .inl rfl⟩)
            have on_f : On (far ps) (wayL ws) p (far ps (iter (nextE (far ps) (wayL ws)) i' b)) := on_i.far I (lt i')
            obtain ⟨g1, g2⟩ := gone_new I hW lb per hk
            have e1 : iter (nextE (far ps) (wayL ws)) i' b ∉ ks ++ gone2 (far ps) (wayL ws) b i' := fun h => by
              rcases List.mem_append.mp h with h | h
              · exact notks _ (lt i') on_i h
              · exact g1 h
            have e2 : far ps (iter (nextE (far ps) (wayL ws)) i' b) ∉ (ks ++ gone2 (far ps) (wayL ws) b i') ++ [iter (nextE (far ps) (wayL ws)) i' b] := fun h => by
              rw [List.append_assoc] at h
              rcases List.mem_append.mp h with h | h
              · exact notks _ (I.lt _ (lt i')) on_f h
              · exact g2 h
            rw [mkT_out e1]
            refine iteT ?_
            generalize hx : iter (nextE (far ps) (wayL ws)) i' b = x at e1 e2 on_i
            have lx : x < 4 * n := by rw [← hx]; exact lt i'
            have lF := I.lt x lx
            have bound : ∀ {ks : List Nat}, ks.Nodup → (∀ e ∈ ks, e < 4 * n) → (mkT ks).length < sizeLine := fun {ks} nd h => by
              have := nodup_len nd h
              show (ks.map _).length < sizeLine
              rw [List.length_map]
              exact Nat.lt_of_le_of_lt (by omega : ks.length ≤ 400) (by decide)
            have ltks : ∀ e ∈ ks ++ gone2 (far ps) (wayL ws) b i', e < 4 * n := fun e he => by
              rcases List.mem_append.mp he with he | he
              · exact ((n4 e).mp he).1
              · obtain ⟨j, _, q | q⟩ := mem_gone.mp he
                · rw [q]
                  exact lt j
                · rw [q]
                  exact I.lt _ (lt j)
            have nd2 : ((ks ++ gone2 (far ps) (wayL ws) b i') ++ [x]).Nodup := List.nodup_append.mpr ⟨n5', by simp, fun a ha c hc e => by
              rw [List.mem_singleton] at hc
              subst hc
              subst e
              exact e1 ha⟩
            have nd3 : (((ks ++ gone2 (far ps) (wayL ws) b i') ++ [x]) ++ [far ps x]).Nodup := List.nodup_append.mpr ⟨nd2, by simp, fun a ha c hc e => by
              rw [List.mem_singleton] at hc
              subst hc
              subst e
              exact e2 ha⟩
            have put1 := DPut.k (k := Sum.inl ((x : Nat) : Int)) (v := .bl true) m5 (bound n5' ltks)
            rw [mkT_put e1] at put1
            refine ⟨fun σ' H' => ∃ N', N' + 1 = N ∧ ∃ i', i' + N' = kk ∧ σ' = [some (.ref D), some (.ref S), some (.ref M), some (.int ((vs.length : Nat) + 1 : Int)), some (.int (b : Nat)), some (.int (iter (nextE (far ps) (wayL ws)) i' b : Nat))] ∧ H' D = some (.frz od (.dK (fkv (far ps) (ends ps)))) ∧ H' M = some (.dK (mkT (ks ++ gone2 (far ps) (wayL ws) b i'))) ∧ (∀ b o, b ≠ D → H b = some o → H' b = some o) ∧ (ks ++ gone2 (far ps) (wayL ws) b i').Nodup, fun σ' H' h => by
              obtain ⟨N', hN', h⟩ := h
              exact ⟨N', by omega, h⟩, ?_⟩
            refine ⟨_, rfl, _, rfl, M, _, rfl, put1, ?_⟩
            have hMD : M ≠ D := fun z => hDM z.symm
            have fM : ∀ b o, H b = some o → b ≠ M := fun b o e z => by
              rw [z, hM] at e
              cases e
            have m6 : (upd H5 M (HO.dK (mkT ((ks ++ gone2 (far ps) (wayL ws) b i') ++ [x])))) M = some (HO.dK (mkT ((ks ++ gone2 (far ps) (wayL ws) b i') ++ [x]))) := upd_same
            have d6 : (upd H5 M (HO.dK (mkT ((ks ++ gone2 (far ps) (wayL ws) b i') ++ [x])))) D = some (.frz od (.dK (fkv (far ps) (ends ps)))) := (upd_ne hDM).trans d5
            have o6 : ∀ b' o, b' ≠ D → H b' = some o → (upd H5 M (HO.dK (mkT ((ks ++ gone2 (far ps) (wayL ws) b i') ++ [x])))) b' = some o := fun b' o hb' e => (upd_ne (fM _ _ e)).trans (o5 _ _ hb' e)
            generalize upd H5 M (HO.dK (mkT ((ks ++ gone2 (far ps) (wayL ws) b i') ++ [x]))) = H6 at m6 d6 o6
            have put2 := DPut.k (k := Sum.inl ((far ps x : Nat) : Int)) (v := .bl true) m6 (bound nd2 fun e he => by
              rcases List.mem_append.mp he with he | he
              · exact ltks e he
              · rw [List.mem_singleton.mp he]
                exact lx)
            rw [mkT_put e2] at put2
            refine ⟨_, rfl, _, rfl, _, rfl, D, _, rfl, dg d6 lx, M, _, rfl, put2, ?_⟩
            have eg : (ks ++ gone2 (far ps) (wayL ws) b i') ++ [x] ++ [far ps x] = ks ++ gone2 (far ps) (wayL ws) b (i' + 1) := by
              rw [← hx, List.append_assoc, List.append_assoc]
              rfl
            rw [eg] at nd3
            rw [eg]
            have m7 : (upd H6 M (HO.dK (mkT (ks ++ gone2 (far ps) (wayL ws) b (i' + 1))))) M = some (HO.dK (mkT (ks ++ gone2 (far ps) (wayL ws) b (i' + 1)))) := upd_same
            have d7 : (upd H6 M (HO.dK (mkT (ks ++ gone2 (far ps) (wayL ws) b (i' + 1))))) D = some (.frz od (.dK (fkv (far ps) (ends ps)))) := (upd_ne hDM).trans d6
            have o7 : ∀ b' o, b' ≠ D → H b' = some o → (upd H6 M (HO.dK (mkT (ks ++ gone2 (far ps) (wayL ws) b (i' + 1))))) b' = some o := fun b' o hb' e => (upd_ne (fM _ _ e)).trans (o6 _ _ hb' e)
            generalize upd H6 M (HO.dK (mkT (ks ++ gone2 (far ps) (wayL ws) b (i' + 1)))) = H7 at m7 d7 o7
            have d4 : ((far ps x : Nat) : Int) / 4 = ((far ps x / 4 : Nat) : Int) := by omega
            have wat := hS.at_ (c := far ps x / 4) (by omega)
            refine ⟨_, rfl, _, rfl, D, _, rfl, dg d7 lx, _, rfl, _, rfl, _, rfl, D, _, rfl, dg d7 lx, _, _, rfl, rfl, ⟨by decide, by decide⟩, S, _, _, V.int (wayL ws (far ps x / 4) : Nat), rfl, rfl, SqT.of (o7 _ _ hSD hS.here), at_of (j := far ps x / 4) d4 (nats_at wat), _, _, rfl, rfl, _, _, rfl, rfl, N - 1, by omega, i' + 1, by omega, ?_, d7, m7, o7, nd3⟩
            have w3 := hW (far ps x / 4) (by omega)
            have ex : Builtin.bitXor ((far ps x : Nat) : Int) (((wayL ws (far ps x / 4) : Nat) : Int) + 1) = ((iter (nextE (far ps) (wayL ws)) (i' + 1) b : Nat) : Int) := by
              rw [Bits.bitXor_pp (by omega) (by omega), show (((wayL ws (far ps x / 4) : Nat) : Int) + 1).toNat = wayL ws (far ps x / 4) + 1 by omega]
              show _ = ((nextE (far ps) (wayL ws) (iter (nextE (far ps) (wayL ws)) i' b) : Nat) : Int)
              rw [hx]
              rfl
            rw [← ex]
            rfl
          · have ik : i' = kk := by omega
            subst ik
            have bin : b ∈ ks ++ gone2 (far ps) (wayL ws) b i' := List.mem_append.mpr (.inr (mem_gone.mpr ⟨0, per.pos, .inl rfl⟩))
            rw [per.back, mkT_in bin]
            refine iteF ?_
            refine ⟨some (.int (b : Nat)), some (.int (b : Nat)), _, vs ++ [p], ?_, d5, m5, o5, n5', List.nodup_append.mpr ⟨n2, by simp, fun a ha c hc e => ?_⟩, fun q hq => ?_, fun e => ?_, fun j e hj he => ?_⟩
            · rw [List.length_append]
              rfl
            · rw [List.mem_singleton] at hc
              subst hc
              subst e
              exact pnew ha
            · rcases List.mem_append.mp hq with hq | hq
              · exact n3 q hq
              · rw [List.mem_singleton.mp hq]
                exact hp
            · rw [List.mem_append, n4]
              constructor
              · rintro (⟨h1, q, h2, h3⟩ | h)
                · exact ⟨h1, q, List.mem_append.mpr (.inl h2), h3⟩
                · have le : e < 4 * n := by
                    obtain ⟨j, _, q | q⟩ := mem_gone.mp h
                    · rw [q]
                      exact lt j
                    · rw [q]
                      exact I.lt _ (lt j)
                  exact ⟨le, p, List.mem_append.mpr (.inr (List.mem_cons_self ..)), (onall e le).mpr h⟩
              · rintro ⟨le, q, hq, on⟩
                rcases List.mem_append.mp hq with hq | hq
                · exact .inl ⟨le, q, hq, on⟩
                · rw [List.mem_singleton.mp hq] at on
                  exact .inr ((onall e le).mp on)
            · by_cases ji : j = i
              · subst ji
                cases he.symm.trans hb
                exact bin
              · exact List.mem_append.mpr (.inl (n5 j e (by omega) he))
    · rintro σ H3 ⟨v4, v5, ks, vs, rfl, d3, m3, o3, n1, n2, n3, n4, n5⟩
      rw [eL] at n5
      have lv : vs.length = rs.length := by
        refine ((List.perm_ext_iff_of_nodup n2 ndr).mpr fun p => ⟨n3 p, fun hp => ?_⟩).length_eq
        obtain ⟨p1, p2⟩ := R.per p hp
        obtain ⟨j, hj⟩ := List.mem_iff_getElem?.mp (ends_full L p1)
        have hj2 := n5 j p.1 (List.getElem?_eq_some_iff.mp hj).1 hj
        obtain ⟨_, q, hq, on⟩ := (n4 p.1).mp hj2
        have := On.one I R hp (n3 q hq) p1 (.inl (self_rnd p2)) on
        rw [this]
        exact hq
      refine ⟨d3, _, rfl, ?_⟩
      rw [lv, ← ec]
      refine k _ fun b' o e => ?_
      by_cases hb' : b' = D
      · subst hb'
        rw [upd_same, ← hD]
        exact e
      · exact (upd_ne hb').trans (o3 _ _ hb' e)
end
end One
end P_U4

section P_X3
set_option linter.all false
set_option maxRecDepth 100000
set_option maxHeartbeats 4000000
namespace One
open PySem PySem.Spec PyProof.Rows L2
/-! ### try: .. except x as n: m = n / rest, where the rest may look at the exception that m holds -/
/-- slot i is n's, slot j is m's -/
def wHold (K : PySem.W.Frag) (c : Value) (i j : Nat) (tE : Addr → Value → Option Addr → TS) (Wout : WX) (D : Ends) : WX := fun cls d σ H =>
  ∃ b, PySem.W.exmOne K cls c = some b ∧ (b = true → ∀ a, H a = none → tE a cls d D (((σ.set i (some (.ref a))).set j (some (.ref a))).set i none) H) ∧ (b = false → Wout cls d σ H)
theorem tr_tr {X : Cx} {pins : List (Addr × Obj)} {σ : L2.St} {H : Hp} {s : Shared} {q : Addr × Obj} {xe : Value → Shared → Prop} (I : Inv (X.suite q.1 (q :: (X.pn ++ pins))) [] σ H s) (ok : X.Ok) : Inv (X.tr (q :: (X.pn ++ pins)) xe) [] σ H s :=
  ⟨ok.toTry _ _, I.os, I.bare, I.base, I.loc, I.cell, I.free, I.freeC, I.pin, I.hok, I.len⟩
theorem of_tr {X : Cx} {pins pn' : List (Addr × Obj)} {σ : L2.St} {H : Hp} {s : Shared} {q : Addr × Obj} {xe : Value → Shared → Prop} (I : Inv (X.tr (q :: (X.pn ++ pins)) xe) pn' σ H s) (ok : X.Ok) : Inv X pins σ H s :=
  ⟨ok, I.os, I.bare, I.base, I.loc, I.cell, I.free, I.freeC, fun y hy => I.pin y (List.mem_append_left _ (List.mem_cons_of_mem _ hy)), I.hok, I.len⟩
theorem sp_tr {X : Cx} {pins : List (Addr × Obj)} {q : Addr × Obj} {xe : Value → Shared → Prop} {D : Ends} {f : Flow} {s : Shared} (ok : X.Ok) (h : SP (X.tr (q :: (X.pn ++ pins)) xe) [] D f s) : SP X pins D f s := by
  match f, h with
  | .next, ⟨σ', H', J, z⟩ => exact ⟨σ', H', of_tr J ok, z⟩
  | .brk, ⟨σ', H', J, z⟩ => exact ⟨σ', H', of_tr J ok, z⟩
  | .cont, ⟨σ', H', J, z⟩ => exact ⟨σ', H', of_tr J ok, z⟩
  | .ret u, ⟨v, σ', H', J, r, z⟩ => exact ⟨v, σ', H', of_tr J ok, r, z⟩
section
variable {X : Cx} {x n m : Str} {c : Value} {i j : Nat} {body rest : List Stmt} {np mp mp2 ap pos pos' : Pos} {tb : WX → TS} {t0 : TS} {tE : Addr → Value → Option Addr → TS} {Wout : WX}
theorem pss_hold (hs : X.stack = X.env :: X.outer) (hf : X.env.frame = some X.env.locals) (nd : X.N.Nodup) (hi : X.N[i]? = some n) (hln : X.env.kindOf n = some .local) (hj : X.N[j]? = some m) (hlm : X.env.kindOf m = some .local) (hc : Names X x c) (tk : Takes X Wout)
    (hdb : (n == ("__debug__" : Str)) = false) (hdc : (n == ("__classdict__" : Str)) = false)
    (hb : ∀ (W : WX) (pn : List (Addr × Obj)) (xe : Value → Shared → Prop), Takes (X.tr pn xe) W → PassesOwn (model X.prog X.w) X.A X.env xe → PSs (X.tr pn xe) body (tb W)) (h0 : PSs X rest t0)
    (hE : ∀ (a : Addr) (oe : Obj) (cls : Value) (d : Option Addr) (pn : List (Addr × Obj)), Zc cls d oe → (∃ vs, oe.data = .fields vs) → PSs (X.tr ((a, oe) :: pn) X.xe) rest (tE a cls d)) :
    PSs X (.Try body [.ExceptHandler (some (.Name x np)) (some n) [.Assign [.Name m mp] (.Name n mp2) ap] pos'] [] [] pos :: rest) (fun D σ H => tb (wHold X.K c i j tE Wout D) { D with nx := t0 D } σ H) := by
  refine ⟨fun pins s σ H D I h => ?_⟩
  have ok := I.ok
  have frs0 : X.A.frames = some (X.env :: X.outer) := ok.frames.trans (by rw [hs])
  refine wpAny_execs_cons (wpAny_Try_except ?_)
  let Q2 : Flow → Shared → Prop := fun f s' => match f with
    | .next => wpAny (model X.prog X.w) X.A (execs rest X.env) (SP X pins D) X.xe s'
    | f => SP X pins D f s'
  refine wpAny_mono ((hb (wHold X.K c i j tE Wout D) (X.pn ++ pins) (fun e s1 => wpAny (model X.prog X.w) X.A (noteFrame e X.env) (fun _ s2 => wpAny (model X.prog X.w) X.A (setFlight e none) (fun _ s3 =>
    wpAny (model X.prog X.w) X.A (handleBy e X.env [.ExceptHandler (some (.Name x np)) (some n) [.Assign [.Name m mp] (.Name n mp2) ap] pos']) Q2 X.xe s3) X.xe s2) X.xe s1) (fun u s' air => ?_) PassesOwn.looking).run [] s σ H { D with nx := t0 D } (I.toTry _) h) (fun f s1 hsp => ?_) (fun e s1 he => he)
  · obtain ⟨a, B, sI, pins', σ', H', cls, d, rfl, Jx, nb, up, sky, na, os, ag, b, hb1, yes, no⟩ := air
    have Jo : Inv X pins σ' H' sI := Jx.ofTry ok
    refine (show wpAny (model X.prog X.w) X.A (noteFrame (.ref a) X.env) _ _ _ from ?_)
    refine Sky.land Zc.steady frs0 hf (hs ▸ sky : Sky B (X.env :: X.outer) a (Zc cls d) X.env.locals s'.heap) fun hpl fll upl => ?_
    have Jl : Inv X pins σ' H' { s' with heap := hpl } := Jo.landed nb fll.1 (up.trans upl) os ag
    obtain ⟨oel, vsl, hel, hzl, hdl⟩ := fll.there
    have away : a ∉ frs (X.env :: X.outer) := fun hm => by
      obtain ⟨_, o', e', hnf⟩ := fll.2.2.1.mem hm
      cases hel.symm.trans e'
      exact hnf _ hdl
    have nL : a ≠ X.env.locals := fun z => away (List.mem_filterMap.mpr ⟨X.env, List.mem_cons_self, hf.trans (congrArg some z.symm)⟩)
    have nS : a ∉ X.fs := fun hm => by
      obtain ⟨e, he, q⟩ := List.mem_filterMap.mp hm
      exact away (List.mem_filterMap.mpr ⟨e, List.mem_cons_of_mem _ he, q⟩)
    have Sl := Jl.suite hel hdl na nL nS
    refine wpAny_handleBy_cons (codeAny_handlers_test ?_) (by intro q; cases q)
    have Lty : PySem.W.Looks (model X.prog X.w) hpl (typeOf (.ref a)) cls := fun A Q E s k q => wpAny_typeOf_ref (k _ _ hel) (by rw [hzl.1]; exact q)
    have look : ∀ {Q : Value → Shared → Prop} {E : Value → Shared → Prop}, Q c { s' with heap := hpl } → wpAny (model X.prog X.w) (X.A.mark (some (.ref a))) (eval (.Name x np) X.env) Q E { s' with heap := hpl } := fun {Q E} q => by
      obtain ⟨g1, g2, g3 | ⟨g3, g4, g5⟩⟩ := hc
      · exact ld_glob (X := X.suite a ((a, oel) :: (X.pn ++ pins))) Sl g1 g3 q g2
      · exact ld_blt (X := X.suite a ((a, oel) :: (X.pn ++ pins))) Sl g1 g3 g4 q g5 g2
    refine look ((PySem.W.exm_one (M := model X.prog X.w) Jl.kIn Lty hb1).here ?_)
    cases b with
    | true =>
      refine codeAny_handlers_suite_as (HandSPX.lands_againZ fll fun hpm flm upm => ?_)
      have Jm : Inv X pins σ' H' { s' with heap := hpm } := Jo.landed nb flm.1 ((up.trans upl).trans upm) os ag
      obtain ⟨oem, vsm, hem, hzm, hdm⟩ := flm.there
      have Sm := Jm.suite hem hdm na nL nS
      refine store_ok (X := X.suite a ((a, oem) :: (X.pn ++ pins))) (v := .ref a) Sm nd hi (.inl hln) rfl (fun s5 S5 => ?_) (.inr hln)
      have one : PSs (X.suite a ((a, oem) :: (X.pn ++ pins))) [.Assign [.Name m mp] (.Name n mp2) ap] _ := pss_one (ps_set (i := j) nd hj (.inl hlm) (pe_var (i := i) hi (.inl hln) hdb hdc) (hf := .inr hlm))
      have li : i < σ'.length := by
        rw [Jo.len]
        exact (List.getElem?_eq_some_iff.mp hi).1
      refine wpAny_mono (one.run [] s5 _ H' { nx := fun σ6 H6 => σ6 = (σ'.set i (some (.ref a))).set j (some (.ref a)) ∧ H6 = H', rt := fun _ _ => False } S5 ⟨.ref a, List.getElem?_set_self li, rfl, rfl⟩) (fun f s6 hsp => ?_) (fun _ _ z => False.elim z)
      match f, hsp with
      | .next, ⟨σ6, H6, S6, e1, e2⟩ =>
        subst e1 e2
        refine gone_ok (X := X.suite a ((a, oem) :: (X.pn ++ pins))) S6 nd hi hln fun s7 S7 => ?_
        exact wpAny_mono ((hE a oem cls d (X.pn ++ pins) hzm ⟨_, hdm⟩).run [] s7 _ _ D (tr_tr (q := (a, oem)) S7 ok) (yes rfl a na)) (fun f s8 h8 => sp_tr (q := (a, oem)) ok h8) fun _ _ z => z
      | .brk, ⟨_, _, _, z⟩ => exact z.elim
      | .cont, ⟨_, _, _, z⟩ => exact z.elim
      | .ret u, ⟨_, _, _, _, _, z⟩ => exact z.elim
    | false =>
      refine (show wpAny _ X.A (handleBy (.ref a) X.env []) _ _ _ from wpAny_handleBy_nil ?_)
      obtain ⟨_, _, _, oe, vs, T, oT, ts', he, hz, hd, h1, hr⟩ := id fll
      unfold PySem.passOn
      refine wpAny_bind (wpAny_field he hd h1 ?_); rw [if_neg (show ¬ ((Value.ref T == Value.none) = true) from by simp)]
      have last : wpAny (model X.prog X.w) X.A (setFlight (.ref a) X.env.frame) (fun _ s4 => wpAny (model X.prog X.w) X.A (throw (.ref a) : Sem Flow) Q2 X.xe s4) X.xe { s' with heap := hpl } := by
        rw [hf]
        exact HandSPX.setFlight_upZ fll fun hpm hh4 upm => wpAny_throw (tk _ _ ⟨a, B, sI, pins, σ', H', cls, d, rfl, Jo, nb, (up.trans upl).trans upm, .inr (.inr (by rw [hs]; exact hh4)), na, os, ag, no rfl⟩)
      first
        | exact wpAny_bind (wpAny_pure (wpAny_bind last))
        | exact wpAny_bind last
  · match f, hsp with
    | .next, ⟨σ', H', Jx, q⟩ => exact wpAny_execs_nil (h0.run pins s1 σ' H' D (Jx.ofTry ok) q)
    | .brk, ⟨σ', H', Jx, q⟩ => exact ⟨σ', H', Jx.ofTry ok, q⟩
    | .cont, ⟨σ', H', Jx, q⟩ => exact ⟨σ', H', Jx.ofTry ok, q⟩
    | .ret u, ⟨v, σ', H', Jx, r, q⟩ => exact ⟨v, σ', H', Jx.ofTry ok, r, q⟩
end
end One
end P_X3

section P_X4
set_option linter.all false
set_option maxRecDepth 100000
set_option maxHeartbeats 4000000
namespace One
open PySem PySem.Spec PyProof.Rows L2
/-! ### a held exception is looked at: its class, its fields -/
theorem held_at {X : Cx} {a D dd : Addr} {oe : Obj} {pn pins : List (Addr × Obj)} {xe : Value → Shared → Prop} {σ : L2.St} {H : Hp} {s : Shared} {fs : List (Str × V)} (I : Inv (X.tr ((a, oe) :: pn) xe) pins σ H s) (hz : Zc (.ref D) (some dd) oe) (hf : ∃ vs, oe.data = .fields vs) (hd : H dd = some (.xd fs)) :
    ∃ (od : Obj) (mA : Str → Option Value), PySem.W.InstAt s.heap a oe D (some od) ∧ s.heap.Ns1 dd mA ∧ s.heap.get? dd = some od ∧ ∀ g, RelO (fs.lookup g) (mA g) := by
  obtain ⟨hat, _⟩ := I.pin (a, oe) (List.mem_append.mpr (.inl List.mem_cons_self))
  obtain ⟨vs, hv⟩ := hf
  obtain ⟨mA, hns, hr⟩ := (show ObjOk X.prog X.w H s.heap dd (.xd fs) from I.hok dd _ hd)
  obtain ⟨od, es, ep, ho, _⟩ := id hns
  exact ⟨od, mA, ⟨hat, hz.1, by unfold PySem.W.notCls; rw [hv] <;> rfl, by rw [hz.2]; exact ho⟩, hns, ho, hr⟩
def rIsX (K : PySem.W.Frag) (a : Addr) (cls : Value) (d : Option Addr) : List V → Hp → VK → Prop := fun xs H Q => ∃ (D dd : Addr) (c : V) (cv : Value) (b : Bool) (fs : List (Str × V)), xs = [.ref a, c] ∧ cls = .ref D ∧ d = some dd ∧ ExcC K D ∧
  (∀ u, RelV c u → u = cv) ∧ PySem.W.kitOne K (.ref D) cv = some b ∧ H dd = some (.xd fs) ∧ Q (.bl b) H
section
variable {X : Cx} {a : Addr} {oe : Obj} {cls : Value} {d : Option Addr} {pn : List (Addr × Obj)} {xe : Value → Shared → Prop}
theorem cr_isX (hz : Zc cls d oe) (hf : ∃ vs, oe.data = .fields vs) : CallR (X.tr ((a, oe) :: pn) xe) (.builtin "isinstance") (rIsX X.K a cls d) := by
  intro pins s σ H xs us Q I r h
  obtain ⟨D, dd, c, cv, b, fs, rfl, rfl, rfl, C, hcv, e, hd, q⟩ := h
  cases r with
  | cons rx rr =>
    cases rr with
    | cons rt rr =>
      cases rr
      cases rx
      have ec := hcv _ rt
      subst ec
      obtain ⟨od, mA, J, _, _, _⟩ := held_at I hz hf hd
      have hcl : (PySem.W.clsIn X.K D).isSome = true := by
        obtain ⟨cd, hc, _⟩ := PySem.W.any_some C.hd
        rw [hc]; rfl
      exact PySem.W.kia_one (PySem.W.kitx_exc hcl C.hg C.hk C.hs C.ha C.hn C.ht C.hm) I.kIn J e (fun z => nomatch z) fun tk => ⟨.bl b, H, I.kept (t' := tk) fun _ _ z => z, rfl, q⟩
/-- x.n, x the held exception -/
def tFld (K : PySem.W.Frag) (a : Addr) (cls : Value) (d : Option Addr) (n : Str) (te : TE) : TE := fun σ H Q => te σ H fun x H1 => ∃ (C dd : Addr) (fs : List (Str × V)) (v : V), x = .ref a ∧ cls = .ref C ∧ d = some dd ∧ XfC K C ∧ PySem.W.findIn K (.ref C) n = some none ∧ H1 dd = some (.xd fs) ∧ fs.lookup n = some v ∧ Q v H1
theorem pe_fld {e : Expr} {te : TE} {pos : Pos} {n : Str} (hz : Zc cls d oe) (hf : ∃ vs, oe.data = .fields vs) (he : PE (X.tr ((a, oe) :: pn) xe) e te) (hb : attributeBase e n X.env (eval e X.env) = eval e X.env := by rfl) :
    PE (X.tr ((a, oe) :: pn) xe) (.Attribute e n pos) (tFld X.K a cls d n te) := by
  refine ⟨fun pins s σ H Q I h => attr_of hb (thn (he.run pins s σ H _ I h) fun u s1 ⟨x, H1, I1, rx, C, dd, fs, v, ex, e1, e2, T, hno, hd, l, q⟩ => ?_)⟩
  subst ex e1 e2
  obtain rfl : u = Value.ref a := rx
  obtain ⟨od, mA, J, hns, ho, hr⟩ := held_at I1 hz hf hd
  obtain ⟨od', ho', hl⟩ := lookIn_ns hns
  obtain rfl : od' = od := Option.some.inj (ho'.symm.trans ho)
  obtain ⟨uv, huv, ruv⟩ := RelO.some_of (v := v) (o := mA n) (by rw [← l]; exact hr n)
  exact HandSPX.exc_get I1.kIn J T.ga T.gg T.exC (PySem.W.findObj_own T.hdC hno rfl (by rw [hl, huv])) (handed_of ruv) ⟨v, H1, I1.tok _, ruv, q⟩
end
end One
end P_X4

section P_V1
set_option linter.all false
set_option maxRecDepth 100000
set_option maxHeartbeats 4000000
namespace One
open PySem PySem.Spec PyProof.Rows L2
/-! ### repr of anything that the laws hand in: also where empty dicts stand in it -/
mutual
inductive Dq (H : Hp) : V → PyData → Prop
  | non : Dq H .non .none
  | bl (b : Bool) : Dq H (.bl b) (.bool b)
  | int (i : Int) : Dq H (.int i) (.int i)
  | str (x : Str) : Dq H (.str x) (.str x)
  | lst {a : Addr} {xs : List V} {ds : List PyData} : a ≠ sysModules → H a = some (.lst xs) → DqAll H xs ds → Dq H (.ref a) (.list ds)
  | tup {a : Addr} {xs : List V} {ds : List PyData} : H a = some (.tup xs) → DqAll H xs ds → Dq H (.ref a) (.tuple ds)
  | emp {a : Addr} : H a = some (.dK []) → Dq H (.ref a) (.dict [])
inductive DqAll (H : Hp) : List V → List PyData → Prop
  | nil : DqAll H [] []
  | cons {v : V} {vs : List V} {d : PyData} {ds : List PyData} : Dq H v d → DqAll H vs ds → DqAll H (v :: vs) (d :: ds)
end
section
variable {X : Cx} {pins : List (Addr × Obj)} {σ : L2.St} {H : Hp} {s : Shared}
mutual
theorem Dq.reads (I : Inv X pins σ H s) : ∀ (d : PyData) (v : V) (u : Value), Dq H v d → RelV v u → ∃ as, Reads s.heap u d as ∧ sysModules ∉ as
  | .none, _, _, h, r => by
    cases h
    cases r
    exact ⟨_, Reads.none, by simp⟩
  | .bool b, _, _, h, r => by
    cases h
    cases r
    exact ⟨_, Reads.bool b, by simp⟩
  | .int i, _, _, h, r => by
    cases h
    obtain ⟨t, rfl⟩ := r
    exact ⟨_, Reads.int i t, by simp⟩
  | .str x, _, _, h, r => by
    cases h
    obtain ⟨t, rfl⟩ := r
    exact ⟨_, Reads.str x t, by simp⟩
  | .list ds, _, _, h, r => by
    cases h with
    | lst hne hs ha =>
      cases r
      obtain ⟨its, rv, ⟨o, n, ho, hc, _, hd⟩, _⟩ := I.list (SqL.of hs)
      obtain ⟨as, hr, hn⟩ := Dq.readsAll I ds _ its ha rv
      refine ⟨_, Reads.list ho hc hd hr, fun m => ?_⟩
      rcases List.mem_cons.mp m with e | m
      · exact hne e.symm
      · exact hn m
  | .tuple ds, _, _, h, r => by
    cases h with
    | tup hs ha =>
      cases r
      obtain ⟨its, rv, ⟨o, ho, hc, n, hd⟩, _⟩ := I.tuple (SqT.of hs)
      obtain ⟨as, hr, hn⟩ := Dq.readsAll I ds _ its ha rv
      exact ⟨_, Reads.tuple ho hc hd hr, hn⟩
  | .dict kvs, _, _, h, r => by
    cases h with
    | @emp a hs =>
      cases r
      obtain ⟨_, hne, vs, hkv, o, es, ep, ho, hex, hda, _, hp, _⟩ := (show ObjOk X.prog X.w H s.heap a (.dK []) from I.hok a _ hs)
      cases hkv
      have e0 : es.toList = [] := by
        generalize es.toList = l at hp
        cases hp
        rfl
      refine ⟨_, Reads.dict ho hex.1 hda (by rw [e0]; exact .nil) (by rw [e0]; exact .nil), fun m => ?_⟩
      have e : sysModules = a := List.mem_singleton.mp (by simpa using m)
      exact beq_eq_false_iff_ne.mp hne e.symm
theorem Dq.readsAll (I : Inv X pins σ H s) : ∀ (ds : List PyData) (vs : List V) (us : List Value), DqAll H vs ds → Vals vs us → ∃ as, ReadsAll s.heap us ds as ∧ sysModules ∉ as
  | [], _, _, h, r => by
    cases h
    cases r
    exact ⟨_, ReadsAll.nil, by simp⟩
  | d :: ds, _, _, h, r => by
    cases h with
    | cons h1 h2 =>
      cases r with
      | cons r1 r2 =>
        obtain ⟨as, q1, n1⟩ := Dq.reads I d _ _ h1 r1
        obtain ⟨bs, q2, n2⟩ := Dq.readsAll I ds _ _ h2 r2
        exact ⟨_, ReadsAll.cons q1 q2, fun m => (List.mem_append.mp m).elim n1 n2⟩
end
end
def rReprQ (K : PySem.W.Frag) : List V → Hp → VK → Prop := fun xs H Q => ∃ (v : V) (d : PyData), xs = [v] ∧ (Dp K H v d ∧ d.hasDict = false ∨ Dq H v d) ∧ d.showable = true ∧ d.depth ≤ 16 ∧ d.shown.length ≤ sizeLine ∧ Q (.str d.shown) H
theorem cr_reprQ {X : Cx} (hgd : X.A.guards = some []) (hu : X.A.units + 64 < cLine) : CallR X (.builtin "repr") (rReprQ X.K) := by
  intro pins s σ H xs us Q I r h
  obtain ⟨v, d, rfl, hd, h1, h3, h4, q⟩ := h
  obtain ⟨u, rfl, e⟩ := vals1 r
  have rd : ∀ {a : Addr}, u = .ref a → ∃ as, Reads s.heap u d as ∧ (d.hasDict = true → sysModules ∉ as) := fun {a} ea => by
    rcases hd with ⟨hd, hn⟩ | hd
    · obtain ⟨as, hR⟩ := Dp.reads I d _ _ hd e
      exact ⟨as, hR, fun z => Bool.noConfusion (hn.symm.trans z)⟩
    · obtain ⟨as, hR, hn⟩ := Dq.reads I d _ _ hd e
      exact ⟨as, hR, fun _ => hn⟩
  have big : ∀ {a : Addr}, u = .ref a → wpAny (model X.prog X.w) X.A (call (.builtin "repr") [u]) (EP X pins σ Q) X.xe s := fun {a} ea => by
    obtain ⟨as, hR, hn⟩ := rd ea
    subst ea
    exact repr_of_reads' hR h1 hn hgd (by omega) (fun _ _ e => e) (fun h' u tk hk => ⟨.str d.shown, H, I.kept hk, ⟨_, rfl⟩, q⟩) h4
  cases v with
  | non =>
    have ed : d = .none := by
      rcases hd with ⟨hd, _⟩ | hd <;> cases hd <;> rfl
    subst ed
    cases e
    exact PySem.P.repr_of_none ⟨.str _, H, I.tok _, ⟨_, rfl⟩, q⟩
  | bl b =>
    have ed : d = .bool b := by
      rcases hd with ⟨hd, _⟩ | hd <;> cases hd <;> rfl
    subst ed
    cases e
    refine PySem.P.repr_of_bool ⟨.str _, H, I.tok _, ⟨_, rfl⟩, ?_⟩
    cases b <;> exact q
  | int i =>
    have ed : d = .int i := by
      rcases hd with ⟨hd, _⟩ | hd <;> cases hd <;> rfl
    subst ed
    obtain ⟨t, rfl⟩ := e
    exact PySem.P.repr_of_int (of_decide_eq_true h1) ⟨.str _, H, I.tok _, ⟨_, rfl⟩, q⟩
  | str x =>
    have ed : d = .str x := by
      rcases hd with ⟨hd, _⟩ | hd <;> cases hd <;> rfl
    subst ed
    obtain ⟨t, rfl⟩ := e
    exact PySem.P.repr_of_str ⟨.str _, H, I.tok _, ⟨_, rfl⟩, q⟩ h4
  | ref a => exact big e
  | _ => exfalso; rcases hd with ⟨hd, _⟩ | hd <;> cases hd
end One
end P_V1

section P_V2
set_option linter.all false
set_option maxRecDepth 100000
set_option maxHeartbeats 16000000
namespace One
open PySem PySem.Spec PyProof.Rows L2
abbrev sMR : Stmt := top 47
abbrev sNS2 : Stmt := top 40
abbrev sNT : Stmt := top 51
abbrev sTF : Stmt := top 52
abbrev sTU : Stmt := top 53
abbrev sWT : Stmt := top 54
abbrev sCH : Stmt := top 55
abbrev nMR : List Str := ["yard", "setting"]
abbrev nNT : List Str := ["yard", "thing", "place"]
abbrev nTF : List Str := ["thing", "many", "crossing", "way"]
abbrev nTU : List Str := ["yard", "setting", "turn"]
abbrev nWT : List Str := ["setting", "turns", "crossing", "way"]
abbrev nCH : List Str := ["yard", "setting", "turn", "behind"]
theorem scMR : FnScope nMR ["yard", "setting"] (defScope sMR) := ⟨rfl, rfl, rfl, by decide +kernel, rfl, by decide +kernel, by decide +kernel⟩
theorem scNT : FnScope nNT ["yard", "thing"] (defScope sNT) := ⟨rfl, rfl, rfl, by decide +kernel, rfl, by decide +kernel, by decide +kernel⟩
theorem scTF : FnScope nTF ["thing", "many"] (defScope sTF) := ⟨rfl, rfl, rfl, by decide +kernel, rfl, by decide +kernel, by decide +kernel⟩
theorem scTU : FnScope nTU ["yard", "setting", "turn"] (defScope sTU) := ⟨rfl, rfl, rfl, by decide +kernel, rfl, by decide +kernel, by decide +kernel⟩
theorem scWT : FnScope nWT ["setting", "turns"] (defScope sWT) := ⟨rfl, rfl, rfl, by decide +kernel, rfl, by decide +kernel, by decide +kernel⟩
theorem scCH : FnScope nCH ["yard", "setting", "turn"] (defScope sCH) := ⟨rfl, rfl, rfl, by decide +kernel, rfl, by decide +kernel, by decide +kernel⟩
def TAt (H : Hp) (t : Addr) (m c v : Nat) : Prop := H t = some (.tup [.int (c : Nat), .int (v : Nat)]) ∧ c < m ∧ v < 3
theorem TAt.mono {H H' : Hp} {t : Addr} {m c v : Nat} (h : TAt H t m c v) (s : Same H H') : TAt H' t m c v := ⟨s _ _ h.1, h.2⟩
/-- a yard that is refused -/
def BadY (C0 : Addr) (v : V) (H : Hp) (E : XK) : Prop := spFault [v] H (fun r H' => Wrong C0 E r H') E0
/-- ways that are refused -/
def BadW (CS : Addr) (v : V) (m : Nat) (H : Hp) (E : XK) : Prop := (∃ T, TV H v T) ∧ LookW CS false v m H (fun _ => False) E
/-- no pair at all -/
def NoPair (H : Hp) (v : V) : Prop := (∃ T, TV H v T) ∧ ∀ t xs, v = .ref t → H t = some (.tup xs) → xs.length ≠ 2
/-- a turn that is refused -/
def BadT (CT : Addr) (v : V) (m : Nat) (H : Hp) (E : XK) : Prop := (NoPair H v ∧ RWrong CT E H []) ∨ ∃ (t : Addr) (a b : V), v = .ref t ∧ H t = some (.tup [a, b]) ∧ (∃ T, TV H a T) ∧ (∃ T, TV H b T) ∧ ((belowV a (m : Nat) = false ∧ RWrong CT E H [0]) ∨ (belowV a (m : Nat) = true ∧ belowV b 3 = false ∧ RWrong CT E H [1]))
theorem RWrong.to {C : Addr} {E : XK} {H H1 : Hp} {ns : List Nat} (h : RWrong C E H ns) (s : Same H H1) : RWrong C E H1 ns := fun H' p d s' => h H' p d (s.trans s')
theorem NoPair.to {H H1 : Hp} {v : V} (h : NoPair H v) (s : Same H H1) : NoPair H1 v := by
  obtain ⟨⟨T, hv⟩, h2⟩ := h
  refine ⟨⟨T, hv.mono s⟩, fun t xs e ht => ?_⟩
  subst e
  cases hv with
  | @tup a ys e =>
    have := s _ _ e
    rw [ht] at this
    cases this
    exact h2 t _ rfl e
  | lst e => cases ht.symm.trans (s _ _ e)
  | dct e => cases ht.symm.trans (s _ _ e)
theorem BadT.to {CT : Addr} {v : V} {m : Nat} {H H1 : Hp} {E : XK} (h : BadT CT v m H E) (s : Same H H1) : BadT CT v m H1 E := by
  rcases h with ⟨h1, h2⟩ | ⟨t, a, b, e, ht, ⟨Ta, ha⟩, ⟨Tb, hb⟩, h⟩
  · exact .inl ⟨h1.to s, h2.to s⟩
  · exact .inr ⟨t, a, b, e, s _ _ ht, ⟨Ta, ha.mono s⟩, ⟨Tb, hb.mono s⟩, h.imp (fun ⟨h1, h2⟩ => ⟨h1, h2.to s⟩) fun ⟨h1, h2, h3⟩ => ⟨h1, h2, h3.to s⟩⟩
def spMR : Sp := fun vs H Q _ => ∃ (y u : Addr) (m : Nat) (ps : List (Nat × Nat)) (ws : List Nat), vs = [.ref y, .ref u] ∧ YAt H y m ps ∧ m ≤ 40 ∧ SetAt H u m ws ∧ ∀ H', Same H H' → Q (.int (Cn (far ps) m ws : Nat)) H'
def spTF : Sp := fun vs H Q _ => ∃ (v : V) (m : Nat), vs = [v, .int (m : Nat)] ∧ ((NoPair H v ∧ ∀ (H' : Hp) (p : Addr), Same H H' → H' p = some (.tup []) → Q (.ref p) H') ∨
  ∃ (t : Addr) (a b : V), v = .ref t ∧ H t = some (.tup [a, b]) ∧ (∃ T, TV H a T) ∧ (∃ T, TV H b T) ∧ (belowV a (m : Nat) = false → ∀ (H' : Hp) (p : Addr), Same H H' → H' p = some (.tup [.int 0]) → Q (.ref p) H') ∧
    (belowV a (m : Nat) = true → belowV b 3 = false → ∀ (H' : Hp) (p : Addr), Same H H' → H' p = some (.tup [.int 1]) → Q (.ref p) H') ∧ (belowV a (m : Nat) = true → belowV b 3 = true → Q .non H))
def spNS2 (C0 CS : Addr) : Sp := fun vs H Q E => ∃ (yv v : V), vs = [yv, v] ∧ (BadY C0 yv H E ∨ spNS CS vs H Q E)
def spNT (C0 CT : Addr) : Sp := fun vs H Q E => ∃ (yv v : V), vs = [yv, v] ∧ (BadY C0 yv H E ∨ ∃ (y : Addr) (m : Nat) (ps : List (Nat × Nat)), yv = .ref y ∧ YAt H y m ps ∧ m ≤ 40 ∧ (BadT CT v m H E ∨ ∃ (t : Addr) (c z : Nat), v = .ref t ∧ TAt H t m c z ∧ ∀ H', Same H H' → Q (.ref t) H'))
def spWT : Sp := fun vs H Q _ => ∃ (u b t : Addr) (m c v : Nat) (ws : List Nat), vs = [.ref u, .ref b] ∧ m ≤ 40 ∧ SetAt H u m ws ∧ H b = some (.tup [.ref t]) ∧ TAt H t m c v ∧ ∀ (H' : Hp) (q : Addr), Same H H' → SetAt H' q m (ws.set c v) → Q (.ref q) H'
/-- a turn of a setting of a yard: let by, or refused for one of three -/
def TurnW (C0 CS CT : Addr) (yv sv tv : V) (H : Hp) (E : XK) (good : Addr → Nat → List (Nat × Nat) → Addr → List Nat → Addr → Nat → Nat → Prop) : Prop :=
  BadY C0 yv H E ∨ ∃ (y : Addr) (m : Nat) (ps : List (Nat × Nat)), yv = .ref y ∧ YAt H y m ps ∧ m ≤ 40 ∧ (BadW CS sv m H E ∨ ∃ (u : Addr) (ws : List Nat), sv = .ref u ∧ SetAt H u m ws ∧ (BadT CT tv m H E ∨ ∃ (t : Addr) (c z : Nat), tv = .ref t ∧ TAt H t m c z ∧ good y m ps u ws t c z))
def spTU (C0 CS CT : Addr) : Sp := fun vs H Q E => ∃ (yv sv tv : V), vs = [yv, sv, tv] ∧ TurnW C0 CS CT yv sv tv H E fun _ m _ _ ws _ c z => ∀ (H' : Hp) (q : Addr), Same H H' → SetAt H' q m (ws.set c z) → Q (.ref q) H'
def spCH (C0 CS CT : Addr) : Sp := fun vs H Q E => ∃ (yv sv tv : V), vs = [yv, sv, tv] ∧ TurnW C0 CS CT yv sv tv H E fun _ m ps _ ws _ c z => ∀ (H' : Hp), Same H H' → Q (.int ((Cn (far ps) m (ws.set c z) : Nat) - (Cn (far ps) m ws : Nat) : Int)) H'
theorem below_nat {c m : Nat} (h : c < m) : belowV (.int (c : Nat)) ((m : Nat) : Int) = true := by
  show (decide ((0 : Int) ≤ (c : Int)) && decide ((c : Int) < (m : Int))) = true
  rw [decide_eq_true (by omega), decide_eq_true (by omega)]
  rfl
section
variable {P : Program} {w : World} {K : PySem.W.Frag} {mg : Str → Option Value} {base : Heap} {C0 CS CT f3 f4 : Addr} {x3 x4 : Stmt}
theorem ok_mr {f fO : Addr} {fd fdO : FuncData} (F : Fun K "many_rounds" "many_rounds" sMR f fd) (T : TB mg) (O : Cal K mg "rounds_of" fO fdO ["yard", "setting"]) (GO : FnOk P w K mg base (L2.CX P w) 8 fO fdO ["yard", "setting"] (spRO CS)) : FnOk P w K mg base (L2.CX P w) 9 f fd ["yard", "setting"] spMR := by
  refine F.okX scMR (fun vs H Q E h => ?_) (fun cdv A outer s H vs Q E hr h => ?_)
  · obtain ⟨y, u, m, ps, ws, rfl, _⟩ := h
    rfl
  · obtain ⟨y, u, m, ps, ws, rfl, hY, h40, hS, k⟩ := h
    have hr8 : Room 8 _ := hr
    refine ⟨_, pss_one (ps_ret (pe_callB call_len_seq (by rfl) T.len PySem.boot_len (pa_cons (pe_call GO hr8 rfl O.g O.kp O.b .nil (passes_call (takes_of rfl rfl rfl rfl) (fun _ _ _ _ h => h)) (pa_cons (pv 0) (pa_cons (pv 1) pa_nil))) pa_nil))), ?_⟩
    refine ⟨_, rfl, _, rfl, y, .ref u, "tuple", m, ps, rfl, hY, h40, .tup hS.here, look_good hS fun H1 s1 => ⟨u, ws, rfl, hS.mono (sameT s1), fun H2 r as rs s2 hr' hR R => ?_⟩⟩
    refine ⟨r, _, rfl, .inr (SqT.of hr'), ?_⟩
    rw [List.length_map, hR.len, ← Cn_eq (far_inv hY.1.lines) hS.ok R]
    exact k _ (s1.trans s2)
theorem ok_tf {f fB : Addr} {fd fdB : FuncData} (F : Fun K "turn_fault" "turn_fault" sTF f fd) (T : TB mg) (w3 : ∃ t, mg "MANY_WAYS" = some (.int 3 t)) (B : Cal K mg "is_below" fB fdB ["thing", "many"]) (GB : FnOk P w K mg base CX0 2 fB fdB ["thing", "many"] spIsBelow) : FnOk P w K mg base CX0 3 f fd ["thing", "many"] spTF := by
  refine F.ok scTF (fun vs H Q E h => ?_) (fun cdv A outer s H vs Q E hr h => ?_)
  · obtain ⟨v, m, rfl, _⟩ := h
    rfl
  · obtain ⟨v, m, rfl, hc⟩ := h
    have nd := scTF.nd
    have hr2 : Room 2 _ := hr
    obtain ⟨u3, ht3⟩ := w3
    refine ⟨_, pss_cons (ps_if (PW.pt (pw_or (pt_not (pt_val (pe_callB call_isi (by rfl) T.isinstance boot_isinstance (pa_cons (pv 0) (pa_cons (pe_bltn (v := .ty "tuple") (by rfl) T.tuple boot_tuple rfl) pa_nil))))) (pw_or1 (pt_cmpR op_ne (pe_callB call_len_seq (by rfl) T.len PySem.boot_len (pa_cons (pv 0) pa_nil)) pe_int (nomark _))))) (pss_one (ps_ret (pe_tup pa_nil))) pss_nil)
      (pss_cons (ps_asg (pv 0) (pg_tup rfl (pgs_cons (pg_name (i := 2) nd rfl (Or.inl rfl)) (pgs_cons (pg_name (i := 3) nd rfl (Or.inl rfl)) pgs_nil))))
      (pss_cons (ps_if (pt_not (pt_val (pe_call GB hr2 rfl B.g B.kp B.b .nil pass0 (pa_cons (pv 2) (pa_cons (pv 1) pa_nil))))) (pss_one (ps_ret (pe_tup (pa_cons pe_int pa_nil)))) pss_nil)
      (pss_cons (ps_if (pt_not (pt_val (pe_call GB hr2 rfl B.g B.kp B.b .nil pass0 (pa_cons (pv 3) (pa_cons (pe_glob (v := .int 3) rfl ht3 ⟨_, rfl⟩) pa_nil))))) (pss_one (ps_ret (pe_tup (pa_cons pe_int pa_nil)))) pss_nil)
      (pss_one (ps_ret pe_non))))), ?_⟩
    have one : ∀ {x : V}, 1 ≤ sizeLine := fun {x} => by decide
    rcases hc with ⟨⟨⟨Tt, hv⟩, hno⟩, k⟩ | ⟨t, a, b, rfl, ht, ⟨Ta, ha⟩, ⟨Tb, hb⟩, k0, k1, kg⟩
    · refine ⟨_, rfl, _, _, _, _, _, rfl, .ty _, hv.tyx, hv.kTup, _, rfl, ?_⟩
      cases hT : isTup Tt with
      | false => exact iteT (iteT ⟨Nat.zero_le _, fun p hp => k _ p (Same.new hp) upd_same⟩)
      | true =>
        obtain ⟨t, xs, rfl, ht⟩ : ∃ t xs, v = .ref t ∧ H t = some (.tup xs) := by
          cases hv with
          | @tup a xs e => exact ⟨a, xs, rfl, e⟩
          | non => exact absurd hT (by decide)
          | bl b => exact absurd hT (by decide)
          | int i => exact absurd hT (by decide)
          | str x => exact absurd hT (by decide)
          | lst e => exact absurd hT (by decide)
          | dct e => exact absurd hT (by decide)
        have hne := hno t xs rfl ht
        refine iteF ⟨_, rfl, t, _, rfl, .inr (SqT.of ht), rfl, _, rfl, ?_⟩
        have e : decide (V.int (xs.length : Nat) = V.int 2) = false := decide_eq_false fun z => hne (by
          have := V.int.inj z
          omega)
        rw [e]
        exact iteT ⟨Nat.zero_le _, fun p hp => k _ p (Same.new hp) upd_same⟩
    · refine ⟨_, rfl, _, _, _, _, _, rfl, .ty _, (TV.tup ht).tyx, (TV.tup ht).kTup, _, rfl, ?_⟩
      refine iteF ⟨_, rfl, t, _, rfl, .inr (SqT.of ht), rfl, _, rfl, iteF ?_⟩
      refine ⟨_, rfl, t, _, rfl, SqT.of ht, rfl, _, _, rfl, _, _, rfl, rfl, ?_⟩
      refine ⟨_, rfl, _, rfl, _, _, _, rfl, ha, _, rfl, ?_⟩
      cases h0 : belowV a (m : Nat) with
      | false => exact iteT ⟨by show 1 ≤ sizeLine; decide, fun p hp => k0 h0 _ p (Same.new hp) upd_same⟩
      | true =>
        refine iteF ?_
        refine ⟨_, rfl, _, 3, _, rfl, hb, _, rfl, ?_⟩
        cases h1 : belowV b 3 with
        | false => exact iteT ⟨by show 1 ≤ sizeLine; decide, fun p hp => k1 h0 h1 _ p (Same.new hp) upd_same⟩
        | true => exact iteF (kg h0 h1)
theorem ok_ns2 {f fW fC : Addr} {fd fdW fdC : FuncData} (F : Fun K "need_setting" "need_setting" sNS f fd) (T3 : OwnTxt P K x3 "place" CS f3) (O3 : OwnCls K mg "BadSetting" CS f3) (noS : mg "super" = none) (Fa : Cal K mg "ways_fault" fW fdW ["thing", "many", "is_draft"]) (GF : FnOk P w K mg base CX0 3 fW fdW ["thing", "many", "is_draft"] spWays)
    (C : Cal K mg "crossings" fC fdC ["yard"]) (GC : FnOk P w K mg base (L2.CX P w) 6 fC fdC ["yard"] (spCross C0)) : FnOk P w K mg base (L2.CX P w) 7 f fd ["yard", "thing"] (spNS2 C0 CS) := by
  have good := ok_ns F T3 O3 noS Fa GF C GC
  have bad : FnOk P w K mg base (L2.CX P w) 7 f fd ["yard", "thing"] (fun vs H Q E => ∃ (yv v : V), vs = [yv, v] ∧ BadY C0 yv H E) := by
    refine F.okX scNS (fun vs H Q E h => ?_) (fun cdv A outer s H vs Q E hr h => ?_)
    · obtain ⟨yv, v, rfl, _⟩ := h
      rfl
    · obtain ⟨yv, v, rfl, hb⟩ := h
      have nd := scNS.nd
      have hr6 : Room 6 _ := hr
      have hr3 : Room 3 _ := hr.mono (by decide)
      refine ⟨_, pss_cons (ps_set (i := 2) nd rfl (Or.inl rfl) (pe_call GF hr3 rfl Fa.g Fa.kp Fa.b .nil pass0 (pa_cons (pv 1) (pa_cons (pe_call GC hr6 rfl C.g C.kp C.b .nil (passes_call (takes_of rfl rfl rfl rfl) (fun _ _ _ _ h => h)) (pa_cons (pv 0) pa_nil)) (pa_cons pe_bl pa_nil)))))
        (pss_cons (ps_if (pt_cmpR op_notN (pv 2) pe_non (nomark _)) (pss_one (ps_raiseX rfl (Or.inl rfl) T3 O3 noS hr (takes_of rfl rfl rfl rfl) (pa_cons (pv 2) pa_nil) (by rfl))) pss_nil)
        (pss_one (ps_ret (pv 1)))), ?_⟩
      refine ⟨_, rfl, _, rfl, yv, rfl, fault_mono hb fun r H' hq => .inr hq⟩
  refine ⟨fun vs H Q E ⟨yv, v, e, _⟩ => by rw [e]; rfl, fun A outer s H args us vs Q E hr e0 hb hv ⟨yv, v, e, h⟩ => ?_⟩
  rcases h with h | h
  · exact bad.run A outer s H args us vs Q E hr e0 hb hv ⟨yv, v, e, h⟩
  · exact good.run A outer s H args us vs Q E hr e0 hb hv h
theorem ok_nt {f fF fC : Addr} {fd fdF fdC : FuncData} (F : Fun K "need_turn" "need_turn" sNT f fd) (T4 : OwnTxt P K x4 "place" CT f4) (O4 : OwnCls K mg "BadTurn" CT f4) (noS : mg "super" = none) (Fa : Cal K mg "turn_fault" fF fdF ["thing", "many"]) (GF : FnOk P w K mg base CX0 3 fF fdF ["thing", "many"] spTF)
    (C : Cal K mg "crossings" fC fdC ["yard"]) (GC : FnOk P w K mg base (L2.CX P w) 6 fC fdC ["yard"] (spCross C0)) : FnOk P w K mg base (L2.CX P w) 7 f fd ["yard", "thing"] (spNT C0 CT) := by
  refine F.okX scNT (fun vs H Q E h => ?_) (fun cdv A outer s H vs Q E hr h => ?_)
  · obtain ⟨yv, v, rfl, _⟩ := h
    rfl
  · obtain ⟨yv, v, rfl, h⟩ := h
    have nd := scNT.nd
    have hr6 : Room 6 _ := hr
    have hr3 : Room 3 _ := hr.mono (by decide)
    refine ⟨_, pss_cons (ps_set (i := 2) nd rfl (Or.inl rfl) (pe_call GF hr3 rfl Fa.g Fa.kp Fa.b .nil pass0 (pa_cons (pv 1) (pa_cons (pe_call GC hr6 rfl C.g C.kp C.b .nil (passes_call (takes_of rfl rfl rfl rfl) (fun _ _ _ _ h => h)) (pa_cons (pv 0) pa_nil)) pa_nil))))
      (pss_cons (ps_if (pt_cmpR op_notN (pv 2) pe_non (nomark _)) (pss_one (ps_raiseX rfl (Or.inl rfl) T4 O4 noS hr (takes_of rfl rfl rfl rfl) (pa_cons (pv 2) pa_nil) (by rfl))) pss_nil)
      (pss_one (ps_ret (pv 1)))), ?_⟩
    rcases h with hb | ⟨y, m, ps, rfl, hY, h40, h⟩
    · exact ⟨_, rfl, _, rfl, yv, rfl, fault_mono hb fun r H' hq => .inr hq⟩
    · obtain ⟨Y, as, ht, hP⟩ := id hY
      have hlen : (refs as).length = 2 * m := by rw [List.length_map, hP.len, Y.lines.len]
      refine ⟨_, rfl, _, rfl, _, rfl, ?_⟩
      unfold tNil
      refine fault_good hY h40 fun H1 s1 => .inl ⟨rfl, y, refs as, rfl, s1 _ _ ht, ?_⟩
      rw [show (refs as).length / 2 = m by omega]
      have short : ∀ (H2 : Hp) (p : Addr) (ns : List Nat), Same H1 H2 → H2 p = some (.tup (nats ns)) → RWrong CT E H ns → ∀ (d : Addr), H2 d = none → E (.ref CT) (some d) (upd H2 d (.xd [("place", .ref p)])) := fun H2 p ns s2 hp hW d hd => hW _ p d (s1.trans (s2.trans (Same.new hd))) ((Same.new hd) _ _ hp) upd_same
      have told : ∀ (H2 : Hp) (p : Addr) (ns : List Nat), Same H1 H2 → H2 p = some (.tup (nats ns)) → ns.length ≤ 100 → (∀ n ∈ ns, n < 1000) → RWrong CT E H ns → ∀ d : Addr, H2 d = none → E (.ref CT) (some d) (upd H2 d (.xd [("place", .ref p)])) := fun H2 p ns s2 hp _ _ hW d hd => short H2 p ns s2 hp hW d hd
      rcases h with hb | ⟨t, c, z, rfl, hT, k⟩
      · rcases hb.to s1 with ⟨hN, hW⟩ | ⟨t, a, b, rfl, ht1, ha, hb', hx⟩
        · refine ⟨v, m, rfl, .inl ⟨hN, fun H2 p s2 hp => ?_⟩⟩
          exact ⟨_, rfl, rfl, _, rfl, iteT ⟨_, rfl, _, rfl, .tup [] (SqT.of hp) (Nat.zero_le _) (fun n h => absurd h (by simp)), fun d hd => hW _ p d (s2.trans (Same.new hd)) ((Same.new hd) _ _ hp) upd_same⟩⟩
        · refine ⟨_, m, rfl, .inr ⟨t, a, b, rfl, ht1, ha, hb', fun h0 H2 p s2 hp => ?_, fun h0 h1 H2 p s2 hp => ?_, fun h0 h1 => ?_⟩⟩
          · rcases hx with ⟨_, hW⟩ | ⟨h0', _⟩
            · have hp' : H2 p = some (.tup (nats [0])) := hp
              exact ⟨_, rfl, rfl, _, rfl, iteT ⟨_, rfl, _, rfl, .tup [0] (SqT.of hp') (by show 1 ≤ 100; decide) (fun n h => by rw [List.mem_singleton.mp h]; decide), fun d hd => hW _ p d (s2.trans (Same.new hd)) ((Same.new hd) _ _ hp') upd_same⟩⟩
            · rw [h0] at h0'
              cases h0'
          · rcases hx with ⟨h0', _⟩ | ⟨_, _, hW⟩
            · rw [h0] at h0'
              cases h0'
            · have hp' : H2 p = some (.tup (nats [1])) := hp
              exact ⟨_, rfl, rfl, _, rfl, iteT ⟨_, rfl, _, rfl, .tup [1] (SqT.of hp') (by show 1 ≤ 100; decide) (fun n h => by rw [List.mem_singleton.mp h]; decide), fun d hd => hW _ p d (s2.trans (Same.new hd)) ((Same.new hd) _ _ hp') upd_same⟩⟩
          · rcases hx with ⟨h0', _⟩ | ⟨_, h1', _⟩
            · rw [h0] at h0'
              cases h0'
            · rw [h1] at h1'
              cases h1'
      · obtain ⟨ht1, hc, hz⟩ := hT.mono s1
        have g0 := below_nat hc
        have g1 : belowV (.int (z : Nat)) 3 = true := below_nat (m := 3) hz
        refine ⟨_, m, rfl, .inr ⟨t, _, _, rfl, ht1, ⟨_, .int _⟩, ⟨_, .int _⟩, fun h => (by rw [g0] at h; cases h), fun _ h => (by rw [g1] at h; cases h), fun _ _ => ?_⟩⟩
        exact ⟨_, rfl, rfl, _, rfl, iteF ⟨_, rfl, k _ s1⟩⟩
theorem ok_wt {f fW : Addr} {fd fdW : FuncData} (F : Fun K "with_turns" "with_turns" sWT f fd) (Ww : Cal K mg "with_way" fW fdW ["ways", "crossing", "way"]) (GW : FnOk P w K mg base CX0 1 fW fdW ["ways", "crossing", "way"] spWW) : FnOk P w K mg base CX0 2 f fd ["setting", "turns"] spWT := by
  refine F.ok scWT (fun vs H Q E h => ?_) (fun cdv A outer s H vs Q E hr h => ?_)
  · obtain ⟨u, b, t, m, c, v, ws, rfl, _⟩ := h
    rfl
  · obtain ⟨u, b, t, m, c, v, ws, rfl, h40, hS, hb, hT, k⟩ := h
    have nd := scWT.nd
    have hr1 : Room 1 _ := hr
    refine ⟨_, pss_cons (ps_for PassesOwn.never rfl (pi_tup (pv 1)) (pg_tup rfl (pgs_cons (pg_name (i := 2) nd rfl (Or.inl rfl)) (pgs_cons (pg_name (i := 3) nd rfl (Or.inl rfl)) pgs_nil)))
        (pss_one (ps_set (i := 0) nd rfl (Or.inl rfl) (pe_call GW hr1 rfl Ww.g Ww.kp Ww.b .nil pass0 (pa_cons (pv 0) (pa_cons (pv 2) (pa_cons (pv 3) pa_nil)))))))
      (pss_one (ps_ret (pv 0))), ?_⟩
    obtain ⟨ht, hc, hv⟩ := id hT
    have ln : (nats ws).length = m := (List.length_map _).trans hS.len
    refine ⟨_, rfl, b, rfl, ⟨_, SqT.of hb⟩, for_it (walk_tup (K := K) (a := b) (xs := [V.ref t])) (fun i σ H' => ∃ (q : Addr) (v2 v3 : Option V), σ = [some (.ref q), some (.ref b), v2, v3] ∧ Same H H' ∧ SetAt H' q m (if i = 0 then ws else ws.set c v)) ⟨u, none, none, rfl, Same.refl H, hS⟩ (fun i σ H' _ ⟨_, _, _, _, s', _⟩ => SqT.of (s' _ _ hb)) ?_ ?_⟩
    · rintro i x σ H1 H2 hi ⟨q, v2, v3, rfl, s1, hS1⟩ ⟨rfl, hx⟩
      have hi : i < 1 := hi
      have i0 : i = 0 := by omega
      subst i0
      cases hx
      rw [if_pos rfl] at hS1
      refine ⟨t, _, rfl, SqT.of (s1 _ _ ht), rfl, _, _, rfl, _, _, rfl, rfl, ?_⟩
      refine ⟨_, rfl, _, rfl, _, rfl, q, c, _, nats ws, rfl, hS1.here, by omega, by omega, fun H3 q3 s3 hq3 => ?_⟩
      rw [put_set ws v (by rw [hS.len]; exact hc)] at hq3
      refine ⟨_, _, _, rfl, s1.trans s3, ?_⟩
      rw [if_neg (by decide)]
      exact ⟨(hS.ok.set c hv).len, (hS.ok.set c hv).lt, hq3⟩
    · rintro σ H1 ⟨q, v2, v3, rfl, s1, hS1⟩
      have hS1 : SetAt H1 q m (if 1 = 0 then ws else ws.set c v) := hS1
      rw [if_neg (by decide)] at hS1
      exact ⟨_, rfl, k _ q s1 hS1⟩
theorem ok_tu {f fN fT fU : Addr} {fd fdN fdT fdU : FuncData} (F : Fun K "turned" "turned" sTU f fd) (N : Cal K mg "need_setting" fN fdN ["yard", "thing"]) (GN : FnOk P w K mg base (L2.CX P w) 7 fN fdN ["yard", "thing"] (spNS2 C0 CS)) (Wt : Cal K mg "with_turns" fT fdT ["setting", "turns"]) (GT : FnOk P w K mg base CX0 2 fT fdT ["setting", "turns"] spWT)
    (Nt : Cal K mg "need_turn" fU fdU ["yard", "thing"]) (GU : FnOk P w K mg base (L2.CX P w) 7 fU fdU ["yard", "thing"] (spNT C0 CT)) : FnOk P w K mg base (L2.CX P w) 8 f fd ["yard", "setting", "turn"] (spTU C0 CS CT) := by
  refine F.okX scTU (fun vs H Q E h => ?_) (fun cdv A outer s H vs Q E hr h => ?_)
  · obtain ⟨yv, sv, tv, rfl, _⟩ := h
    rfl
  · obtain ⟨yv, sv, tv, rfl, h⟩ := h
    have nd := scTU.nd
    have hr7 : Room 7 _ := hr
    have hr2 : Room 2 _ := hr.mono (by decide)
    refine ⟨_, pss_cons (ps_expr (pe_call GN hr7 rfl N.g N.kp N.b .nil (passes_call (takes_of rfl rfl rfl rfl) (fun _ _ _ _ h => h)) (pa_cons (pv 0) (pa_cons (pv 1) pa_nil))))
      (pss_one (ps_ret (pe_call GT hr2 rfl Wt.g Wt.kp Wt.b .nil pass0 (pa_cons (pv 1) (pa_cons (pe_tup (pa_cons (pe_call GU hr7 rfl Nt.g Nt.kp Nt.b .nil (passes_call (takes_of rfl rfl rfl rfl) (fun _ _ _ _ h => h)) (pa_cons (pv 0) (pa_cons (pv 2) pa_nil))) pa_nil)) pa_nil))))), ?_⟩
    rcases h with hb | ⟨y, m, ps, rfl, hY, h40, h⟩
    · exact ⟨_, rfl, _, rfl, yv, sv, rfl, .inl hb⟩
    rcases h with ⟨⟨T, hv⟩, hb⟩ | ⟨u, ws, rfl, hS, h⟩
    · exact ⟨_, rfl, _, rfl, .ref y, sv, rfl, .inr ⟨y, sv, T, m, ps, rfl, hY, h40, hv, hb.mono fun _ _ h => h.elim⟩⟩
    refine ⟨_, rfl, _, rfl, .ref y, .ref u, rfl, .inr ⟨y, .ref u, "tuple", m, ps, rfl, hY, h40, .tup hS.here, look_good hS fun H1 s1 => ?_⟩⟩
    rcases h with hb | ⟨t, c, v, rfl, hT, k⟩
    · exact ⟨_, rfl, _, rfl, _, rfl, .ref y, tv, rfl, .inr ⟨y, m, ps, rfl, hY.mono (sameT s1), h40, .inl (hb.to s1)⟩⟩
    refine ⟨_, rfl, _, rfl, _, rfl, .ref y, .ref t, rfl, .inr ⟨y, m, ps, rfl, hY.mono (sameT s1), h40, .inr ⟨t, c, v, rfl, hT.mono s1, fun H2 s2 => ⟨(by show 1 ≤ sizeLine; decide), fun b hb => ?_⟩⟩⟩⟩
    have s3 := Same.new (o := .tup [V.ref t]) hb
    have s123 := s1.trans (s2.trans s3)
    exact ⟨u, b, t, m, c, v, ws, rfl, h40, hS.mono (sameT s123), upd_same, hT.mono s123, fun H4 q s4 hq => k H4 q (s123.trans s4) hq⟩
theorem ok_ch {f fT fM : Addr} {fd fdT fdM : FuncData} (F : Fun K "change" "change" sCH f fd) (Tu : Cal K mg "turned" fT fdT ["yard", "setting", "turn"]) (GT : FnOk P w K mg base (L2.CX P w) 8 fT fdT ["yard", "setting", "turn"] (spTU C0 CS CT)) (Mr : Cal K mg "many_rounds" fM fdM ["yard", "setting"]) (GM : FnOk P w K mg base (L2.CX P w) 9 fM fdM ["yard", "setting"] spMR) : FnOk P w K mg base (L2.CX P w) 10 f fd ["yard", "setting", "turn"] (spCH C0 CS CT) := by
  refine F.okX scCH (fun vs H Q E h => ?_) (fun cdv A outer s H vs Q E hr h => ?_)
  · obtain ⟨yv, sv, tv, rfl, _⟩ := h
    rfl
  · obtain ⟨yv, sv, tv, rfl, h⟩ := h
    have nd := scCH.nd
    have hr9 : Room 9 _ := hr
    have hr8 : Room 8 _ := hr.mono (by decide)
    refine ⟨_, pss_cons (ps_set (i := 3) nd rfl (Or.inl rfl) (pe_call GT hr8 rfl Tu.g Tu.kp Tu.b .nil (passes_call (takes_of rfl rfl rfl rfl) (fun _ _ _ _ h => h)) (pa_cons (pv 0) (pa_cons (pv 1) (pa_cons (pv 2) pa_nil)))))
      (pss_one (ps_ret (pe_op op_sub (pe_call GM hr9 rfl Mr.g Mr.kp Mr.b .nil (passes_call (takes_of rfl rfl rfl rfl) (fun _ _ _ _ h => h)) (pa_cons (pv 0) (pa_cons (pv 3) pa_nil))) (pe_call GM hr9 rfl Mr.g Mr.kp Mr.b .nil (passes_call (takes_of rfl rfl rfl rfl) (fun _ _ _ _ h => h)) (pa_cons (pv 0) (pa_cons (pv 1) pa_nil)))))), ?_⟩
    rcases h with hb | ⟨y, m, ps, rfl, hY, h40, h⟩
    · exact ⟨_, rfl, _, rfl, _, rfl, yv, sv, tv, rfl, .inl hb⟩
    rcases h with hb | ⟨u, ws, rfl, hS, h⟩
    · exact ⟨_, rfl, _, rfl, _, rfl, _, sv, tv, rfl, .inr ⟨y, m, ps, rfl, hY, h40, .inl hb⟩⟩
    rcases h with hb | ⟨t, c, v, rfl, hT, k⟩
    · exact ⟨_, rfl, _, rfl, _, rfl, _, _, tv, rfl, .inr ⟨y, m, ps, rfl, hY, h40, .inr ⟨u, ws, rfl, hS, .inl hb⟩⟩⟩
    refine ⟨_, rfl, _, rfl, _, rfl, _, _, _, rfl, .inr ⟨y, m, ps, rfl, hY, h40, .inr ⟨u, ws, rfl, hS, .inr ⟨t, c, v, rfl, hT, fun H1 q s1 hq => ?_⟩⟩⟩⟩
    refine ⟨_, rfl, _, rfl, y, q, m, ps, _, rfl, hY.mono (sameT s1), h40, hq, fun H2 s2 => ?_⟩
    have s12 := s1.trans s2
    refine ⟨_, rfl, _, rfl, y, u, m, ps, ws, rfl, hY.mono (sameT s12), h40, hS.mono (sameT s12), fun H3 s3 => ?_⟩
    exact ⟨_, _, rfl, rfl, k _ (s12.trans s3)⟩
end
end One
end P_V2

section P_V3
set_option linter.all false
set_option maxRecDepth 100000
set_option maxHeartbeats 8000000
namespace One
open PySem PySem.Spec PyProof.Rows L2
theorem kit_nots {K : PySem.W.Frag} {t : Value} : ∀ {as : List Addr}, (∀ a ∈ as, PySem.W.kitOne K t (.ref a) = some false) → PySem.W.kitAny K t (as.map Value.ref) = some false
  | [], _ => rfl
  | a :: as, h => by
    show (match PySem.W.kitOne K t (.ref a) with
      | some true => some true
      | some false => PySem.W.kitAny K t (as.map Value.ref)
      | none => none) = some false
    rw [h a (List.mem_cons_self ..)]
    exact kit_nots fun b m => h b (List.mem_cons_of_mem _ m)
theorem vals_refs : ∀ {as : List Addr} {us : List Value}, Vals (refs as) us → us = as.map Value.ref
  | [], us, h => by
    cases h
    rfl
  | a :: as, us, h => by
    cases h with
    | cons r rr =>
      cases r
      rw [vals_refs rr]
      rfl
/-- isinstance(x, (c1, c2, ..)), x the held exception -/
def rIsXT (K : PySem.W.Frag) (a : Addr) (cls : Value) (d : Option Addr) : List V → Hp → VK → Prop := fun xs H Q => ∃ (D dd tp : Addr) (as : List Addr) (b : Bool) (fs : List (Str × V)), xs = [.ref a, .ref tp] ∧ cls = .ref D ∧ d = some dd ∧ ExcC K D ∧
  H tp = some (.tup (refs as)) ∧ PySem.W.kitAny K (.ref D) (as.map Value.ref) = some b ∧ H dd = some (.xd fs) ∧ Q (.bl b) H
section
variable {X : Cx} {a : Addr} {oe : Obj} {cls : Value} {d : Option Addr} {pn : List (Addr × Obj)} {xe : Value → Shared → Prop}
theorem cr_isXT (hz : Zc cls d oe) (hf : ∃ vs, oe.data = .fields vs) : CallR (X.tr ((a, oe) :: pn) xe) (.builtin "isinstance") (rIsXT X.K a cls d) := by
  intro pins s σ H xs us Q I r h
  obtain ⟨D, dd, tp, as, b, fs, rfl, rfl, rfl, C, hT, e, hd, q⟩ := h
  obtain ⟨u1, u2, rfl, r1, r2⟩ := vals2 r
  cases (show u2 = Value.ref tp from r2)
  cases (show u1 = Value.ref a from r1)
  obtain ⟨od, mA, J, _, _, _⟩ := held_at I hz hf hd
  have hcl : (PySem.W.clsIn X.K D).isSome = true := by
    obtain ⟨cd, hc, _⟩ := PySem.W.any_some C.hd
    rw [hc]; rfl
  obtain ⟨_, its, rv, o, h1, h2, n, h3⟩ := (show ObjOk X.prog X.w H s.heap tp (.tup (refs as)) from I.hok tp _ hT)
  have e3 := vals_refs rv
  subst e3
  obtain ⟨oc, oD, dt, sl⟩ := o
  simp only at h2 h3
  subst h2 h3
  exact PySem.W.kia_tup (PySem.W.kitx_exc hcl C.hg C.hk C.hs C.ha C.hn C.ht C.hm) I.kIn J h1 e (fun z => nomatch z) fun tk => ⟨.bl b, H, I.kept (t' := tk) fun _ _ z => z, rfl, q⟩
end
abbrev sSaid : Stmt := top 71
abbrev nSaid : List Str := ["deed", "caught", "found", "e", "some", "kinds", "word", "fits"]
theorem scSaid : FnScope nSaid ["deed"] (defScope sSaid) := ⟨rfl, rfl, rfl, by decide +kernel, rfl, by decide +kernel, by decide +kernel⟩
def wordS (i : Nat) : Str := (["yard", "setting", "end", "out", "turn", "lead"] : List Str).getD i ""
/-- the names of the classes -/
structure SaidN (mg : Str → Option Value) (CL : Nat → Addr) (RE : Addr) : Prop where
  re : mg "RoundError" = some (.ref RE)
  c0 : mg "BadYard" = some (.ref (CL 0))
  c1 : mg "BadSetting" = some (.ref (CL 1))
  c2 : mg "BadEnd" = some (.ref (CL 2))
  c3 : mg "OutOfPlace" = some (.ref (CL 3))
  c4 : mg "BadTurn" = some (.ref (CL 4))
  c5 : mg "BadLead" = some (.ref (CL 5))
  c6 : mg "BadDraft" = some (.ref (CL 6))
  c7 : mg "BadNames" = some (.ref (CL 7))
  c8 : mg "BadSplit" = some (.ref (CL 8))
  c9 : mg "BadText" = some (.ref (CL 9))
  c10 : mg "BadTwins" = some (.ref (CL 10))
  c11 : mg "BadWorths" = some (.ref (CL 11))
  c12 : mg "BadDeed" = some (.ref (CL 12))
  c13 : mg "BadPaper" = some (.ref (CL 13))
  c14 : mg "BadTable" = some (.ref (CL 14))
  c15 : mg "Barred" = some (.ref (CL 15))
  c16 : mg "ManyRounds" = some (.ref (CL 16))
  c17 : mg "NeverOne" = some (.ref (CL 17))
  c18 : mg "TooMany" = some (.ref (CL 18))
  ve : mg "ValueError" = none
structure SaidC (K : PySem.W.Frag) (CL : Nat → Addr) (RE : Addr) (i : Nat) : Prop where
  lt : i < 6
  exc : ExcC K (CL i)
  xf : XfC K (CL i)
  no : PySem.W.findIn K (.ref (CL i)) "place" = some none
  kits : ∀ j, j < 19 → PySem.W.kitOne K (.ref (CL i)) (.ref (CL j)) = some (decide (i = j))
  ve : PySem.W.kitOne K (.ref (CL i)) (.type "ValueError") = some true
  exm : PySem.W.exmOne K (.ref (CL i)) (.ref RE) = some true
/-- what is wished of what the call raises -/
def XSaid (K : PySem.W.Frag) (CL : Nat → Addr) (RE : Addr) (Q : VK) : XK := fun cls d H => ∃ (i : Nat) (dd : Addr) (v : V), SaidC K CL RE i ∧ cls = .ref (CL i) ∧ d = some dd ∧ H dd = some (.xd [("place", v)]) ∧
  ∀ (H' : Hp) (u : Addr), Same H H' → H' u = some (.tup [.str (wordS i), v]) → Q (.ref u) H'
def TTsaid (K : PySem.W.Frag) (CL : Nat → Addr) (RE : Addr) : (XK → Hp → VK → Prop) → Hp → VK → Prop := fun tl H Q => ∀ (H1 : Hp) (R : VK), Same H H1 → (∀ v H', (∀ u, H' u = none → Q (.ref u) (upd H' u (.lst [v]))) → R v H') → tl (XSaid K CL RE Q) H1 R
inductive KS (H : Hp) : List Addr → List (Str × Bool) → Prop
  | nil : KS H [] []
  | cons {a p as ps} : H a = some (.tup [.str p.1, .bl p.2]) → KS H as ps → KS H (a :: as) (p :: ps)
theorem KS.mono {H H' : Hp} {as : List Addr} {ps : List (Str × Bool)} (h : KS H as ps) (k : Same H H') : KS H' as ps := by
  induction h with
  | nil => exact .nil
  | cons e _ ih => exact .cons (k _ _ e) ih
theorem KS.monoT {H H' : Hp} {as : List Addr} {ps : List (Str × Bool)} (h : KS H as ps) (k : ∀ b xs, H b = some (.tup xs) → H' b = some (.tup xs)) : KS H' as ps := by
  induction h with
  | nil => exact .nil
  | cons e _ ih => exact .cons (k _ _ e) ih
theorem KS.app {H : Hp} {as bs : List Addr} {ps qs : List (Str × Bool)} (h : KS H as ps) (k : KS H bs qs) : KS H (as ++ bs) (ps ++ qs) := by
  induction h with
  | nil => exact k
  | cons e _ ih => exact .cons e ih
theorem KS.len {H : Hp} {as : List Addr} {ps : List (Str × Bool)} (h : KS H as ps) : as.length = ps.length := by
  induction h with
  | nil => rfl
  | cons _ _ ih => simp [ih]
theorem KS.get {H : Hp} {as : List Addr} {ps : List (Str × Bool)} (h : KS H as ps) : ∀ {i : Nat} {a : Addr}, as[i]? = some a → ∃ p, ps[i]? = some p ∧ H a = some (.tup [.str p.1, .bl p.2]) := by
  induction h with
  | nil => intro i a e; simp at e
  | cons h1 _ ih =>
    intro i a e
    cases i with
    | zero =>
      cases Option.some.inj e
      exact ⟨_, rfl, h1⟩
    | succ i => exact ih (i := i) (by simpa using e)
def someS (i : Nat) : List (Str × Bool) := [("yard", decide (i = 0)), ("setting", decide (i = 1)), ("end", decide (i = 2)), ("out", decide (i = 3)), ("turn", decide (i = 4)), ("lead", decide (i = 5)), ("else", false), ("else", false), ("else", false)]
theorem some_one : ∀ i, i < 6 → (someS i).filter (·.2) = [(wordS i, true)] := by
  have h : ∀ i : Fin 6, (someS i).filter (·.2) = [(wordS i, true)] := by decide +kernel
  exact fun i hi => h ⟨i, hi⟩
theorem word_other : ∀ i, i < 6 → PyData.eqv (.list [.str (wordS i)]) (.list [.str "else"]) = false := by
  have h : ∀ i : Fin 6, PyData.eqv (.list [.str (wordS i)]) (.list [.str "else"]) = false := by decide +kernel
  exact fun i hi => h ⟨i, hi⟩
theorem word_shaped : ∀ i, i < 6 → SeqAt.shaped (.list [.str (wordS i)]) = true := by
  have h : ∀ i : Fin 6, SeqAt.shaped (.list [.str (wordS i)]) = true := by decide +kernel
  exact fun i hi => h ⟨i, hi⟩
theorem look_one {f : Str} {v : V} : List.lookup f [(f, v)] = some v := by
  rw [lookup_put, if_pos rfl]
/-- (word, isinstance(caught, class)) -/
def tIsS (K : PySem.W.Frag) (CL : Nat → Addr) (a : Addr) (cls : Value) (d : Option Addr) (w : Str) (j : Nat) : TE := tTup (tCons (tC (.str w)) (tCons (tCB (rIsX K a cls d) (tCons (tVar 1) (tCons (tC (.ref (CL j))) tNil))) tNil))
theorem pairS {K : PySem.W.Frag} {CL : Nat → Addr} {RE a dd : Addr} {i j1 j2 : Nat} {w1 w2 : Str} {σ : L2.St} {H : Hp} {Q : VK} {fs : List (Str × V)} (C : SaidC K CL RE i) (hj1 : j1 < 6) (hj2 : j2 < 6) (h1 : σ[1]? = some (some (.ref a))) (hd : H dd = some (.xd fs))
    (q : ∀ (l p1 p2 : Addr) (H' : Hp), Same H H' → H l = none → H' l = some (.lst (refs [p1, p2])) → KS H' [p1, p2] [(w1, decide (i = j1)), (w2, decide (i = j2))] → Q (.ref l) H') :
    tLst (tCons (tIsS K CL a (.ref (CL i)) (some dd) w1 j1) (tCons (tIsS K CL a (.ref (CL i)) (some dd) w2 j2) tNil)) σ H Q := by
  refine ⟨_, h1, CL i, dd, .ref (CL j1), .ref (CL j1), _, fs, rfl, rfl, rfl, C.exc, fun u r => r, C.kits j1 (by omega), hd, two_le, fun p1 hp1 => ?_⟩
  have s1 := Same.new (o := .tup [.str w1, .bl (decide (i = j1))]) hp1
  refine ⟨_, h1, CL i, dd, .ref (CL j2), .ref (CL j2), _, fs, rfl, rfl, rfl, C.exc, fun u r => r, C.kits j2 (by omega), s1 _ _ hd, two_le, fun p2 hp2 => ?_⟩
  have s2 := Same.new (o := .tup [.str w2, .bl (decide (i = j2))]) hp2
  refine ⟨two_le, fun l hl => ?_⟩
  have s3 := Same.new (o := .lst [V.ref p1, V.ref p2]) hl
  exact q l p1 p2 _ (s1.trans (s2.trans s3)) ((s1.trans s2).free hl) upd_same (.cons (s3 _ _ (s2 _ _ upd_same)) (.cons (s3 _ _ upd_same) .nil))
theorem catS {K : PySem.W.Frag} {CL : Nat → Addr} {RE a dd : Addr} {i j1 j2 : Nat} {w1 w2 : Str} {σ : L2.St} {H : Hp} {Q : VK} {fs : List (Str × V)} {L : Addr} {as : List Addr} {ps : List (Str × Bool)} (C : SaidC K CL RE i) (hj1 : j1 < 6) (hj2 : j2 < 6) (h1 : σ[1]? = some (some (.ref a))) (h4 : σ[4]? = some (some (.ref L))) (hd : H dd = some (.xd fs))
    (hL : H L = some (.lst (refs as))) (hK : KS H as ps) (hn : as.length ≤ 20) (q : ∀ (l : Addr) (bs : List Addr) (H' : Hp), Same H H' → H l = none → H' l = some (.lst (refs bs)) → KS H' bs (ps ++ [(w1, decide (i = j1)), (w2, decide (i = j2))]) → Q (.ref l) H') :
    tOp (rCatS K) (tVar 4) (tLst (tCons (tIsS K CL a (.ref (CL i)) (some dd) w1 j1) (tCons (tIsS K CL a (.ref (CL i)) (some dd) w2 j2) tNil))) σ H Q := by
  refine ⟨_, h4, pairS C hj1 hj2 h1 hd fun l p1 p2 H1 s1 hl hl1 hk1 => ?_⟩
  refine ⟨L, l, _, _, rfl, rfl, SqL.of (s1 _ _ hL), hl1, Nat.le_of_lt (small1000 (by rw [List.length_map]; show _ + 2 ≤ 1000; omega)), fun l2 hl2 => ?_⟩
  have s2 := Same.new (o := .lst (refs as ++ refs [p1, p2])) hl2
  refine q l2 (as ++ [p1, p2]) _ (s1.trans s2) (s1.free hl2) ?_ ((hK.mono (s1.trans s2)).app (hk1.mono s2))
  rw [upd_same, refs_app]
/-- ("else", isinstance(caught, (..))) -/
theorem otherS {K : PySem.W.Frag} {CL : Nat → Addr} {RE a dd : Addr} {i : Nat} {js : List Nat} {tt : TA} {σ : L2.St} {H : Hp} {Q : VK} {fs : List (Str × V)} (C : SaidC K CL RE i) (hjs : ∀ j ∈ js, j < 19 ∧ i ≠ j) (hl : js.length ≤ 10) (h1 : σ[1]? = some (some (.ref a))) (hd : H dd = some (.xd fs))
    (ht : ∀ R : List V → Hp → Prop, R (refs (js.map CL)) H → tt σ H R) (q : ∀ (p : Addr) (H' : Hp), Same H H' → H' p = some (.tup [.str "else", .bl false]) → Q (.ref p) H') :
    tTup (tCons (tC (.str "else")) (tCons (tCB (rIsXT K a (.ref (CL i)) (some dd)) (tCons (tVar 1) (tCons (tTup tt) tNil))) tNil)) σ H Q := by
  refine ⟨_, h1, ht _ ⟨?_, fun tp htp => ?_⟩⟩
  · exact Nat.le_of_lt (small1000 (by rw [List.length_map, List.length_map]; omega))
  · have s1 := Same.new (o := .tup (refs (js.map CL))) htp
    refine ⟨CL i, dd, tp, js.map CL, false, fs, rfl, rfl, rfl, C.exc, upd_same, kit_nots fun b m => ?_, s1 _ _ hd, two_le, fun p hp => q p _ (s1.trans (Same.new hp)) upd_same⟩
    obtain ⟨j, hj, rfl⟩ := List.mem_map.mp m
    rw [C.kits j (hjs j hj).1, decide_eq_false (hjs j hj).2]
theorem lst_one {t : TE} {σ : L2.St} {H : Hp} {Q : VK} (h : t σ H fun v H1 => 1 ≤ sizeLine ∧ ∀ a, H1 a = none → Q (.ref a) (upd H1 a (.lst [v]))) : tLst (tCons t tNil) σ H Q := h
/-- .. behind what is there -/
theorem catO {K : PySem.W.Frag} {CL : Nat → Addr} {RE a dd : Addr} {i : Nat} {js : List Nat} {tt : TA} {σ : L2.St} {H : Hp} {Q : VK} {fs : List (Str × V)} {L : Addr} {as : List Addr} {ps : List (Str × Bool)} (C : SaidC K CL RE i) (hjs : ∀ j ∈ js, j < 19 ∧ i ≠ j) (hl : js.length ≤ 10) (h1 : σ[1]? = some (some (.ref a))) (h4 : σ[4]? = some (some (.ref L))) (hd : H dd = some (.xd fs))
    (ht : ∀ R : List V → Hp → Prop, R (refs (js.map CL)) H → tt σ H R) (hL : H L = some (.lst (refs as))) (hK : KS H as ps) (hn : as.length ≤ 20) (q : ∀ (l : Addr) (bs : List Addr) (H' : Hp), Same H H' → H l = none → H' l = some (.lst (refs bs)) → KS H' bs (ps ++ [(("else" : Str), false)]) → Q (.ref l) H') :
    tOp (rCatS K) (tVar 4) (tLst (tCons (tTup (tCons (tC (.str "else")) (tCons (tCB (rIsXT K a (.ref (CL i)) (some dd)) (tCons (tVar 1) (tCons (tTup tt) tNil))) tNil))) tNil)) σ H Q := by
  refine ⟨_, h4, ?_⟩
  refine lst_one ?_
  refine otherS C hjs hl h1 hd ht fun p H1 s1 hp => ⟨by show 1 ≤ sizeLine; decide, fun l hl1 => ?_⟩
  have s2 := Same.new (o := .lst [V.ref p]) hl1
  refine ⟨L, l, _, _, rfl, rfl, SqL.of ((s1.trans s2) _ _ hL), upd_same, Nat.le_of_lt (small1000 (by rw [List.length_map]; show _ + 1 ≤ 1000; omega)), fun l2 hl2 => ?_⟩
  have s3 := Same.new (o := .lst (refs as ++ [V.ref p])) hl2
  have s123 := s1.trans (s2.trans s3)
  refine q l2 (as ++ [p]) _ s123 ((s1.trans s2).free hl2) ?_ ((hK.mono s123).app (.cons ((s2.trans s3) _ _ hp) .nil (p := ("else", false))))
  rw [upd_same, refs_app]
  rfl
end One
end P_V3

section P_V4
set_option linter.all false
set_option maxRecDepth 100000
set_option maxHeartbeats 16000000
namespace One
open PySem PySem.Spec PyProof.Rows L2
section
variable {X : Cx}
theorem takes_len {W : WX} (tk : Takes X W) : Takes X fun cls d σ H => σ.length = X.N.length → W cls d σ H := fun u s' ⟨a, B, sI, pins, σ, H, cls, d, e, I, nb, up, sky, na, os, ag, w⟩ => tk u s' ⟨a, B, sI, pins, σ, H, cls, d, e, I, nb, up, sky, na, os, ag, w I.len⟩
def RSaid (K : PySem.W.Frag) (CL : Nat → Addr) (RE a : Addr) (cls : Value) (d : Option Addr) : TS := fun D σ H => ∃ (i : Nat) (dd : Addr) (v : V), SaidC K CL RE i ∧ cls = .ref (CL i) ∧ d = some dd ∧ H dd = some (.xd [("place", v)]) ∧
  (∀ (H' : Hp) (u : Addr), Same H H' → H' u = some (.tup [.str (wordS i), v]) → D.rt (.ref u) H') ∧ σ.length = 8 ∧ σ[1]? = some (some (.ref a))
theorem said_gives {CL : Nat → Addr} {RE g : Addr} {cdg : Value} {q : Str} {k : Nat} (T : TB X.mg) (Nm : SaidN X.mg CL RE) (hr : Room k X.A) :
    LamX.GivesTo X nSaid "_law_said" (defScope sSaid) g cdg (defBody sSaid) "deed" q (TTsaid X.K CL RE) := by
  intro f c' s H Q tl act hc h
  have nd := scSaid.nd
  let cx : Cx := cxOf C8.CX0 X.prog X.w X.K X.mg X.base nSaid "_law_said" (defScope sSaid) g cdg X.A X.stack s H C8.E0
  have hu : (X.A.deeper (envOfC "_law_said" (defScope sSaid) s.heap.objs.size g cdg)).units + 64 < cLine := by
    show X.A.units + 3 + 64 < cLine
    have := hr.un
    omega
  have gl : ∀ {x : Str}, (defScope sSaid).names.lookup x = some .globalImplicit → Gl cx.nox x := fun h => h
  have iw : ∀ {a : Addr} {oe : Obj} {cls : Value} {d : Option Addr} {pn : List (Addr × Obj)} {w x : Str} {j n : Nat} {p0 p1 p2 p3 p4 p5 : Pos} (hz : Zc cls d oe) (hf : ∃ vs, oe.data = .fields vs) (hx : (defScope sSaid).names.lookup x = some .globalImplicit) (hm : X.mg x = some (.ref (CL j))) (hdb : (x == ("__debug__" : Str)) = false),
      PE (cx.nox.tr ((a, oe) :: pn) cx.nox.xe) (.Tuple [.Constant (.str w) n p0, .Call (.Name "isinstance" p1) [.Name "caught" p2, .Name x p3] [] p4] 0 p5) (tIsS X.K CL a cls d w j) := fun hz hf hx hm hdb =>
    pe_tup (pa_cons pe_str (pa_cons (pe_callB (cr_isX hz hf) (gl (by decide +kernel)) T.isinstance boot_isinstance (pa_cons (pv 1) (pa_cons (pe_glob (v := .ref (CL _)) (gl hx) hm rfl hdb) pa_nil))) pa_nil))
  have nam : ∀ {a : Addr} {oe : Obj} {pn : List (Addr × Obj)} {x : Str} {j : Nat} {p : Pos} (hx : (defScope sSaid).names.lookup x = some .globalImplicit) (hm : X.mg x = some (.ref (CL j))) (hdb : (x == ("__debug__" : Str)) = false),
      PE (cx.nox.tr ((a, oe) :: pn) cx.nox.xe) (.Name x p) (tC (.ref (CL j))) := fun hx hm hdb => pe_glob (v := .ref (CL _)) (gl hx) hm rfl hdb
  have ixl : ∀ {a : Addr} {oe : Obj} {pn : List (Addr × Obj)}, IxR (cx.nox.tr ((a, oe) :: pn) cx.nox.xe) (rIxL X.K) := ix_list
  have opc : ∀ {a : Addr} {oe : Obj} {pn : List (Addr × Obj)}, OpR (cx.nox.tr ((a, oe) :: pn) cx.nox.xe) (binaryOp .Add) (rCatS X.K) := op_catS
  have eqd : ∀ {a : Addr} {oe : Obj} {pn : List (Addr × Obj)}, OpR (cx.nox.tr ((a, oe) :: pn) cx.nox.xe) (compareOp .Eq) (rEqD X.K) := op_eqD (by exact hu)
  have lenc : ∀ {a : Addr} {oe : Obj} {pn : List (Addr × Obj)}, CallR (cx.nox.tr ((a, oe) :: pn) cx.nox.xe) (.builtin "len") (fun xs H Q => ∃ p ys, xs = [.ref p] ∧ (SqL X.K H p ys ∨ SqT X.K H p ys) ∧ Q (.int ys.length) H) := call_len_seq
  have pil : ∀ {a : Addr} {oe : Obj} {pn : List (Addr × Obj)} {tg : Expr} {p : Pos}, PI (cx.nox.tr ((a, oe) :: pn) cx.nox.xe) tg (.Name "some" p) (iList X.K (tVar 4)) := pi_list (pv 4)
  have fld : ∀ {a : Addr} {oe : Obj} {cls : Value} {d : Option Addr} {pn : List (Addr × Obj)} {n : Str} {p0 p1 : Pos} (hz : Zc cls d oe) (hf : ∃ vs, oe.data = .fields vs), PE (cx.nox.tr ((a, oe) :: pn) cx.nox.xe) (.Attribute (.Name "caught" p0) n p1) (tFld X.K a cls d n (tVar 1)) := fun hz hf => pe_fld hz hf (pv 1)
  have hE : ∀ (a : Addr) (oe : Obj) (cls : Value) (d : Option Addr) (pn : List (Addr × Obj)), Zc cls d oe → (∃ vs, oe.data = .fields vs) → PSs (cx.nox.tr ((a, oe) :: pn) cx.nox.xe) ((defBody sSaid).drop 2) (RSaid X.K CL RE a cls d) := fun a oe cls d pn hz hf => by
    obtain ⟨t, ht, hm⟩ : ∃ t, PSs (cx.nox.tr ((a, oe) :: pn) cx.nox.xe) ((defBody sSaid).drop 2) t ∧ ∀ D σ H, RSaid X.K CL RE a cls d D σ H → t D σ H := by
      refine ⟨_, (pss_cons (ps_if (pt_cmpR op_isN (pv 1) pe_non (nomark _)) (pss_one (ps_ret (pv 2))) pss_nil)
      (pss_cons (ps_set (i := 4) nd rfl (Or.inl rfl) (pe_lst (pa_cons (iw (j := 0) hz hf (by decide +kernel) Nm.c0 (by decide +kernel)) (pa_cons (iw (j := 1) hz hf (by decide +kernel) Nm.c1 (by decide +kernel)) pa_nil))))
      (pss_cons (ps_set (i := 4) nd rfl (Or.inl rfl) (pe_op opc (pv 4) (pe_lst (pa_cons (iw (j := 2) hz hf (by decide +kernel) Nm.c2 (by decide +kernel)) (pa_cons (iw (j := 3) hz hf (by decide +kernel) Nm.c3 (by decide +kernel)) pa_nil)))))
      (pss_cons (ps_set (i := 4) nd rfl (Or.inl rfl) (pe_op opc (pv 4) (pe_lst (pa_cons (iw (j := 4) hz hf (by decide +kernel) Nm.c4 (by decide +kernel)) (pa_cons (iw (j := 5) hz hf (by decide +kernel) Nm.c5 (by decide +kernel)) pa_nil)))))
      (pss_cons (ps_set (i := 4) nd rfl (Or.inl rfl) (pe_op opc (pv 4) (pe_lst (pa_cons (pe_tup (pa_cons pe_str (pa_cons (pe_callB (cr_isXT hz hf) (gl (by decide +kernel)) T.isinstance boot_isinstance (pa_cons (pv 1) (pa_cons (pe_tup
              (pa_cons (nam (j := 6) (by decide +kernel) Nm.c6 (by decide +kernel)) (pa_cons (nam (j := 7) (by decide +kernel) Nm.c7 (by decide +kernel)) (pa_cons (nam (j := 8) (by decide +kernel) Nm.c8 (by decide +kernel)) (pa_cons (nam (j := 9) (by decide +kernel) Nm.c9 (by decide +kernel)) (pa_cons (nam (j := 10) (by decide +kernel) Nm.c10 (by decide +kernel))
                (pa_cons (nam (j := 11) (by decide +kernel) Nm.c11 (by decide +kernel)) pa_nil))))))) pa_nil))) pa_nil))) pa_nil))))
      (pss_cons (ps_set (i := 4) nd rfl (Or.inl rfl) (pe_op opc (pv 4) (pe_lst (pa_cons (pe_tup (pa_cons pe_str (pa_cons (pe_callB (cr_isXT hz hf) (gl (by decide +kernel)) T.isinstance boot_isinstance (pa_cons (pv 1) (pa_cons (pe_tup
              (pa_cons (nam (j := 12) (by decide +kernel) Nm.c12 (by decide +kernel)) (pa_cons (nam (j := 13) (by decide +kernel) Nm.c13 (by decide +kernel)) (pa_cons (nam (j := 14) (by decide +kernel) Nm.c14 (by decide +kernel)) pa_nil)))) pa_nil))) pa_nil))) pa_nil))))
      (pss_cons (ps_set (i := 4) nd rfl (Or.inl rfl) (pe_op opc (pv 4) (pe_lst (pa_cons (pe_tup (pa_cons pe_str (pa_cons (pe_callB (cr_isXT hz hf) (gl (by decide +kernel)) T.isinstance boot_isinstance (pa_cons (pv 1) (pa_cons (pe_tup
              (pa_cons (nam (j := 15) (by decide +kernel) Nm.c15 (by decide +kernel)) (pa_cons (nam (j := 16) (by decide +kernel) Nm.c16 (by decide +kernel)) (pa_cons (nam (j := 17) (by decide +kernel) Nm.c17 (by decide +kernel)) (pa_cons (nam (j := 18) (by decide +kernel) Nm.c18 (by decide +kernel)) pa_nil))))) pa_nil))) pa_nil))) pa_nil))))
      (pss_cons (ps_setLc (i := 5) (own := [("word", 6), ("fits", 7)]) (g := gTup X.K 2 (gCons (gName 6) (gCons (gName 7) gNil))) (tt := tB (tVar 7)) (te := tVar 6) rfl nd rfl rfl (sw_true rfl rfl rfl (by decide +kernel)) pil (blkOk_by (N := nSaid) (sc := defScope sSaid) (by decide +kernel))
              (fun _ _ _ _ _ => pg_tup rfl (pgs_cons (pg_name (i := 6) nd rfl (Or.inl rfl)) (pgs_cons (pg_name (i := 7) nd rfl (Or.inl rfl)) pgs_nil))) (fun _ _ _ _ _ => pts_one (pt_val (pv 7))) (fun _ _ _ _ _ => pv 6))
      (pss_cons (ps_if (PW.pt (pw_or (pt_cmpR op_ne (pe_callB lenc (gl (by decide +kernel)) T.len PySem.boot_len (pa_cons (pv 5) pa_nil)) pe_int (nomark _))
              (pw_or (pt_cmpR eqd (pv 5) (pe_lst (pa_cons pe_str pa_nil)) (nomark _))
              (pw_or1 (pt_not (pt_val (pe_callB (cr_isX hz hf) (gl (by decide +kernel)) T.isinstance boot_isinstance (pa_cons (pv 1) (pa_cons (pe_bltn (v := .ty "ValueError") (gl (by decide +kernel)) Nm.ve PyProof.Rows.Boot.«ValueError» rfl) pa_nil))))))))) (pss_one (ps_ret pe_str)) pss_nil)
      (pss_one (ps_ret (pe_tup (pa_cons (pe_ix ixl (pv 5) pe_int (fun _ _ => rfl)) (pa_cons (fld hz hf) pa_nil)))))))))))))), ?_⟩
      rintro D σ H1 ⟨i, dd, v, C, rfl, rfl, hd, k, hl, h1⟩
      obtain ⟨s0, s1, s2, s3, s4, s5, s6, s7, rfl⟩ : ∃ s0 s1 s2 s3 s4 s5 s6 s7, σ = [s0, s1, s2, s3, s4, s5, s6, s7] := by
        match σ, hl with
        | [s0, s1, s2, s3, s4, s5, s6, s7], _ => exact ⟨s0, s1, s2, s3, s4, s5, s6, s7, rfl⟩
      cases h1
      refine ⟨_, rfl, rfl, _, rfl, iteF ?_⟩
      unfold tNext tSeq tAsg
      dsimp only
      refine pairS (j1 := 0) (j2 := 1) C (by decide) (by decide) (by rfl) hd fun l1 q1 q2 H2 z2 f2 e2 k2 => ?_
      have hd2 := z2 _ _ hd
      show tOp (rCatS X.K) _ _ _ _ _
      refine catS (j1 := 2) (j2 := 3) C (by decide) (by decide) (by rfl) (by rfl) hd2 e2 k2 (by rw [k2.len]; exact Nat.le_of_ble_eq_true rfl) fun l2 b2 H3 z3 f3 e3 k3 => ?_
      have hd3 := z3 _ _ hd2
      show tOp (rCatS X.K) _ _ _ _ _
      refine catS (j1 := 4) (j2 := 5) C (by decide) (by decide) (by rfl) (by rfl) hd3 e3 k3 (by rw [k3.len]; exact Nat.le_of_ble_eq_true rfl) fun l3 b3 H4 z4 f4 e4 k4 => ?_
      have hd4 := z4 _ _ hd3
      have lt := C.lt
      show tOp (rCatS X.K) _ _ _ _ _
      refine catO (js := [6, 7, 8, 9, 10, 11]) C (fun j hj => ?_) (by decide) (by rfl) (by rfl) hd4 (fun R h => h) e4 k4 (by rw [k4.len]; exact Nat.le_of_ble_eq_true rfl) fun l5 b5 H5 z5 f5 e5 k5 => ?_
      · simp only [List.mem_cons, List.not_mem_nil, or_false] at hj
        omega
      have hd5 := z5 _ _ hd4
      show tOp (rCatS X.K) _ _ _ _ _
      refine catO (js := [12, 13, 14]) C (fun j hj => ?_) (by decide) (by rfl) (by rfl) hd5 (fun R h => h) e5 k5 (by rw [k5.len]; exact Nat.le_of_ble_eq_true rfl) fun l6 b6 H6 z6 f6 e6 k6 => ?_
      · simp only [List.mem_cons, List.not_mem_nil, or_false] at hj
        omega
      have hd6 := z6 _ _ hd5
      show tOp (rCatS X.K) _ _ _ _ _
      refine catO (js := [15, 16, 17, 18]) C (fun j hj => ?_) (by decide) (by rfl) (by rfl) hd6 (fun R h => h) e6 k6 (by rw [k6.len]; exact Nat.le_of_ble_eq_true rfl) fun l4 bs H9 z7 f7 e9 k9 => ?_
      · simp only [List.mem_cons, List.not_mem_nil, or_false] at hj
        omega
      have hd9 := z7 _ _ hd6
      have s9 := z2.trans (z3.trans (z4.trans (z5.trans (z6.trans z7))))
      have k9 : KS H9 bs (someS i) := k9
      have lbs : bs.length = 9 := k9.len
      refine ⟨_, rfl, l4, rfl, ⟨_, SqL.of e9⟩, fun D' hD => ?_⟩
      have sD := Same.new (o := .lst []) hD
      refine lc_it (walk_list (K := X.K) (a := l4) (xs := refs bs)) (fun n H6 => ∃ acc : List V, H6 D' = some (.lst acc) ∧ acc = (((someS i).take n).filter (·.2)).map (fun p => V.str p.1) ∧ n ≤ 9 ∧ Same H9 H6) ⟨[], upd_same, rfl, Nat.zero_le _, sD⟩ (fun n H6 _ ⟨_, _, _, _, s6⟩ => SqL.of (s6 _ _ e9)) ?_ ?_
      · rintro n x HA HB hn ⟨acc, hDA, ea, h10, sA⟩ ⟨rfl, hx⟩
        have hn8 : n < 9 := by rw [List.length_map, lbs] at hn; exact hn
        have hx : (refs bs)[n]? = some x := hx
        rw [List.getElem?_map, List.getElem?_eq_getElem (by omega : n < bs.length)] at hx
        cases hx
        obtain ⟨p, hp, hpa⟩ := k9.get (List.getElem?_eq_getElem (by omega : n < bs.length))
        have h6 := sA _ _ hpa
        have step : (someS i).take (n + 1) = (someS i).take n ++ [p] := by
          rw [List.take_succ, hp]
          rfl
        refine ⟨_, _, rfl, SqT.of h6, rfl, _, _, rfl, _, _, rfl, rfl, rfl, ?_⟩
        refine ⟨_, rfl, _, rfl, ?_⟩
        refine ite2 (fun hb => ?_) (fun hb => ?_)
        · have hlen : acc.length ≤ 9 := by
            rw [ea, List.length_map]
            exact Nat.le_trans (List.length_filter_le _ _) (by rw [List.length_take]; omega)
          refine ⟨_, rfl, acc, hDA, small1000 (by omega), acc ++ [V.str p.1], upd_same, ?_, by omega, fun b o e => ?_⟩
          · rw [step, List.filter_append, List.map_append, ← ea]
            have : [p].filter (·.2) = [p] := by rw [List.filter_cons, if_pos hb, List.filter_nil]
            rw [this]
            rfl
          · rw [upd_ne (ne_of_none e hD)]
            exact sA _ _ e
        · refine ⟨acc, hDA, ?_, by omega, sA⟩
          rw [step, List.filter_append]
          have : [p].filter (·.2) = [] := by rw [List.filter_cons, if_neg hb, List.filter_nil]
          rw [this, List.append_nil]
          exact ea
      · rintro HA ⟨acc, hDA, ea, _, sA⟩
        have e10 : (refs bs).length = 9 := by rw [List.length_map, lbs]
        rw [e10, show (someS i).take 9 = someS i from rfl, some_one i C.lt] at ea
        have ea : acc = [V.str (wordS i)] := ea
        subst ea
        have hdA := sA _ _ hd9
        have s1A := s9.trans sA
        refine ⟨_, rfl, D', _, rfl, .inl (SqL.of hDA), rfl, _, rfl, ?_⟩
        refine ite2 (fun hb => absurd hb (by simp)) fun _ => ?_
        refine ⟨_, rfl, (by show 1 ≤ sizeLine; decide), fun o ho => ?_⟩
        have so := Same.new (o := .lst [V.str "else"]) ho
        have hDo := so _ _ hDA
        refine ⟨.list [.str (wordS i)], .list [.str "else"], .lst (SqL.of hDo) (.cons (.str _) .nil), .lst (SqL.of upd_same) (.cons (.str _) .nil), word_shaped i C.lt, by decide +kernel, _, rfl, ?_⟩
        rw [word_other i C.lt]
        refine iteF ?_
        have hdo := so _ _ hdA
        have s1o := s1A.trans so
        generalize upd HA o (.lst [V.str "else"]) = HO' at so hDo hdo s1o
        refine ⟨_, rfl, CL i, dd, .ty "ValueError", .type "ValueError", true, _, rfl, rfl, rfl, C.exc, fun u r => r, C.ve, hdo, true, rfl, iteF ?_⟩
        refine ⟨_, rfl, D', _, 0, _, rfl, rfl, SqL.of hDo, rfl, ?_⟩
        exact ⟨_, rfl, CL i, dd, _, v, rfl, rfl, rfl, C.xf, C.no, hdo, look_one, two_le, fun u hu => k _ u (s1o.trans (Same.new hu)) upd_same⟩
    exact ⟨fun pins s σ H D I h => ht.run pins s σ H D I (hm D σ H h)⟩
  refine ⟨_, pss_cons (ps_asg (pe_tup (pa_cons pe_non (pa_cons pe_non pa_nil))) (pg_tup rfl (pgs_cons (pg_name (i := 1) nd rfl (Or.inl rfl)) (pgs_cons (pg_name (i := 2) nd rfl (Or.inl rfl)) pgs_nil)))) (pss_hold (X := cx.nox) (rest := (defBody sSaid).drop 2) (i := 3) (j := 1) (c := .ref RE) (Wout := fun _ _ _ _ => False)
    (tb := fun W D σ H => ∃ Ech : XK, (∀ cls d σ' H', Ech cls d H' → σ'.length = 8 → W cls d σ' H') ∧ σ[0]? = some (some (.ref f)) ∧ H c' = some (LamX.CodeO c' q) ∧ tl Ech H fun v H' => 1 ≤ sizeLine ∧ ∀ u, H' u = none → D.nx (σ.set 2 (some (.ref u))) (upd H' u (.lst [v])))
    rfl rfl nd rfl rfl rfl rfl ⟨gl (by decide +kernel), by decide +kernel, .inl Nm.re⟩ LamX.takes0 (by decide +kernel) (by decide +kernel) (fun W pn xe tk _ => ?_)
    (pss_cons (ps_if (pt_cmpR op_isN (pv 1) pe_non (nomark _)) (pss_one (ps_ret (pv 2))) pss_nil) pss_never)
    hE), ?_⟩
  · exact ⟨fun pins s' σ H' D I ⟨Ech, hW, h1, h2, h3⟩ => (pss_one (ps_set (i := 2) nd rfl (Or.inl rfl) (pe_lst (pa_cons (act (fun cls d σ H => σ.length = 8 → W cls d σ H) pn xe Ech _ _ (takes_len tk) hW) pa_nil)))).run pins s' σ H' D I ⟨h1, h2, h3⟩⟩
  · refine ⟨two_le, fun t0 ht0 => ⟨t0, _, rfl, SqT.of upd_same, rfl, _, _, rfl, _, _, rfl, rfl, ?_⟩⟩
    have st := Same.new (o := .tup [V.non, V.non]) ht0
    refine ⟨XSaid X.K CL RE Q, fun cls d σ' H1 hx hl => ?_, rfl, st _ _ hc, h _ _ st fun v H' hq => ?_⟩
    · obtain ⟨i, dd, v, C, rfl, rfl, hd, hk⟩ := hx
      refine ⟨true, C.exm, fun _ a ha => ?_, fun z => nomatch z⟩
      obtain ⟨s0, s1, s2, s3, s4, s5, s6, s7, rfl⟩ : ∃ s0 s1 s2 s3 s4 s5 s6 s7, σ' = [s0, s1, s2, s3, s4, s5, s6, s7] := by
        match σ', hl with
        | [s0, s1, s2, s3, s4, s5, s6, s7], _ => exact ⟨s0, s1, s2, s3, s4, s5, s6, s7, rfl⟩
      exact ⟨i, dd, v, C, rfl, rfl, hd, hk, rfl, rfl⟩
    · exact ⟨by show 1 ≤ sizeLine; decide, fun u hu => ⟨_, rfl, rfl, _, rfl, iteT ⟨_, rfl, hq u hu⟩⟩⟩
end
end One
end P_V4

section P_V7
set_option linter.all false
set_option maxRecDepth 100000
set_option maxHeartbeats 4000000
namespace HT
open PySem PySem.Spec PyProof.Rows
section
variable {A : Around} {prog : Program} {w : World} {s : Shared} {E : Value → Shared → Prop}
theorem sliceApplied_rev {sl : Addr} {u : Tok} {n : Nat} {Q : Int × Int × Nat → Shared → Prop} (hs : s.heap.IsSliceOf sl .none .none (.int (-1) u)) (h : Q ((n : Int) - 1, -1, n) s) : wpAny (model prog w) A (Builtin.Slice.sliceApplied (.ref sl) (pure (n : Int))) Q E s := by
  have ⟨os, ho1, hc1, hd1⟩ := hs
  unfold Builtin.Slice.sliceApplied
  unfold Builtin.Slice.sliceFields
  refine wpAny_bind (wpAny_bind (wpAny_field ho1 hd1 (x := .none) rfl (wpAny_bind (wpAny_field ho1 hd1 (x := .none) rfl (wpAny_bind (wpAny_field ho1 hd1 (x := .int (-1) u) rfl (wpAny_pure ?_)))))))
  refine wpAny_bind (slicePart_ (.int (-1) u) ?_)
  show wpAny _ _ (if ((-1 : Int) == 0) = true then _ else _) _ _ s
  rw [if_neg (by decide)]
  refine wpAny_bind (slicePart_none (wpAny_bind (slicePart_none (wpAny_bind (wpAny_pure ?_)))))
  have e : Builtin.Slice.sliceAdjust none none (-1) (n : Int) = ((n : Int) - 1, -1) := rfl
  show wpAny _ _ (match Builtin.Slice.sliceAdjust none none (-1) (n : Int) with | (lo, hi) => pure (lo, (-1 : Int), Builtin.Slice.slicePlaces lo hi (-1))) _ _ s
  rw [e]
  have e2 : Builtin.Slice.slicePlaces ((n : Int) - 1) (-1) (-1) = n := by
    delta Builtin.Slice.slicePlaces
    rw [if_neg (by decide)]
    simp only [Int.neg_neg, Int.ediv_one]
    split <;> omega
  show wpAny _ _ (pure ((n : Int) - 1, (-1 : Int), Builtin.Slice.slicePlaces ((n : Int) - 1) (-1) (-1))) _ _ s
  rw [e2]
  exact wpAny_pure h
theorem fm_map {f : Nat → Option Value} {g : Nat → Value} : ∀ {l : List Nat}, (∀ m ∈ l, f m = some (g m)) → l.filterMap f = l.map g
  | [], _ => rfl
  | x :: l, h => by
    rw [List.filterMap_cons, h x (List.mem_cons_self ..), List.map_cons, fm_map fun m hm => h m (List.mem_cons_of_mem _ hm)]
theorem pick_rev (xs : Array Value) : ((List.range xs.size).filterMap fun (m : Nat) => xs[(((xs.size : Int) - 1) + (m : Int) * (-1)).toNat]?).toArray = xs.toList.reverse.toArray := by
  congr 1
  refine List.ext_getElem? fun i => ?_
  have e : (List.range xs.size).filterMap (fun (m : Nat) => xs[(((xs.size : Int) - 1) + (m : Int) * (-1)).toNat]?) = (List.range xs.size).map fun m => xs.toList.getD (xs.size - 1 - m) default := by
    refine fm_map fun m hm => ?_
    have hm := List.mem_range.mp hm
    rw [show (((xs.size : Int) - 1) + (m : Int) * (-1)).toNat = xs.size - 1 - m by omega]
    rw [List.getD_eq_getElem?_getD, Array.getElem?_toList, Array.getElem?_eq_getElem (by omega)]
    rfl
  rw [e, List.getElem?_map]
  rcases Nat.lt_or_ge i xs.size with h | h
  · rw [List.getElem?_range h, List.getElem?_reverse (by rw [Array.length_toList]; exact h), Array.length_toList]
    show some (xs.toList.getD (xs.size - 1 - i) default) = _
    rw [List.getD_eq_getElem?_getD, List.getElem?_eq_getElem (by rw [Array.length_toList]; omega)]
    rfl
  · rw [List.getElem?_eq_none (by rw [List.length_range]; exact h), List.getElem?_eq_none (by rw [List.length_reverse, Array.length_toList]; exact h)]
    rfl
theorem getItem_tuple_rev {t sl : Addr} {items : Array Value} {u : Tok} {Q : Value → Shared → Prop} (ht : IsTup s.heap t items) (hs : s.heap.IsSliceOf sl .none .none (.int (-1) u))
    (h : Q (.ref s.heap.objs.size) { s with heap := s.heap.push { cls := .type "tuple", data := .seq items.toList.reverse.toArray } })
    (short : items.size ≤ sizeLine) : wpAny (model prog w) A (getItem (Value.ref t) (Value.ref sl)) Q E s := by
  have fits : sizeOk (.seq items.toList.reverse.toArray) := by
    show items.toList.reverse.toArray.size ≤ sizeLine
    rw [List.size_toArray, List.length_reverse, Array.length_toList]
    omega
  have ⟨os, ho1, hc1, hd1⟩ := hs
  have tySl : s.TypeIs (Value.ref sl) "slice" := ⟨os, ho1, hc1⟩
  unfold getItem
  have slot := PyProof.Rows.slot_tuple_getitem
  have tyT := ht.typeIs
  try with_reducible (refine wpAny_holding ?_)
  first | (refine wpAny_bind (wpAny_pure ?_)) | skip
  refine wpAny_bind (wpAny_sequenceKey tyT (by decide) (wpAny_bind (wpAny_callSpecial?_slot (name := Str.ofString "__getitem__") tyT slot (wpAny_call_entry slot tyT entry_tuple_getitem ?_ (args_tuple_getitem _ _)))))
  show wpAny _ _ (Builtin.Tuple.tupleItemsOf (Value.ref t) >>= _) _ _ s
  refine wpAny_bind (tupleItemsOf_ ht (wpAny_bind (wpAny_typeOf tySl ?_)))
  rw [if_pos (by decide)]
  refine wpAny_bind (sliceApplied_rev hs ?_)
  have unlike : ¬ ((((items.size : Int) - 1) == 0 && (-1 : Int) == 1 && items.size == items.size) = true) := by
    intro q
    simp at q
  show wpAny _ _ (if (((items.size : Int) - 1) == 0 && (-1 : Int) == 1 && items.size == items.size) = true then _ else _) _ _ s
  rw [if_neg unlike, pick_rev]
  have told := wpAny_pure (M := model prog w) (A := A) (E := E) (s := { s with heap := s.heap.push { cls := .type "tuple", data := .seq items.toList.reverse.toArray } }) h
  first
    | exact wpAny_bind (m := Builtin.Tuple.tupleExact _) (wpAny_newObj_type (wpAny_pure ⟨_, rfl, told⟩) fits)
    | exact wpAny_bind (m := Builtin.Tuple.tupleExact _) (wpAny_newObj_type (wpAny_bind (wpAny_pure (wpAny_pure ⟨_, rfl, told⟩))) fits)
    | exact wpAny_bind (wpAny_bind (m := Builtin.Tuple.tupleExact _) (wpAny_newObj_type (wpAny_pure (wpAny_pure ⟨_, rfl, told⟩)) fits))
    | exact wpAny_bind (wpAny_bind (m := Builtin.Tuple.tupleExact _) (wpAny_newObj_type (wpAny_pure ⟨_, rfl, told⟩) fits))
end
end HT
namespace One
open PySem PySem.Spec PyProof.Rows L2
section
variable {X : Cx}
/-! ### t[::-1], t a tuple -/
def tRevT (K : PySem.W.Frag) (te : TE) : TE := fun σ H Q => te σ H fun x H1 => ∃ a xs, x = .ref a ∧ SqT K H1 a xs ∧ ∀ p, H1 p = none → Q (.ref p) (upd H1 p (.tup xs.reverse))
theorem pe_revT {e : Expr} {te : TE} {k : Nat} {p1 p2 p3 pos : Pos} (he : PE X e te) : PE X (.Subscript e (.Slice none none (some (.UnaryOp .USub (.Constant (.int 1) k p1) p2)) p3) pos) (tRevT X.K te) := by
  have hst : PO X (some (.UnaryOp .USub (.Constant (.int 1) k p1) p2)) (tPart (tUn (rU fun i => V.int (-i)) (tC (V.int 1)))) := po_some (pe_un un_neg pe_int)
  refine ⟨fun pins s σ H Q I w0 => Subscript_ (thn (he.run pins s σ H _ I w0) fun v s1 ⟨x, H1, I1, r1, a, xs, ex, hx, q⟩ => ?_)⟩
  subst ex
  cases r1
  have none1 := fun (z : Shared) (G : Hp) (J : Inv X pins σ G z) => (po_none (X := X)).run pins z σ G (fun o G' => o = none ∧ G' = G) J ⟨rfl, rfl⟩
  refine wpAny_Slice (thn (none1 s1 H1 I1) fun vl s2 ⟨l, H2, I2, pl, el, e2⟩ => ?_)
  subst el e2
  refine thn (none1 s2 H2 I2) fun vu s3 ⟨u, H3, I3, pu, eu, e3⟩ => ?_
  subst eu e3
  refine thn (hst.run pins s3 σ H3 (fun o G => o = some (-1) ∧ G = H3) I3 ⟨1, rfl, -1, rfl, rfl, rfl⟩) fun vs s4 ⟨o, H4, I4, ps, eo, e4⟩ => ?_
  subst eo e4
  cases pl
  cases pu
  cases ps with
  | int _ t =>
    have I5 : Inv X pins σ H4 { s4 with heap := s4.heap.push { cls := .type "slice", data := .fields #[.none, .none, .int (-1) t] } } := I4.kept (t' := s4.toks) fun b ob q => Heap.get?_push_of_some _ q
    obtain ⟨its, r, ht, hz⟩ := I5.tuple hx
    have hlen := r.length
    show wpAny (model X.prog X.w) X.A (subscriptTail e (.Slice none none (some (.UnaryOp .USub (.Constant (.int 1) k p1) p2)) p3) (.ref a) (.ref s4.heap.objs.size)) (EP X pins σ Q) X.xe { s4 with heap := s4.heap.push { cls := .type "slice", data := .fields #[.none, .none, .int (-1) t] } }
    refine tail_any (ops := [.ref a, .ref s4.heap.objs.size]) ht.typeIs (PyProof.Rows.slot_tuple_getitem.lookup) ?_ (by with_unfolding_all rfl)
    refine HT.getItem_tuple_rev ht (Heap.IsSliceOf.new _ .none .none (.int (-1) t)) ?_ (by rw [List.size_toArray]; omega)
    refine ⟨.ref _, _, I5.laid (t' := s4.toks) (o := .tup xs.reverse) (fun b ob q => Heap.get?_push_of_some _ q) (Nat.le_refl _) ?_, rfl, q _ (I5.hok.fresh (Nat.le_refl _))⟩
    exact ⟨by rw [List.length_reverse]; exact hz, _, r.reverse, IsTup.new _ _⟩
end
end One
end P_V7

section P_V9
set_option linter.all false
set_option maxRecDepth 100000
set_option maxHeartbeats 8000000
namespace One
open PySem PySem.Spec PyProof.Rows L2
/-! ### yards that are refused: a list, and the lines from the last to the first -/
theorem wrong_of {C0 : Addr} {E : XK} {H H' : Hp} {p : Addr} {ns : List Nat} (h : RWrong C0 E H ns) (s : Same H H') (hp : H' p = some (.tup (nats ns))) (hl : ns.length ≤ 100) (hs : ∀ n ∈ ns, n < 1000) : Wrong C0 E (.ref p) H' :=
  ⟨p, ns, rfl, hp, hl, hs, fun d hd => h _ p d (s.trans (Same.new hd)) ((Same.new hd) _ _ hp) upd_same⟩
theorem bad_list {C0 q : Addr} {E : XK} {H : Hp} {xs : List V} (hq : H q = some (.lst xs)) (h : RWrong C0 E H []) : BadY C0 (.ref q) H E :=
  ⟨_, rfl, .inl ⟨.inl ⟨"list", .lst hq, by decide⟩, fun H' p s hp => wrong_of h s hp (Nat.zero_le _) (fun n hn => absurd hn (by simp))⟩⟩
theorem goF_rev {n : Nat} {ps : List (Nat × Nat)} (Y : Yard n ps) : goF 0 [] none (ps.reverse.map some) = some 1 := by
  have hl : ps.reverse.length = 2 * n := by rw [List.length_reverse, Y.lines.len]
  have up := List.pairwise_reverse.mpr Y.up
  have pos := Y.pos
  match hr : ps.reverse, hl, up with
  | [], hl, _ => simp at hl; omega
  | [_], hl, _ => simp at hl; omega
  | a :: b :: r, _, up =>
    have lt : ltP b a := (List.pairwise_cons.mp up).1 b (List.mem_cons_self ..)
    have le : leB b a = true := by
      unfold ltP at lt
      unfold leB
      rw [Bool.or_eq_true, Bool.and_eq_true, decide_eq_true_eq, decide_eq_true_eq, decide_eq_true_eq]
      omega
    show (if notUp a none || ([] : List Nat).contains a.1 || ([] : List Nat).contains a.2 then some 0 else goF 1 ([] ++ [a.1, a.2]) (some a) (some b :: r.map some)) = some 1
    have e1 : (notUp a none || ([] : List Nat).contains a.1 || ([] : List Nat).contains a.2) = false := rfl
    rw [e1, if_neg (by decide)]
    show (if leB b a || _ || _ then some 1 else _) = some 1
    rw [le]
    rfl
theorem PL.rev {H : Hp} {as : List Addr} {ps : List (Nat × Nat)} (h : PL H as ps) : PL H as.reverse ps.reverse := by
  induction h with
  | nil => exact .nil
  | @cons a p as ps h1 _ ih =>
    rw [List.reverse_cons, List.reverse_cons]
    exact ih.app (.cons h1 .nil)
theorem bad_rev {C0 y q : Addr} {E : XK} {H : Hp} {n : Nat} {ps : List (Nat × Nat)} {as : List Addr} (Y : Yard n ps) (hP : PL H as ps) (h40 : n ≤ 40) (hq : H q = some (.tup (refs as).reverse)) (h : RWrong C0 E H [1]) : BadY C0 (.ref q) H E := by
  have er : (refs as).reverse = refs as.reverse := by
    unfold refs
    rw [List.map_reverse]
  rw [er] at hq
  have hl : (refs as.reverse).length = 2 * n := by rw [List.length_map, List.length_reverse, hP.len, Y.lines.len]
  have hpos := Y.pos
  refine ⟨_, rfl, .inr ⟨q, refs as.reverse, ps.reverse.map some, rfl, hq, ?_, ?_, fun k hk => ?_, fun hno => ?_⟩⟩
  · unfold canBe
    rw [hl]
    simp only [Bool.and_eq_true, decide_eq_true_eq]
    omega
  · rw [hl]
    refine il_of hP.rev fun p m => ?_
    have m := List.mem_reverse.mp m
    exact ⟨(Y.lt p m).1, by have := (Y.lt p m).2; omega⟩
  · rw [goF_rev Y] at hk
    cases hk
    exact fun H' p s hp => wrong_of h s (ns := [1]) hp (by show 1 ≤ 100; decide) (fun n hn => by rw [List.mem_singleton.mp hn]; decide)
  · rw [goF_rev Y] at hno
    cases hno
end One
end P_V9

section P_DA
set_option linter.all false
set_option maxRecDepth 100000
set_option maxHeartbeats 16000000
namespace One
open PySem PySem.Spec PyProof.Rows L2
theorem tup_off {H : Hp} {p a l t : Addr} {n : Nat} {xs : List V} (M : ML H p a l n) (h : H t = some (.tup xs)) : t ≠ p ∧ t ≠ l := by
  obtain ⟨_, _, _, h1, _, h3, _⟩ := M.ex
  exact ⟨ne_of h h1 (by intro z; cases z), ne_of h h3 (by intro z; cases z)⟩
/-- all stays but the dice and the tables -/
def ExtT (p l : Addr) (H H' : Hp) : Prop := ∀ b o, b ≠ p → b ≠ l → (∀ ps, o ≠ .tbl ps) → H b = some o → H' b = some o
theorem ExtT.refl (p l : Addr) (H : Hp) : ExtT p l H H := fun _ _ _ _ _ e => e
theorem ExtT.trans {p l : Addr} {H H1 H2 : Hp} (a : ExtT p l H H1) (b : ExtT p l H1 H2) : ExtT p l H H2 := fun c o x y z e => b c o x y z (a c o x y z e)
theorem ExtT.ofL {p l : Addr} {H H1 : Hp} (a : ExtL p l H H1) : ExtT p l H H1 := fun c o x y _ e => a c o x y e
theorem ExtT.ofS {p l : Addr} {H H1 : Hp} (a : Same H H1) : ExtT p l H H1 := fun c o _ _ _ e => a c o e
theorem ExtT.ofN {p l : Addr} {H H1 : Hp} (a : LamX.ExtN H H1) : ExtT p l H H1 := fun c o _ _ z e => a c o e z
theorem ML.keepN {H H' : Hp} {p a l : Addr} {n : Nat} (M : ML H p a l n) (k : LamX.ExtN H H') : ML H' p a l n := by
  obtain ⟨zs, ds, q, h1, h2, h3, r⟩ := M.ex
  exact ⟨⟨zs, ds, q, k _ _ h1 (fun _ z => nomatch z), k _ _ h2 (fun _ z => nomatch z), k _ _ h3 (fun _ z => nomatch z), r⟩, M.ne, M.nn⟩
/-- the tables stay where only lists and dicts are written -/
theorem tabs_soft {T : List (Addr × Str)} {H H' : Hp} (t : LamX.Tabs T H) (e : ∀ b o, (∀ xs, o ≠ .lst xs) → (∀ kvs, o ≠ .dK kvs) → H b = some o → H' b = some o) : LamX.Tabs T H' := fun q hq => by
  obtain ⟨ps, h1, h2, h3⟩ := t q hq
  refine ⟨ps, e _ _ (fun _ z => nomatch z) (fun _ z => nomatch z) h1, h2, fun pos cv hcv => ?_⟩
  obtain ⟨c', rfl, hc⟩ := h3 pos cv hcv
  exact ⟨c', rfl, e _ _ (fun _ z => nomatch z) (fun _ z => nomatch z) hc⟩
/-- how it stands since -/
structure Since (T : List (Addr × Str)) (p a l : Addr) (n : Nat) (H H' : Hp) : Prop where
  e : ExtT p l H H'
  M : ML H' p a l n
  t : LamX.Tabs T H'
section
variable {T : List (Addr × Str)} {p a l : Addr} {n : Nat} {H H1 H2 : Hp}
theorem Since.refl (M : ML H p a l n) (t : LamX.Tabs T H) : Since T p a l n H H := ⟨fun _ _ _ _ _ e => e, M, t⟩
theorem Since.same (S : Since T p a l n H H1) (s : Same H1 H2) : Since T p a l n H H2 := ⟨S.e.trans (ExtT.ofL (ExtL.same s)), S.M.keep s, S.t.ext s⟩
theorem Since.extn (S : Since T p a l n H H1) (k : LamX.ExtN H1 H2) (t : LamX.Tabs T H2) : Since T p a l n H H2 := ⟨S.e.trans (ExtT.ofN k), S.M.keepN k, t⟩
theorem Since.extl {m : Nat} (S : Since T p a l n H H1) (M : ML H2 p a l m) (e : ExtL p l H1 H2) : Since T p a l m H H2 :=
  ⟨S.e.trans (ExtT.ofL e), M, tabs_soft S.t fun b o n1 n2 h => by
    obtain ⟨_, _, _, h1, _, h3, _⟩ := S.M.ex
    refine e b o (fun z => ?_) (fun z => ?_) h
    · subst z
      exact n2 _ (Option.some.inj (h.symm.trans h1))
    · subst z
      exact n1 _ (Option.some.inj (h.symm.trans h3))⟩
theorem Since.wr {L : Addr} {xs ys : List V} (S : Since T p a l n H H1) (M0 : ML H p a l n) (h0 : H L = none) (h1 : H1 L = some (.lst xs)) : Since T p a l n H (upd H1 L (.lst ys)) :=
  ⟨fun b o x y z e => (upd_ne (ne_of_none e h0)).trans (S.e b o x y z e), ML.wrN M0 h0 S.M, tabs_soft S.t fun b o n1 _ h => by
    refine (upd_ne fun z => ?_).trans h
    subst z
    exact n1 _ (Option.some.inj (h.symm.trans h1))⟩
theorem Since.tup (M0 : ML H p a l n) (S : Since T p a l n H H1) : ∀ b xs, H b = some (.tup xs) → H1 b = some (.tup xs) := fun b xs h => by
  obtain ⟨q1, q2⟩ := tup_off M0 h
  exact S.e _ _ q1 q2 (fun _ z => nomatch z) h
end
/-- a place is told to the catcher -/
theorem said_wrong {K : PySem.W.Frag} {CL : Nat → Addr} {RE : Addr} {H : Hp} {Q : VK} {i : Nat} {ns : List Nat} (R : SaidC K CL RE i) (hQ : ∀ (H' : Hp) (u q : Addr), Same H H' → H' u = some (.tup [.str (wordS i), .ref q]) → H' q = some (.tup (nats ns)) → Q (.ref u) H') :
    RWrong (CL i) (XSaid K CL RE Q) H ns := fun H' q d s hp hd => ⟨i, d, .ref q, R, rfl, rfl, hd, fun H'' u s' hu => hQ H'' u q (s.trans s') hu (s' _ _ hp)⟩
/-- a lambda handed to the catcher -/
theorem lam_go {K : PySem.W.Frag} {CL : Nat → Addr} {RE p a l : Addr} {T : List (Addr × Str)} {n : Nat} {H Hn : Hp} {t : XK → TE} {σ : L2.St} {Q : VK} (S : Since T p a l n H Hn)
    (good : ∀ (Hb : Hp) (R : VK), LamX.ExtN Hn Hb → Since T p a l n H Hb → (∀ v H', (∀ u, H' u = none → Q (.ref u) (upd H' u (.lst [v]))) → R v H') → t (XSaid K CL RE Q) σ Hb R) :
    LamX.tLam T (TTsaid K CL RE) t σ Hn Q :=
  ⟨S.t, fun Ha ea ta Hb R sb hR => good Hb R (ea.trans (LamX.ExtN.of sb)) ((S.extn ea ta).same sb) hR⟩
/-! ### things as data, away from the dice -/
mutual
inductive Da (p l : Addr) (H : Hp) : V → PyData → Prop
  | non : Da p l H .non .none
  | bl (b : Bool) : Da p l H (.bl b) (.bool b)
  | int (i : Int) : Da p l H (.int i) (.int i)
  | str (x : Str) : Da p l H (.str x) (.str x)
  | lst {a : Addr} {xs : List V} {ds : List PyData} : a ≠ p → a ≠ l → a ≠ sysModules → H a = some (.lst xs) → DaAll p l H xs ds → Da p l H (.ref a) (.list ds)
  | tup {a : Addr} {xs : List V} {ds : List PyData} : a ≠ p → a ≠ l → H a = some (.tup xs) → DaAll p l H xs ds → Da p l H (.ref a) (.tuple ds)
  | emp {a : Addr} : a ≠ p → a ≠ l → H a = some (.dK []) → Da p l H (.ref a) (.dict [])
inductive DaAll (p l : Addr) (H : Hp) : List V → List PyData → Prop
  | nil : DaAll p l H [] []
  | cons {v : V} {vs : List V} {d : PyData} {ds : List PyData} : Da p l H v d → DaAll p l H vs ds → DaAll p l H (v :: vs) (d :: ds)
end
mutual
theorem Da.extT {p l : Addr} {H H' : Hp} (e : ExtT p l H H') : ∀ (d : PyData) (v : V), Da p l H v d → Da p l H' v d
  | .none, _, h => by cases h; exact .non
  | .bool _, _, h => by cases h; exact .bl _
  | .int _, _, h => by cases h; exact .int _
  | .str _, _, h => by cases h; exact .str _
  | .list ds, _, h => by
    cases h with
    | lst a b c f g => exact .lst a b c (e _ _ a b (by intro _ z; cases z) f) (DaAll.extT e ds _ g)
  | .tuple ds, _, h => by
    cases h with
    | tup a b f g => exact .tup a b (e _ _ a b (by intro _ z; cases z) f) (DaAll.extT e ds _ g)
  | .dict _, _, h => by
    cases h with
    | emp a b f => exact .emp a b (e _ _ a b (by intro _ z; cases z) f)
theorem DaAll.extT {p l : Addr} {H H' : Hp} (e : ExtT p l H H') : ∀ (ds : List PyData) (vs : List V), DaAll p l H vs ds → DaAll p l H' vs ds
  | [], _, h => by cases h; exact .nil
  | d :: ds, _, h => by
    cases h with
    | cons a b => exact .cons (Da.extT e d _ a) (DaAll.extT e ds _ b)
end
mutual
theorem Da.q {p l : Addr} {H : Hp} : ∀ (d : PyData) (v : V), Da p l H v d → Dq H v d
  | .none, _, h => by cases h; exact .non
  | .bool _, _, h => by cases h; exact .bl _
  | .int _, _, h => by cases h; exact .int _
  | .str _, _, h => by cases h; exact .str _
  | .list ds, _, h => by
    cases h with
    | lst a b c f g => exact .lst c f (DaAll.q ds _ g)
  | .tuple ds, _, h => by
    cases h with
    | tup a b f g => exact .tup f (DaAll.q ds _ g)
  | .dict _, _, h => by
    cases h with
    | emp a b f => exact .emp f
theorem DaAll.q {p l : Addr} {H : Hp} : ∀ (ds : List PyData) (vs : List V), DaAll p l H vs ds → DqAll H vs ds
  | [], _, h => by cases h; exact .nil
  | d :: ds, _, h => by
    cases h with
    | cons a b => exact .cons (Da.q d _ a) (DaAll.q ds _ b)
end
theorem Da.tv {p l : Addr} {H : Hp} {v : V} {d : PyData} (h : Da p l H v d) : ∃ T, TV H v T := by
  cases h with
  | non => exact ⟨_, .non⟩
  | bl b => exact ⟨_, .bl b⟩
  | int i => exact ⟨_, .int i⟩
  | str x => exact ⟨_, .str x⟩
  | lst a b c f g => exact ⟨_, .lst f⟩
  | tup a b f g => exact ⟨_, .tup f⟩
  | emp a b f => exact ⟨_, .dct f⟩
section
variable {p l : Addr} {H : Hp}
theorem DaAll.len {vs : List V} {ds : List PyData} : DaAll p l H vs ds → vs.length = ds.length := by
  induction ds generalizing vs with
  | nil => intro h; cases h; rfl
  | cons d ds ih =>
    intro h
    cases h with
    | cons a b => exact congrArg (· + 1) (ih b)
theorem DaAll.app {vs ws : List V} {ds es : List PyData} (k : DaAll p l H ws es) : DaAll p l H vs ds → DaAll p l H (vs ++ ws) (ds ++ es) := by
  induction ds generalizing vs with
  | nil => intro h; cases h; exact k
  | cons d ds ih =>
    intro h
    cases h with
    | cons a b => exact .cons a (ih b)
theorem DaAll.take {vs : List V} {ds : List PyData} (n : Nat) : DaAll p l H vs ds → DaAll p l H (vs.take n) (ds.take n) := by
  induction ds generalizing vs n with
  | nil => intro h; cases h; rw [List.take_nil, List.take_nil]; exact .nil
  | cons d ds ih =>
    intro h
    cases h with
    | cons a b =>
      cases n with
      | zero => exact .nil
      | succ n => exact .cons a (ih n b)
theorem DaAll.drop {vs : List V} {ds : List PyData} (n : Nat) : DaAll p l H vs ds → DaAll p l H (vs.drop n) (ds.drop n) := by
  induction ds generalizing vs n with
  | nil => intro h; cases h; rw [List.drop_nil, List.drop_nil]; exact .nil
  | cons d ds ih =>
    intro h
    cases h with
    | cons a b =>
      cases n with
      | zero => exact .cons a b
      | succ n => exact ih n b
theorem DaAll.rev {vs : List V} {ds : List PyData} : DaAll p l H vs ds → DaAll p l H vs.reverse ds.reverse := by
  induction ds generalizing vs with
  | nil => intro h; cases h; exact .nil
  | cons d ds ih =>
    intro h
    cases h with
    | cons a b =>
      rw [List.reverse_cons, List.reverse_cons]
      exact DaAll.app (.cons a .nil) (ih b)
theorem DaAll.get {vs : List V} {ds : List PyData} {i : Nat} {v : V} : DaAll p l H vs ds → vs[i]? = some v → ∃ d, ds[i]? = some d ∧ Da p l H v d := by
  induction ds generalizing vs i with
  | nil => intro h e; cases h; simp at e
  | cons d ds ih =>
    intro h e
    cases h with
    | cons a b =>
      cases i with
      | zero =>
        cases e
        exact ⟨_, rfl, a⟩
      | succ i => exact ih b (by simpa using e)
theorem DaAll.got {vs : List V} {ds : List PyData} {i : Nat} {d : PyData} (h : DaAll p l H vs ds) (e : ds[i]? = some d) : ∃ v, vs[i]? = some v ∧ Da p l H v d := by
  have hi := (List.getElem?_eq_some_iff.mp e).1
  obtain ⟨d', e', h'⟩ := h.get (List.getElem?_eq_getElem (by rw [h.len]; exact hi))
  cases e.symm.trans e'
  exact ⟨_, List.getElem?_eq_getElem (by rw [h.len]; exact hi), h'⟩
theorem da_nats : ∀ ns : List Nat, DaAll p l H (nats ns) (ns.map fun x => PyData.int (x : Nat))
  | [] => .nil
  | _ :: ns => .cons (.int _) (da_nats ns)
end
/-! ### how large: what is shown -/
structure Fx (d : PyData) (k n : Nat) : Prop where
  sh : d.showable = true
  dp : d.depth ≤ k
  lf : d.leavesShort 40 = true
  bk : d.bulk ≤ n
structure FxA (ds : List PyData) (k n : Nat) : Prop where
  sh : PyData.showableAll ds = true
  dp : PyData.depthAll ds ≤ k
  lf : PyData.leavesShortAll 40 ds = true
  bk : PyData.bulkAll ds ≤ n
theorem FxA.nil {k n : Nat} : FxA [] k n := ⟨rfl, Nat.zero_le _, rfl, Nat.zero_le _⟩
theorem FxA.cons {d : PyData} {ds : List PyData} {k n m : Nat} (a : Fx d k n) (b : FxA ds k m) : FxA (d :: ds) k (n + 1 + m) := by
  refine ⟨?_, ?_, ?_, ?_⟩
  · show (d.showable && PyData.showableAll ds) = true
    rw [a.sh, b.sh]; rfl
  · show max d.depth (PyData.depthAll ds) ≤ k
    exact Nat.max_le.mpr ⟨a.dp, b.dp⟩
  · show (d.leavesShort 40 && PyData.leavesShortAll 40 ds) = true
    rw [a.lf, b.lf]; rfl
  · show d.bulk + 1 + PyData.bulkAll ds ≤ _
    have := a.bk
    have := b.bk
    omega
theorem FxA.tup {ds : List PyData} {k n : Nat} (a : FxA ds k n) : Fx (.tuple ds) (k + 1) n := ⟨a.sh, Nat.succ_le_succ a.dp, a.lf, a.bk⟩
theorem FxA.lst {ds : List PyData} {k n : Nat} (a : FxA ds k n) : Fx (.list ds) (k + 1) n := ⟨a.sh, Nat.succ_le_succ a.dp, a.lf, a.bk⟩
theorem Fx.up {d : PyData} {k j n m : Nat} (a : Fx d k n) (h : k ≤ j) (h2 : n ≤ m) : Fx d j m := ⟨a.sh, Nat.le_trans a.dp h, a.lf, Nat.le_trans a.bk h2⟩
/-- items of a size each -/
theorem fxA_all {k n : Nat} : ∀ {ds : List PyData}, (∀ d ∈ ds, Fx d k n) → FxA ds k ((n + 1) * ds.length)
  | [], _ => .nil
  | d :: ds, h => by
    have a := FxA.cons (h d (List.mem_cons_self ..)) (fxA_all fun e he => h e (List.mem_cons_of_mem _ he))
    refine ⟨a.sh, a.dp, a.lf, ?_⟩
    have b := a.bk
    rw [List.length_cons, Nat.mul_succ]
    omega
theorem Fx.short {d : PyData} {k n : Nat} (h : Fx d k n) (hn : n ≤ 10000) : d.shown.length ≤ 420040 := by
  have q := PyData.shown_le_bulk 40 (by decide) d h.lf
  have := h.bk
  omega
theorem rq_da {K : PySem.W.Frag} {p l : Addr} {H : Hp} {v : V} {d : PyData} {k n : Nat} {Q : VK} (h : Da p l H v d) (f : Fx d k n) (hk : k ≤ 16) (hn : n ≤ 10000) (q : Q (.str d.shown) H) : rReprQ K [v] H Q :=
  ⟨v, d, rfl, .inr (Da.q d v h), f.sh, Nat.le_trans f.dp hk, Nat.le_trans (f.short hn) (by decide), q⟩
/-! ### list(t), where a list stands that is not the modules' dict -/
section
variable {X : Cx}
def rListN (K : PySem.W.Frag) : List V → Hp → VK → Prop := fun xs H Q => ∃ p ys, xs = [.ref p] ∧ SqT K H p ys ∧ ∀ l, l ≠ sysModules → H l = none → Q (.ref l) (upd H l (.lst ys))
theorem call_listN : CallR X (.type "list") (rListN X.K) := by
  intro pins s σ H xs us Q I r h
  obtain ⟨p, ys, rfl, hq, q⟩ := h
  obtain ⟨u, rfl, rx⟩ := vals1 r
  cases rx
  have fin : ∀ (its : List Value), Vals ys its → ys.length ≤ sizeLine → ∀ (h' : Heap) (c' : Nat), (∀ b o', s.heap.get? b = some o' → h'.get? b = some o') →
      h'.get? s.heap.objs.size = some { cls := .type "list", dict := none, data := .seq its.toArray c', slots := #[] } → EP X pins σ Q (.ref s.heap.objs.size) { s with heap := h' } := fun its r' hz h' c' kp e =>
    ⟨.ref s.heap.objs.size, _, I.laid (t' := s.toks) kp (Nat.le_refl _) (show ObjOk X.prog X.w _ h' _ (.lst ys) from ⟨hz, its, c', r', e⟩), rfl, q _ (Nat.ne_of_gt I.big) (I.hok.fresh (Nat.le_refl _))⟩
  obtain ⟨its, r', pl, hz⟩ := I.tuple hq
  have hlen := r'.length
  obtain ⟨o, ho, hc, n, hd⟩ := pl
  exact call_list_seq p (.inr rfl) ho hc hd (fun h' c' kp e => fin its r' hz h' c' kp e) (by simp only [List.size_toArray] <;> omega)
/-! ### [a, ..] the same -/
def tLstN (t : TA) : TE := fun σ H Q => t σ H fun xs H1 => xs.length ≤ sizeLine ∧ ∀ p, p ≠ sysModules → H1 p = none → Q (.ref p) (upd H1 p (.lst xs))
theorem pe_lstN {es : List Expr} {t : TA} {pos : Pos} (h : PA X es t) : PE X (.List es pos) (tLstN t) := by
  refine ⟨fun pins s σ H Q I hq => ?_⟩
  refine wpAny_List_spliced (thn (h.run pos pins s σ H _ I hq) fun us s1 ⟨xs, H1, I1, r, z, q⟩ => ⟨by rw [← r.length]; exact z, ?_⟩)
  have hf : H1 s1.heap.objs.size = none := I1.hok.fresh (Nat.le_refl _)
  refine ⟨.ref s1.heap.objs.size, upd H1 s1.heap.objs.size (.lst xs), I1.laid (t' := s1.toks) (fun b u e => Heap.get?_push_of_some _ e) (Nat.le_refl _) ?_, rfl, q _ (Nat.ne_of_gt I1.big) hf⟩
  exact ⟨z, us, 0, r, Heap.get?_push_size _ rfl⟩
end
/-! ### the same in own words -/
theorem rq_of {K : PySem.W.Frag} {H : Hp} {xs : List V} {Q : VK} (h : rRepr K xs H Q) : rReprQ K xs H Q := by
  obtain ⟨a, d, e, hd, h1, h2, h3, h4, q⟩ := h
  exact ⟨.ref a, d, e, .inl ⟨hd, h2⟩, h1, h3, h4, q⟩
/-- a statement that does not end, then anything -/
theorem pss_stop {X : Cx} {st : Stmt} {rest : List Stmt} {t : TS} (h1 : PS X st t) : PSs X (st :: rest) (fun D σ H => t { D with nx := fun _ _ => False } σ H) := by
  refine ⟨fun pins s σ H D I h => ?_⟩
  refine wpAny_execs_cons (thn (h1.run pins s σ H { D with nx := fun _ _ => False } I h) fun f s1 q => ?_)
  cases f with
  | next =>
    obtain ⟨σ', H', I', q⟩ := q
    exact q.elim
  | ret v => exact q
  | brk => exact q
  | cont => exact q
/-! ### which items are turns -/
def pairOf (m : Nat) : PyData → PyData → Option (Nat × Nat)
  | .int a, .int b => if 0 ≤ a ∧ a < (m : Int) ∧ 0 ≤ b ∧ b < 3 then some (a.toNat, b.toNat) else none
  | _, _ => none
def twoOf (m : Nat) : List PyData → Option (Nat × Nat)
  | [x, y] => pairOf m x y
  | _ => none
def itemOf (m : Nat) : PyData → Option (Nat × Nat)
  | .tuple ds => twoOf m ds
  | _ => none
/-- what is no turn -/
def BadI (H : Hp) (v : V) (m : Nat) : Prop := NoPair H v ∨ ∃ (t : Addr) (a b : V), v = .ref t ∧ H t = some (.tup [a, b]) ∧ (∃ T, TV H a T) ∧ (∃ T, TV H b T) ∧ (belowV a (m : Nat) = false ∨ (belowV a (m : Nat) = true ∧ belowV b 3 = false))
theorem item_sort {p l : Addr} {H : Hp} {v : V} {d : PyData} {m : Nat} (h : Da p l H v d) : (∃ (t : Addr) (c z : Nat), v = .ref t ∧ itemOf m d = some (c, z) ∧ TAt H t m c z) ∨ (itemOf m d = none ∧ BadI H v m) := by
  have flat : (∀ t xs, v = .ref t → H t = some (.tup xs) → xs.length ≠ 2) → itemOf m d = none → (∃ (t : Addr) (c z : Nat), v = .ref t ∧ itemOf m d = some (c, z) ∧ TAt H t m c z) ∨ (itemOf m d = none ∧ BadI H v m) := fun h1 h2 => .inr ⟨h2, .inl ⟨h.tv, h1⟩⟩
  cases h with
  | non => exact flat (fun t xs e => by cases e) rfl
  | bl b => exact flat (fun t xs e => by cases e) rfl
  | int i => exact flat (fun t xs e => by cases e) rfl
  | str x => exact flat (fun t xs e => by cases e) rfl
  | lst a b c f g => exact flat (fun t xs e ht => by cases e; cases ht.symm.trans f) rfl
  | emp a b f => exact flat (fun t xs e ht => by cases e; cases ht.symm.trans f) rfl
  | @tup t xs ds a b f g =>
    have other : xs.length ≠ 2 → (∃ (t' : Addr) (c z : Nat), V.ref t = .ref t' ∧ itemOf m (.tuple ds) = some (c, z) ∧ TAt H t' m c z) ∨ (itemOf m (.tuple ds) = none ∧ BadI H (.ref t) m) := fun hl => by
      refine flat (fun t' xs' e ht => by cases e; cases ht.symm.trans f; exact hl) ?_
      rw [g.len] at hl
      match ds, hl with
      | [], _ => rfl
      | [_], _ => rfl
      | [_, _], hl => exact absurd rfl hl
      | _ :: _ :: _ :: _, _ => rfl
    match xs, ds, g, other, f with
    | [], _, _, other, _ => exact other (by intro z; cases z)
    | [_], _, _, other, _ => exact other (by intro z; cases z)
    | _ :: _ :: _ :: _, _, _, other, _ => exact other (by intro z; simp at z)
    | [x, y], _, .cons hx (.cons hy .nil), _, f =>
      have bad : (belowV x (m : Nat) = false ∨ (belowV x (m : Nat) = true ∧ belowV y 3 = false)) → ∀ {dx dy : PyData}, Da p l H x dx → Da p l H y dy → itemOf m (.tuple [dx, dy]) = none → (∃ (t' : Addr) (c z : Nat), V.ref t = .ref t' ∧ itemOf m (.tuple [dx, dy]) = some (c, z) ∧ TAt H t' m c z) ∨ (itemOf m (.tuple [dx, dy]) = none ∧ BadI H (.ref t) m) := fun hb {dx dy} h1 h2 h3 =>
        .inr ⟨h3, .inr ⟨t, x, y, rfl, f, h1.tv, h2.tv, hb⟩⟩
      cases hx with
      | int i =>
        cases hy with
        | int j =>
          by_cases hc : 0 ≤ i ∧ i < (m : Int) ∧ 0 ≤ j ∧ j < 3
          · refine .inl ⟨t, i.toNat, j.toNat, rfl, if_pos hc, ?_, by omega, by omega⟩
            rw [f]
            show some (HO.tup [V.int i, V.int j]) = some (HO.tup [V.int ((i.toNat : Nat) : Int), V.int ((j.toNat : Nat) : Int)])
            rw [show ((i.toNat : Nat) : Int) = i by omega, show ((j.toNat : Nat) : Int) = j by omega]
          · refine bad ?_ (.int i) (.int j) (if_neg hc)
            show (decide (0 ≤ i) && decide (i < (m : Int))) = false ∨ ((decide (0 ≤ i) && decide (i < (m : Int))) = true ∧ (decide (0 ≤ j) && decide (j < 3)) = false)
            simp only [Bool.and_eq_false_iff, Bool.and_eq_true, decide_eq_false_iff_not, decide_eq_true_eq]
            omega
        | _ =>
          refine bad ?_ (.int i) (by first | exact .non | exact .bl _ | exact .str _ | (constructor <;> assumption)) rfl
          cases hb : belowV (.int i) (m : Nat) with
          | false => exact .inl rfl
          | true => exact .inr ⟨rfl, rfl⟩
      | _ => exact bad (.inl rfl) (by first | exact .non | exact .bl _ | exact .str _ | (constructor <;> assumption)) hy rfl
end One
end P_DA

section P_CK
set_option linter.all false
set_option maxRecDepth 100000
set_option maxHeartbeats 16000000
namespace One
open PySem PySem.Spec PyProof.Rows L2
abbrev sFLd : Stmt := top 56
abbrev sCK : Stmt := top 58
abbrev nCK : List Str := ["yard", "setting", "lead", "rounds", "number", "turn"]
abbrev nFLd : List Str := ["yard", "setting", "fars", "lead", "rounds", "crossing", "way"]
theorem scCK : FnScope nCK ["yard", "setting", "lead"] (defScope sCK) := ⟨rfl, rfl, rfl, by decide +kernel, rfl, by decide +kernel, by decide +kernel⟩
theorem scFLd : FnScope nFLd ["yard", "setting"] (defScope sFLd) := ⟨rfl, rfl, rfl, by decide +kernel, rfl, by decide +kernel, by decide +kernel⟩
def spRO2 (C0 CS : Addr) : Sp := fun vs H Q E => ∃ (yv sv : V), vs = [yv, sv] ∧ (BadY C0 yv H E ∨ ∃ (y : Addr) (m : Nat) (ps : List (Nat × Nat)), yv = .ref y ∧ YAt H y m ps ∧ m ≤ 40 ∧ (BadW CS sv m H E ∨ ∃ (u : Addr) (ws : List Nat), sv = .ref u ∧ SetAt H u m ws ∧
  ∀ (H' : Hp) (r : Addr) (as : List Addr) (rs : List (Nat × Nat)), Same H H' → H' r = some (.tup (refs as)) → RsAt (nextE (far ps) (wayL ws)) H' as rs → Rounds (far ps) (wayL ws) m rs → Q (.ref r) H'))
def spMR2 (C0 CS : Addr) : Sp := fun vs H Q E => ∃ (yv sv : V), vs = [yv, sv] ∧ (BadY C0 yv H E ∨ ∃ (y : Addr) (m : Nat) (ps : List (Nat × Nat)), yv = .ref y ∧ YAt H y m ps ∧ m ≤ 40 ∧ (BadW CS sv m H E ∨ ∃ (u : Addr) (ws : List Nat), sv = .ref u ∧ SetAt H u m ws ∧
  ∀ (H' : Hp), Same H H' → Q (.int (Cn (far ps) m ws : Nat)) H'))
def spFR (C0 CS : Addr) : Sp := fun vs H Q E => ∃ (yv sv : V), vs = [yv, sv] ∧ (BadY C0 yv H E ∨ ∃ (y : Addr) (m : Nat) (ps : List (Nat × Nat)), yv = .ref y ∧ YAt H y m ps ∧ m ≤ 40 ∧ BadW CS sv m H E)
/-! ### what is told of a lead -/
def firstNone {α : Type} : List (Option α) → Nat → Option Nat
  | [], _ => none
  | none :: _, k => some k
  | some _ :: r, k => firstNone r (k + 1)
noncomputable def firstFail (F : Nat → Nat) (n : Nat) : List Nat → List (Nat × Nat) → Nat → Option Nat
  | _, [], _ => none
  | ws, t :: r, k => if Cn F n (ws.set t.1 t.2) + 1 = Cn F n ws then firstFail F n (ws.set t.1 t.2) r (k + 1) else some k
noncomputable def judgeL (F : Nat → Nat) (n : Nat) (ws : List Nat) (ds : List PyData) : Option (List Nat) :=
  if ds.length + 1 = Cn F n ws then (match firstNone (ds.map (itemOf n)) 0 with
    | some k => some [k]
    | none => (firstFail F n ws (ds.filterMap (itemOf n)) 0).map fun k => [k]) else some []
noncomputable def judge (F : Nat → Nat) (n : Nat) (ws : List Nat) : PyData → Option (List Nat)
  | .tuple ds => judgeL F n ws ds
  | _ => some []
theorem none_map {α : Type} : ∀ {its : List (Option α)} {k : Nat}, firstNone its k = none → ∀ {i : Nat} {x : Option α}, its[i]? = some x → ∃ y, x = some y
  | [], _, _, _, _, e => by simp at e
  | none :: _, _, h, _, _, _ => by cases h
  | some y :: r, k, h, i, x, e => by
    cases i with
    | zero =>
      cases e
      exact ⟨y, rfl⟩
    | succ i => exact none_map (its := r) (k := k + 1) h (by simpa using e)
theorem filter_len {α β : Type} {f : α → Option β} : ∀ {xs : List α}, (∀ {i : Nat} {x : Option β}, (xs.map f)[i]? = some x → ∃ y, x = some y) → (xs.filterMap f).map some = xs.map f
  | [], _ => rfl
  | a :: xs, h => by
    obtain ⟨y, e⟩ := h (i := 0) (x := f a) rfl
    have ih := filter_len (xs := xs) fun {i x} e => h (i := i + 1) (x := x) (by simpa using e)
    rw [List.filterMap_cons, e, List.map_cons, List.map_cons, ih, e]
def spCK (C0 CS CL : Addr) : Sp := fun vs H Q E => ∃ (yv sv lv : V) (p l : Addr) (d : PyData), vs = [yv, sv, lv] ∧ Da p l H lv d ∧ (BadY C0 yv H E ∨ ∃ (y : Addr) (m : Nat) (ps : List (Nat × Nat)), yv = .ref y ∧ YAt H y m ps ∧ m ≤ 40 ∧ (BadW CS sv m H E ∨ ∃ (u : Addr) (ws : List Nat), sv = .ref u ∧ SetAt H u m ws ∧
  (judge (far ps) m ws d = none → ∀ H', Same H H' → Q .non H') ∧ ∀ pl, judge (far ps) m ws d = some pl → RWrong CL E H pl))
theorem NoPair.toX {H H1 : Hp} {v : V} {m : Nat} (h : BadI H v m) (s : Same H H1) : BadI H1 v m := by
  rcases h with h | ⟨t, a, b, e, ht, ⟨Ta, ha⟩, ⟨Tb, hb⟩, h⟩
  · exact .inl (h.to s)
  · exact .inr ⟨t, a, b, e, s _ _ ht, ⟨Ta, ha.mono s⟩, ⟨Tb, hb.mono s⟩, h⟩
section
variable {P : Program} {w : World} {K : PySem.W.Frag} {mg : Str → Option Value} {base : Heap} {C0 CS CT CL f7 : Addr} {x7 : Stmt}
theorem ok_ro2 {f fN fR fF : Addr} {fd fdN fdR fdF : FuncData} (F : Fun K "rounds_of" "rounds_of" sRO f fd) (N : Cal K mg "need_setting" fN fdN ["yard", "thing"]) (GN : FnOk P w K mg base (L2.CX P w) 7 fN fdN ["yard", "thing"] (spNS2 C0 CS))
    (Rb : Cal K mg "rounds_by_fars" fR fdR ["fars", "setting"]) (GR : FnOk P w K mg base CX0 4 fR fdR ["fars", "setting"] spRB) (Fa : Cal K mg "fars_of_lines" fF fdF ["lines"]) (GF : FnOk P w K mg base CX0 1 fF fdF ["lines"] spFars) : FnOk P w K mg base (L2.CX P w) 8 f fd ["yard", "setting"] (spRO2 C0 CS) := by
  refine F.okX scRO (fun vs H Q E h => ?_) (fun cdv A outer s H vs Q E hr h => ?_)
  · obtain ⟨yv, sv, rfl, _⟩ := h
    rfl
  · obtain ⟨yv, sv, rfl, h⟩ := h
    have nd := scRO.nd
    have hr7 : Room 7 _ := hr
    have hr4 : Room 4 _ := hr.mono (by decide)
    have hr1 : Room 1 _ := hr.mono (by decide)
    refine ⟨_, pss_cons (ps_expr (pe_call GN hr7 rfl N.g N.kp N.b .nil (passes_call (takes_of rfl rfl rfl rfl) (fun _ _ _ _ h => h)) (pa_cons (pv 0) (pa_cons (pv 1) pa_nil))))
      (pss_one (ps_ret (pe_call GR hr4 rfl Rb.g Rb.kp Rb.b .nil pass0 (pa_cons (pe_call GF hr1 rfl Fa.g Fa.kp Fa.b .nil pass0 (pa_cons (pv 0) pa_nil)) (pa_cons (pv 1) pa_nil))))), ?_⟩
    rcases h with hb | ⟨y, m, ps, rfl, hY, h40, h⟩
    · exact ⟨_, rfl, _, rfl, yv, sv, rfl, .inl hb⟩
    rcases h with ⟨⟨T, hv⟩, hb⟩ | ⟨u, ws, rfl, hS, k⟩
    · exact ⟨_, rfl, _, rfl, .ref y, sv, rfl, .inr ⟨y, sv, T, m, ps, rfl, hY, h40, hv, hb.mono fun _ _ h => h.elim⟩⟩
    obtain ⟨Y, as, ht, hP⟩ := id hY
    refine ⟨_, rfl, _, rfl, .ref y, .ref u, rfl, .inr ⟨y, .ref u, "tuple", m, ps, rfl, hY, h40, .tup hS.here, look_good hS fun H1 s1 => ?_⟩⟩
    refine ⟨_, rfl, y, m, as, ps, rfl, s1 _ _ ht, hP.mono (sameT s1), Y.lines, by omega, fun H2 L s2 _ hL => ?_⟩
    exact ⟨_, rfl, L, u, far ps, m, ws, rfl, hL, hS.mono (sameT (s1.trans s2)), far_inv Y.lines, by omega, fun H3 r bs rs s3 hu hR hr' => k H3 r bs rs (s1.trans (s2.trans s3)) hu hR hr'⟩
theorem ok_mr2 {f fO : Addr} {fd fdO : FuncData} (F : Fun K "many_rounds" "many_rounds" sMR f fd) (T : TB mg) (O : Cal K mg "rounds_of" fO fdO ["yard", "setting"]) (GO : FnOk P w K mg base (L2.CX P w) 8 fO fdO ["yard", "setting"] (spRO2 C0 CS)) : FnOk P w K mg base (L2.CX P w) 9 f fd ["yard", "setting"] (spMR2 C0 CS) := by
  refine F.okX scMR (fun vs H Q E h => ?_) (fun cdv A outer s H vs Q E hr h => ?_)
  · obtain ⟨yv, sv, rfl, _⟩ := h
    rfl
  · obtain ⟨yv, sv, rfl, h⟩ := h
    have hr8 : Room 8 _ := hr
    refine ⟨_, pss_one (ps_ret (pe_callB call_len_seq (by rfl) T.len PySem.boot_len (pa_cons (pe_call GO hr8 rfl O.g O.kp O.b .nil (passes_call (takes_of rfl rfl rfl rfl) (fun _ _ _ _ h => h)) (pa_cons (pv 0) (pa_cons (pv 1) pa_nil))) pa_nil))), ?_⟩
    rcases h with hb | ⟨y, m, ps, rfl, hY, h40, h⟩
    · exact ⟨_, rfl, _, rfl, yv, sv, rfl, .inl hb⟩
    rcases h with hb | ⟨u, ws, rfl, hS, k⟩
    · exact ⟨_, rfl, _, rfl, .ref y, sv, rfl, .inr ⟨y, m, ps, rfl, hY, h40, .inl hb⟩⟩
    refine ⟨_, rfl, _, rfl, .ref y, .ref u, rfl, .inr ⟨y, m, ps, rfl, hY, h40, .inr ⟨u, ws, rfl, hS, fun H1 r as rs s1 hr' hR R => ?_⟩⟩⟩
    refine ⟨r, _, rfl, .inr (SqT.of hr'), ?_⟩
    rw [List.length_map, hR.len, ← Cn_eq (far_inv hY.1.lines) hS.ok R]
    exact k _ s1
theorem ok_fr {f fN : Addr} {fd fdN : FuncData} (F : Fun K "first_lead" "first_lead" sFLd f fd) (N : Cal K mg "need_setting" fN fdN ["yard", "thing"]) (GN : FnOk P w K mg base (L2.CX P w) 7 fN fdN ["yard", "thing"] (spNS2 C0 CS)) : FnOk P w K mg base (L2.CX P w) 8 f fd ["yard", "setting"] (spFR C0 CS) := by
  refine F.okX scFLd (fun vs H Q E h => ?_) (fun cdv A outer s H vs Q E hr h => ?_)
  · obtain ⟨yv, sv, rfl, _⟩ := h
    rfl
  · obtain ⟨yv, sv, rfl, h⟩ := h
    have hr7 : Room 7 _ := hr
    refine ⟨_, pss_stop (ps_expr (pe_call GN hr7 rfl N.g N.kp N.b .nil (passes_call (takes_of rfl rfl rfl rfl) (fun _ _ _ _ h => h)) (pa_cons (pv 0) (pa_cons (pv 1) pa_nil)))), ?_⟩
    rcases h with hb | ⟨y, m, ps, rfl, hY, h40, ⟨T, hv⟩, hb⟩
    · exact ⟨_, rfl, _, rfl, yv, sv, rfl, .inl hb⟩
    · exact ⟨_, rfl, _, rfl, .ref y, sv, rfl, .inr ⟨y, sv, T, m, ps, rfl, hY, h40, hv, hb.mono fun _ _ h => h.elim⟩⟩
theorem ok_ck2 {f fM fF fH fT : Addr} {fd dM dF dH dT : FuncData} (F : Fun K "check_lead" "check_lead" sCK f fd) (T : TB mg) (T7 : OwnTxt P K x7 "place" CL f7) (O7 : OwnCls K mg "BadLead" CL f7) (noS : mg "super" = none) (Mr : Cal K mg "many_rounds" fM dM ["yard", "setting"]) (GM : FnOk P w K mg base (L2.CX P w) 9 fM dM ["yard", "setting"] (spMR2 C0 CS))
    (Tf : Cal K mg "turn_fault" fF dF ["thing", "many"]) (GF : FnOk P w K mg base CX0 3 fF dF ["thing", "many"] spTF) (Ch : Cal K mg "change" fH dH ["yard", "setting", "turn"]) (GH : FnOk P w K mg base (L2.CX P w) 10 fH dH ["yard", "setting", "turn"] (spCH C0 CS CT))
    (Tu : Cal K mg "turned" fT dT ["yard", "setting", "turn"]) (GT : FnOk P w K mg base (L2.CX P w) 8 fT dT ["yard", "setting", "turn"] (spTU C0 CS CT)) : FnOk P w K mg base (L2.CX P w) 11 f fd ["yard", "setting", "lead"] (spCK C0 CS CL) := by
  refine F.okX scCK (fun vs H Q E h => ?_) (fun cdv A outer s H vs Q E hr h => ?_)
  · obtain ⟨yv, sv, lv, p, l, d, rfl, _⟩ := h
    rfl
  · obtain ⟨yv, sv, lv, p, l, d, rfl, hd, h⟩ := h
    have nd := scCK.nd
    have hr10 : Room 10 _ := hr
    have hr9 : Room 9 _ := hr.mono (by decide)
    have hr8 : Room 8 _ := hr.mono (by decide)
    have hr3 : Room 3 _ := hr.mono (by decide)
    refine ⟨_, pss_cons (ps_set (i := 3) nd rfl (Or.inl rfl) (pe_call GM hr9 rfl Mr.g Mr.kp Mr.b .nil (passes_call (takes_of rfl rfl rfl rfl) (fun _ _ _ _ h => h)) (pa_cons (pv 0) (pa_cons (pv 1) pa_nil))))
      (pss_cons (ps_if (PW.pt (pw_or (pt_not (pt_val (pe_callB call_isi (by rfl) T.isinstance boot_isinstance (pa_cons (pv 2) (pa_cons (pe_bltn (v := .ty "tuple") (by rfl) T.tuple boot_tuple rfl) pa_nil))))) (pw_or1 (pt_cmpR op_ne (pe_callB call_len_seq (by rfl) T.len PySem.boot_len (pa_cons (pv 2) pa_nil)) (pe_op op_sub (pv 3) pe_int) (nomark _))))) (pss_one (ps_raiseX rfl (Or.inl rfl) T7 O7 noS hr (takes_of rfl rfl rfl rfl) (pa_cons (pe_tup pa_nil) pa_nil) (by rfl))) pss_nil)
      (pss_cons (ps_for (passes_of rfl) rfl (pi_enumT (by rfl) T.enumerate (pa_cons (pv 2) pa_nil)) (pg_tup rfl (pgs_cons (pg_name (i := 4) nd rfl (Or.inl rfl)) (pgs_cons (pg_name (i := 5) nd rfl (Or.inl rfl)) pgs_nil)))
        (pss_one (ps_if (pt_cmpR op_notN (pe_call GF hr3 rfl Tf.g Tf.kp Tf.b .nil pass0 (pa_cons (pv 5) (pa_cons (pe_callB call_len_seq (by rfl) T.len PySem.boot_len (pa_cons (pv 1) pa_nil)) pa_nil))) pe_non (nomark _)) (pss_one (ps_raiseX rfl (Or.inl rfl) T7 O7 noS hr (takes_of rfl rfl rfl rfl) (pa_cons (pe_tup (pa_cons (pv 4) pa_nil)) pa_nil) (by rfl))) pss_nil)))
      (pss_one (ps_for (passes_of rfl) rfl (pi_enumT (by rfl) T.enumerate (pa_cons (pv 2) pa_nil)) (pg_tup rfl (pgs_cons (pg_name (i := 4) nd rfl (Or.inl rfl)) (pgs_cons (pg_name (i := 5) nd rfl (Or.inl rfl)) pgs_nil)))
        (pss_cons (ps_if (pt_cmpR op_ne (pe_call GH hr10 rfl Ch.g Ch.kp Ch.b .nil (passes_call (takes_of rfl rfl rfl rfl) (fun _ _ _ _ h => h)) (pa_cons (pv 0) (pa_cons (pv 1) (pa_cons (pv 5) pa_nil)))) (pe_un un_neg pe_int) (nomark _)) (pss_one (ps_raiseX rfl (Or.inl rfl) T7 O7 noS hr (takes_of rfl rfl rfl rfl) (pa_cons (pe_tup (pa_cons (pv 4) pa_nil)) pa_nil) (by rfl))) pss_nil)
      (pss_one (ps_set (i := 1) nd rfl (Or.inl rfl) (pe_call GT hr8 rfl Tu.g Tu.kp Tu.b .nil (passes_call (takes_of rfl rfl rfl rfl) (fun _ _ _ _ h => h)) (pa_cons (pv 0) (pa_cons (pv 1) (pa_cons (pv 5) pa_nil))))))))))), ?_⟩
    rcases h with hb | ⟨y, m, ps, rfl, hY, h40, h⟩
    · exact ⟨_, rfl, _, rfl, yv, sv, rfl, .inl hb⟩
    rcases h with hb | ⟨u, ws, rfl, hS, kg, kb⟩
    · exact ⟨_, rfl, _, rfl, .ref y, sv, rfl, .inr ⟨y, m, ps, rfl, hY, h40, .inl hb⟩⟩
    refine ⟨_, rfl, _, rfl, .ref y, .ref u, rfl, .inr ⟨y, m, ps, rfl, hY, h40, .inr ⟨u, ws, rfl, hS, fun H1 s1 => ?_⟩⟩⟩
    have hd1 := Da.extT (ExtT.ofS s1) d lv hd
    have I := far_inv hY.1.lines
    -- it is refused, at a place
    have out : ∀ {H' : Hp} {q : Addr} {pl : List Nat}, judge (far ps) m ws d = some pl → Same H H' → H' q = some (.tup (nats pl)) → ∀ dd, H' dd = none → E (.ref CL) (some dd) (upd H' dd (.xd [("place", .ref q)])) := fun {H' q pl} hj s' hq dd hdd =>
      kb pl hj _ q dd (s'.trans (Same.new hdd)) ((Same.new hdd) _ _ hq) upd_same
    have kind : (∃ (t : Addr) (xs : List V) (ds : List PyData), lv = .ref t ∧ H1 t = some (.tup xs) ∧ d = .tuple ds ∧ DaAll p l H1 xs ds) ∨ ∃ Tt, TV H1 lv Tt ∧ isTup Tt = false ∧ judge (far ps) m ws d = some [] := by
      cases hd1 with
      | non => exact .inr ⟨_, .non, by decide, rfl⟩
      | bl b => exact .inr ⟨_, .bl b, by decide, rfl⟩
      | int i => exact .inr ⟨_, .int i, by decide, rfl⟩
      | str x => exact .inr ⟨_, .str x, by decide, rfl⟩
      | lst a b c f g => exact .inr ⟨_, .lst f, by decide, rfl⟩
      | emp a b f => exact .inr ⟨_, .dct f, by decide, rfl⟩
      | tup a b f g => exact .inl ⟨_, _, _, rfl, f, rfl, g⟩
    rcases kind with ⟨t, xs, ds, rfl, ht, rfl, hds⟩ | ⟨Tt, hv, hT, hj⟩
    · refine ⟨_, rfl, _, _, _, _, _, rfl, .ty _, (TV.tup ht).tyx, (TV.tup ht).kTup, _, rfl, ?_⟩
      refine iteF ⟨_, rfl, t, _, rfl, .inr (SqT.of ht), _, rfl, _, _, rfl, rfl, rfl, _, rfl, ?_⟩
      have hle := hds.len
      refine ite2 (fun hb => ?_) (fun hb => ?_)
      · have hb : (!decide (V.int ((xs.length : Nat) : Int) = V.int (((Cn (far ps) m ws : Nat) : Int) - 1))) = true := hb
        have hj : judge (far ps) m ws (.tuple ds) = some [] := if_neg fun z => by
          have : decide (V.int ((xs.length : Nat) : Int) = V.int (((Cn (far ps) m ws : Nat) : Int) - 1)) = true := decide_eq_true (congrArg V.int (by omega))
          rw [this] at hb
          cases hb
        exact ⟨Nat.zero_le _, fun q hq => ⟨_, rfl, .tup [] (SqT.of upd_same) (Nat.zero_le _) (fun n h => absurd h (by simp)), fun dd hdd => out hj (s1.trans (Same.new hq)) upd_same dd hdd⟩⟩
      · have hb : ¬ (!decide (V.int ((xs.length : Nat) : Int) = V.int (((Cn (far ps) m ws : Nat) : Int) - 1))) = true := hb
        have hlen : ds.length + 1 = Cn (far ps) m ws := by
          have e : V.int ((xs.length : Nat) : Int) = V.int (((Cn (far ps) m ws : Nat) : Int) - 1) := by
            refine Classical.byContradiction fun z => hb ?_
            rw [decide_eq_false z]
            rfl
          have := V.int.inj e
          omega
        have jl : ∀ {x : Option (List Nat)}, judge (far ps) m ws (.tuple ds) = x ↔ (match firstNone (ds.map (itemOf m)) 0 with
            | some k => some [k]
            | none => (firstFail (far ps) m ws (ds.filterMap (itemOf m)) 0).map fun k => [k]) = x := by
          intro x
          show judgeL (far ps) m ws ds = x ↔ _
          unfold judgeL
          rw [if_pos hlen]
        have c160 : Cn (far ps) m ws ≤ 160 := by
          obtain ⟨rs, R, e⟩ := Cn_rs I hS.ok
          have := (rounds_small I hS.ways R).1
          omega
        refine ⟨_, rfl, t, _, rfl, SqT.of ht, ?_⟩
        refine for_it (walk_enumT (K := K) (a := t) (xs := xs)) (fun i σ H' => ∃ v4 v5 : Option V, σ = [some (.ref y), some (.ref u), some (.ref t), some (.int (Cn (far ps) m ws : Nat)), v4, v5] ∧ Same H1 H' ∧ firstNone (ds.map (itemOf m)) 0 = firstNone ((ds.map (itemOf m)).drop i) i) ⟨none, none, rfl, Same.refl H1, rfl⟩ (fun i σ H' _ ⟨_, _, _, s, _⟩ => SqT.of (s _ _ ht)) ?_ ?_
        · rintro i x σ H3 H2 hi ⟨v4, v5, rfl, s2, hf⟩ ⟨q, x', y', rfl, hq, rfl, ex, ey⟩
          cases ex
          have ey : xs[i]? = some y' := ey
          obtain ⟨e, he, hde⟩ := hds.get ey
          have s3 := Same.new (o := .tup [V.int (i : Nat), y']) hq
          have s13 := s2.trans s3
          refine ⟨q, _, rfl, SqT.of upd_same, rfl, _, _, rfl, _, _, rfl, rfl, ?_⟩
          have hS3 := hS.mono (sameT (s1.trans s13))
          have hd3 := Da.extT (ExtT.ofS s13) _ _ hde
          have dr : (ds.map (itemOf m)).drop i = itemOf m e :: (ds.map (itemOf m)).drop (i + 1) := by
            have hil : i < (ds.map (itemOf m)).length := by rw [List.length_map]; exact (List.getElem?_eq_some_iff.mp he).1
            rw [List.drop_eq_getElem_cons hil]
            congr 1
            have : (ds.map (itemOf m))[i]? = some (itemOf m e) := by rw [List.getElem?_map, he]; rfl
            rw [List.getElem?_eq_getElem hil] at this
            exact Option.some.inj this
          have ln : (nats ws).length = m := (List.length_map _).trans hS.len
          have i1000 : i < 1000 := by
            have := (List.getElem?_eq_some_iff.mp he).1
            omega
          refine ⟨_, rfl, _, rfl, u, _, rfl, .inr (SqT.of hS3.here), ?_⟩
          rw [ln]
          have bad : itemOf m e = none → ∀ {H' : Hp}, Same H H' → ∀ (q2 : Addr), H' q2 = none → ∀ dd, (upd H' q2 (.tup [V.int ((i : Nat) : Int)])) dd = none → E (.ref CL) (some dd) (upd (upd H' q2 (.tup [V.int ((i : Nat) : Int)])) dd (.xd [("place", .ref q2)])) := fun hn {H'} s' q2 hq2 dd hdd => by
            rw [hn] at dr
            have hj : judge (far ps) m ws (.tuple ds) = some [i] := jl.mpr (by rw [hf, dr]; rfl)
            exact out hj (s'.trans (Same.new hq2)) upd_same dd hdd
          rcases item_sort (m := m) hd3 with ⟨t', c, z, rfl, hit, hTT⟩ | ⟨hn, hB⟩
          · have g0 := below_nat hTT.2.1
            have g1 : belowV (.int (z : Nat)) 3 = true := below_nat (m := 3) hTT.2.2
            refine ⟨_, m, rfl, .inr ⟨t', .int (c : Nat), .int (z : Nat), rfl, hTT.1, ⟨_, .int _⟩, ⟨_, .int _⟩, fun h => (by rw [g0] at h; cases h), fun _ h => (by rw [g1] at h; cases h), fun _ _ => ⟨rfl, _, rfl, ?_⟩⟩⟩
            refine iteF ⟨_, _, rfl, s13, ?_⟩
            rw [hf, dr, hit]
            rfl
          · have fin : ∀ (H' : Hp) (pl : Addr), Same (upd H3 q (.tup [V.int (i : Nat), y'])) H' → Same H H' := fun H' pl s' => s1.trans (s13.trans s')
            have go : ∀ (H' : Hp), Same (upd H3 q (.tup [V.int (i : Nat), y'])) H' → ∀ (q2 : Addr), H' q2 = none → ∀ dd, (upd H' q2 (.tup [V.int ((i : Nat) : Int)])) dd = none → E (.ref CL) (some dd) (upd (upd H' q2 (.tup [V.int ((i : Nat) : Int)])) dd (.xd [("place", .ref q2)])) := fun H' s' q2 hq2 dd hdd => bad hn (s1.trans (s13.trans s')) q2 hq2 dd hdd
            have sm : ∀ n ∈ [i], n < 1000 := fun n h => by
              rw [List.mem_singleton.mp h]
              exact i1000
            rcases hB with hN | ⟨t', a, b, rfl, hab, ha, hb', hbad⟩
            · refine ⟨y', m, rfl, .inl ⟨hN, fun H' pl s' hp => ⟨rfl, _, rfl, iteT ?_⟩⟩⟩
              exact ⟨_, rfl, (by show 1 ≤ sizeLine; decide), fun q2 hq2 => ⟨_, rfl, .tup [i] (SqT.of upd_same) (by show 1 ≤ 100; decide) sm, fun dd hdd => go H' s' q2 hq2 dd hdd⟩⟩
            · refine ⟨_, m, rfl, .inr ⟨t', a, b, rfl, hab, ha, hb', fun h0 H' pl s' hp => ⟨rfl, _, rfl, iteT ?_⟩, fun h0 h1 H' pl s' hp => ⟨rfl, _, rfl, iteT ?_⟩, fun h0 h1 => ?_⟩⟩
              · exact ⟨_, rfl, (by show 1 ≤ sizeLine; decide), fun q2 hq2 => ⟨_, rfl, .tup [i] (SqT.of upd_same) (by show 1 ≤ 100; decide) sm, fun dd hdd => go H' s' q2 hq2 dd hdd⟩⟩
              · exact ⟨_, rfl, (by show 1 ≤ sizeLine; decide), fun q2 hq2 => ⟨_, rfl, .tup [i] (SqT.of upd_same) (by show 1 ≤ 100; decide) sm, fun dd hdd => go H' s' q2 hq2 dd hdd⟩⟩
              · exfalso
                rcases hbad with z | ⟨_, z⟩
                · rw [h0] at z; cases z
                · rw [h1] at z; cases z
        · rintro σ H2 ⟨v4, v5, rfl, s2, hf⟩
          have hf : firstNone (ds.map (itemOf m)) 0 = none := by
            rw [hf, List.drop_of_length_le (by rw [List.length_map, hle]; exact Nat.le_refl _)]
            rfl
          have hts := filter_len (f := itemOf m) (xs := ds) fun {i x} e => none_map hf e
          have ht2 := s2 _ _ ht
          have jl2 : ∀ {x : Option (List Nat)}, ((firstFail (far ps) m ws (ds.filterMap (itemOf m)) 0).map fun k => [k]) = x → judge (far ps) m ws (.tuple ds) = x := fun {x} e => jl.mpr (by rw [hf]; exact e)
          generalize ds.filterMap (itemOf m) = ts at hts jl2
          refine ⟨_, rfl, t, _, rfl, SqT.of ht2, ?_⟩
          refine for_it (walk_enumT (K := K) (a := t) (xs := xs)) (fun i σ H' => ∃ (ui : Addr) (wi : List Nat) (v4 v5 : Option V), σ = [some (.ref y), some (.ref ui), some (.ref t), some (.int (Cn (far ps) m ws : Nat)), v4, v5] ∧ Same H1 H' ∧ SetAt H' ui m wi ∧ firstFail (far ps) m ws ts 0 = firstFail (far ps) m wi (ts.drop i) i)
            ⟨u, ws, _, _, rfl, s2, hS.mono (sameT (s1.trans s2)), rfl⟩ (fun i σ H' _ ⟨_, _, _, _, _, s, _⟩ => SqT.of (s _ _ ht)) ?_ ?_
          · rintro i x σ H4 H3 hi ⟨ui, wi, v4, v5, rfl, s3, hSi, hff⟩ ⟨q, x', y', rfl, hq, rfl, ex, ey⟩
            cases ex
            have ey : xs[i]? = some y' := ey
            obtain ⟨e, he, hde⟩ := hds.get ey
            have s4 := Same.new (o := .tup [V.int (i : Nat), y']) hq
            have s14 := s3.trans s4
            refine ⟨q, _, rfl, SqT.of upd_same, rfl, _, _, rfl, _, _, rfl, rfl, ?_⟩
            have hSi4 := hSi.mono (sameT s4)
            have hd4 := Da.extT (ExtT.ofS s14) _ _ hde
            have hY4 := hY.mono (sameT (s1.trans s14))
            have i1000 : i < 1000 := by
              have := (List.getElem?_eq_some_iff.mp he).1
              omega
            have eit : (ts.map some)[i]? = some (itemOf m e) := by rw [hts, List.getElem?_map, he]; rfl
            obtain ⟨tz, htz, ez⟩ : ∃ tz, ts[i]? = some tz ∧ itemOf m e = some tz := by
              rw [List.getElem?_map] at eit
              cases h : ts[i]? with
              | none => rw [h] at eit; cases eit
              | some tz => rw [h] at eit; exact ⟨tz, rfl, (Option.some.inj eit).symm⟩
            have dr : ts.drop i = tz :: ts.drop (i + 1) := by
              have hil := (List.getElem?_eq_some_iff.mp htz).1
              rw [List.drop_eq_getElem_cons hil]
              congr 1
              rw [List.getElem?_eq_getElem hil] at htz
              exact Option.some.inj htz
            rcases item_sort (m := m) hd4 with ⟨t', c, z, rfl, hit, hTT⟩ | ⟨hn, hB⟩
            · rw [hit] at ez
              cases ez
              refine ⟨_, rfl, _, rfl, _, rfl, .ref y, .ref ui, .ref t', rfl, .inr ⟨y, m, ps, rfl, hY4, h40, .inr ⟨ui, wi, rfl, hSi4, .inr ⟨t', c, z, rfl, hTT, fun H5 s5 => ?_⟩⟩⟩⟩
              refine ⟨_, rfl, rfl, _, rfl, ?_⟩
              refine ite2 (fun hb => ?_) (fun hb => ?_)
              · have hb : (!decide (V.int (((Cn (far ps) m (wi.set c z) : Nat) : Int) - ((Cn (far ps) m wi : Nat) : Int)) = V.int (-1))) = true := hb
                have hne : ¬ Cn (far ps) m (wi.set c z) + 1 = Cn (far ps) m wi := fun z' => by
                  have : decide (V.int (((Cn (far ps) m (wi.set c z) : Nat) : Int) - ((Cn (far ps) m wi : Nat) : Int)) = V.int (-1)) = true := decide_eq_true (congrArg V.int (by omega))
                  rw [this] at hb
                  cases hb
                have hj : judge (far ps) m ws (.tuple ds) = some [i] := jl2 (by
                  rw [hff, dr]
                  show (if Cn (far ps) m (wi.set c z) + 1 = Cn (far ps) m wi then _ else some i).map _ = _
                  rw [if_neg hne]
                  rfl)
                have sm : ∀ n ∈ [i], n < 1000 := fun n h => by
                  rw [List.mem_singleton.mp h]
                  exact i1000
                exact ⟨_, rfl, (by show 1 ≤ sizeLine; decide), fun q2 hq2 => ⟨_, rfl, .tup [i] (SqT.of upd_same) (by show 1 ≤ 100; decide) sm, fun dd hdd => out hj ((s1.trans (s14.trans s5)).trans (Same.new hq2)) upd_same dd hdd⟩⟩
              · have hb : ¬ (!decide (V.int (((Cn (far ps) m (wi.set c z) : Nat) : Int) - ((Cn (far ps) m wi : Nat) : Int)) = V.int (-1))) = true := hb
                have heq : Cn (far ps) m (wi.set c z) + 1 = Cn (far ps) m wi := by
                  have e : V.int (((Cn (far ps) m (wi.set c z) : Nat) : Int) - ((Cn (far ps) m wi : Nat) : Int)) = V.int (-1) := by
                    refine Classical.byContradiction fun z' => hb ?_
                    rw [decide_eq_false z']
                    rfl
                  have := V.int.inj e
                  omega
                refine ⟨_, rfl, _, rfl, _, rfl, .ref y, .ref ui, .ref t', rfl, .inr ⟨y, m, ps, rfl, hY4.mono (sameT s5), h40, .inr ⟨ui, wi, rfl, hSi4.mono (sameT s5), .inr ⟨t', c, z, rfl, hTT.mono s5, fun H6 q6 s6 hq6 => ?_⟩⟩⟩⟩
                refine ⟨q6, wi.set c z, _, _, rfl, s14.trans (s5.trans s6), hq6, ?_⟩
                rw [hff, dr]
                show (if Cn (far ps) m (wi.set c z) + 1 = Cn (far ps) m wi then _ else some i) = _
                rw [if_pos heq]
            · rw [hn] at ez
              cases ez
          · rintro σ H3 ⟨ui, wi, v4, v5, rfl, s3, hSi, hff⟩
            refine kg (jl2 ?_) _ (s1.trans s3)
            have : ts.length = ds.length := by
              have := congrArg List.length hts
              rw [List.length_map, List.length_map] at this
              exact this
            rw [hff, List.drop_of_length_le (by omega)]
            rfl
    · refine ⟨_, rfl, _, _, _, _, _, rfl, .ty _, hv.tyx, hv.kTup, _, rfl, ?_⟩
      rw [hT]
      exact iteT (iteT ⟨Nat.zero_le _, fun q hq => ⟨_, rfl, .tup [] (SqT.of upd_same) (Nat.zero_le _) (fun n h => absurd h (by simp)), fun dd hdd => out hj (s1.trans (Same.new hq)) upd_same dd hdd⟩⟩)
end
end One
end P_CK

section P_U5
set_option linter.all false
set_option maxRecDepth 100000
set_option maxHeartbeats 16000000
namespace One
open PySem PySem.Spec PyProof.Rows L2
abbrev sDO : Stmt := top 72
abbrev nDO : List Str := ["setting", "turn"]
theorem scDO : FnScope nDO ["setting", "turn"] (defScope sDO) := ⟨rfl, rfl, rfl, by decide +kernel, rfl, by decide +kernel, by decide +kernel⟩
def spDO : Sp := fun vs H Q _ => ∃ (u t : Addr) (m c v : Nat) (ws : List Nat), vs = [.ref u, .ref t] ∧ m ≤ 100 ∧ SetAt H u m ws ∧ TAt H t m c v ∧ ∀ (H' : Hp) (q : Addr), Same H H' → SetAt H' q m (ws.set c v) → Q (.ref q) H'
section
variable {P : Program} {w : World} {K : PySem.W.Frag} {mg : Str → Option Value} {base : Heap}
theorem ok_do {f : Addr} {fd : FuncData} (F : Fun K "_law_done" "_law_done" sDO f fd) : FnOk P w K mg base CX0 1 f fd ["setting", "turn"] spDO := by
  refine F.ok scDO (fun vs H Q E h => ?_) (fun cdv A outer s H vs Q E hr h => ?_)
  · obtain ⟨u, t, m, c, v, ws, rfl, _⟩ := h
    rfl
  · obtain ⟨u, t, m, c, v, ws, rfl, h100, hS, hT, k⟩ := h
    refine ⟨_, pss_one (ps_ret (pe_op op_catA (pe_op op_catA (pe_slice sl_tupA (pv 0) po_none (po_some (pe_ix ix_tup (pv 1) pe_int (fun _ _ => rfl)))) (pe_tup (pa_cons (pe_ix ix_tup (pv 1) pe_int (fun _ _ => rfl)) pa_nil))) (pe_slice sl_tupA (pv 0) (po_some (pe_op op_add (pe_ix ix_tup (pv 1) pe_int (fun _ _ => rfl)) pe_int)) po_none))), ?_⟩
    obtain ⟨ht, hc, hv⟩ := id hT
    have ln : (nats ws).length = m := (List.length_map _).trans hS.len
    have hu := hS.here
    refine ⟨_, rfl, _, rfl, t, _, _, V.int (c : Nat), rfl, rfl, SqT.of ht, at_of (j := 0) rfl rfl, _, rfl, rd_slA hu fun H4 b1 s4 h4 => ?_⟩
    rw [cut_take (by omega)] at h4
    refine ⟨_, rfl, t, _, _, V.int (v : Nat), rfl, rfl, SqT.of (s4 _ _ ht), at_of (j := 1) rfl rfl, (by show 1 ≤ sizeLine; decide), fun b2 hb2 => ?_⟩
    have s5 := Same.new (o := .tup [V.int (v : Nat)]) hb2
    have h5 := upd_same (H := H4) (a := b2) (o := .tup [V.int (v : Nat)])
    have h45 := s5 _ _ h4
    generalize upd H4 b2 (.tup [V.int (v : Nat)]) = H5 at s5 h5 h45
    have big : ∀ {x y : Nat}, x + y ≤ 200 → x + y ≤ sizeLine := fun h => Nat.le_trans h (by decide)
    refine rd_catA h45 h5 (big (by rw [List.length_take]; show _ + 1 ≤ 200; omega)) fun H6 b3 s6 h6 => ?_
    have s36 := s4.trans (s5.trans s6)
    refine ⟨_, rfl, _, rfl, t, _, _, V.int (c : Nat), rfl, rfl, SqT.of (s36 _ _ ht), at_of (j := 0) rfl rfl, _, _, rfl, rfl, _, rfl, ?_⟩
    unfold tNoPart
    dsimp only
    refine rd_slA (s36 _ _ hu) fun H7 b4 s7 h7 => ?_
    rw [show ((c : Nat) : Int) + 1 = ((c + 1 : Nat) : Int) by omega, cut_drop (by omega)] at h7
    refine rd_catA (s7 _ _ h6) h7 (big ?_) fun H8 b5 s8 h8 => ?_
    · rw [List.length_append, List.length_take, List.length_drop]
      show _ + 1 + _ ≤ 200
      omega
    have e : (nats ws).take c ++ [V.int (v : Nat)] ++ (nats ws).drop (c + 1) = nats (ws.set c v) := put_set ws v (by rw [hS.len]; exact hc)
    rw [e] at h8
    have ok := hS.ok.set c hv
    exact k H8 b5 (s36.trans (s7.trans s8)) ⟨ok.len, ok.lt, h8⟩
end
end One
end P_U5

section P_LA
set_option linter.all false
set_option maxRecDepth 100000
set_option maxHeartbeats 16000000
namespace One
open PySem PySem.Spec PyProof.Rows L2
abbrev sIT : Stmt := top 74
abbrev sLD : Stmt := top 75
abbrev nIT : List Str := ["many", "thing", "whole", "one"]
abbrev nLD : List Str := ["fars", "setting", "thing", "many", "number", "turn"]
theorem scIT : FnScope nIT ["many", "thing"] (defScope sIT) := ⟨rfl, rfl, rfl, by decide +kernel, rfl, by decide +kernel, by decide +kernel⟩
theorem scLD : FnScope nLD ["fars", "setting", "thing"] (defScope sLD) := ⟨rfl, rfl, rfl, by decide +kernel, rfl, by decide +kernel, by decide +kernel⟩
def spIT : Sp := fun vs H Q _ => ∃ (v : V) (m : Nat) (p l : Addr) (d : PyData), vs = [.int (m : Nat), v] ∧ Da p l H v d ∧ ∀ H', Same H H' → Q (.bl (itemOf m d).isSome) H'
def spLD : Sp := fun vs H Q _ => ∃ (D S p l : Addr) (v : V) (m : Nat) (ps : List (Nat × Nat)) (ws : List Nat) (d : PyData), vs = [.ref D, .ref S, v] ∧ Lines m ps ∧ m ≤ 40 ∧ H D = some (.dK (fkv (far ps) (ends ps))) ∧ SetAt H S m ws ∧ Da p l H v d ∧
  ∀ (H' : Hp) (r : Addr), Same H H' → (judge (far ps) m ws d = none → H' r = some (.lst [.non])) → (∀ pl, judge (far ps) m ws d = some pl → ∃ q, H' r = some (.tup [.str "lead", .ref q]) ∧ H' q = some (.tup (nats pl))) → Q (.ref r) H'
section
variable {P : Program} {w : World} {K : PySem.W.Frag} {mg : Str → Option Value} {base : Heap}
theorem ok_it {f : Addr} {fd : FuncData} (F : Fun K "_law_is_turn" "_law_is_turn" sIT f fd) (T : TB mg) : FnOk P w K mg base CX0 1 f fd ["many", "thing"] spIT := by
  refine F.ok scIT (fun vs H Q E h => ?_) (fun cdv A outer s H vs Q E hr h => ?_)
  · obtain ⟨v, m, p, l, d, rfl, _⟩ := h
    rfl
  · obtain ⟨v, m, p, l, d, rfl, hd, k⟩ := h
    have nd := scIT.nd
    have hu : (A.deeper (envOfC "_law_is_turn" (defScope sIT) s.heap.objs.size f cdv)).units + 64 < cLine := hr.units
    refine ⟨_, pss_cons (ps_if (PW.pt (pw_or (pt_not (pt_val (pe_callB call_isi (by rfl) T.isinstance boot_isinstance (pa_cons (pv 1) (pa_cons (pe_bltn (v := .ty "tuple") (by rfl) T.tuple boot_tuple rfl) pa_nil))))) (pw_or1 (pt_cmpR op_ne (pe_callB call_len_seq (by rfl) T.len PySem.boot_len (pa_cons (pv 1) pa_nil)) pe_int (nomark _))))) (pss_one (ps_ret pe_bl)) pss_nil)
      (pss_cons (ps_setLc (i := 2) (own := [("one", 3)]) (g := (gName 3)) (tt := tYes) (te := (tAndV (tCB (rIsi K) (tCons (tVar 3) (tCons (tC (.ty "int")) tNil))) (tNotV (tCB (rIsi K) (tCons (tVar 3) (tCons (tC (.ty "bool")) tNil)))))) rfl nd rfl rfl (sw_true rfl rfl rfl (by decide +kernel)) (pi_tup (pv 1)) (blkOk_by (N := nIT) (sc := defScope sIT) (by decide +kernel)) (fun _ _ _ _ _ => pg_name (i := 3) nd rfl (Or.inl rfl)) (fun _ _ _ _ _ => pts_nil) (fun _ _ _ _ _ => by exact (pe_and (pe_callB call_isi (by rfl) T.isinstance boot_isinstance (pa_cons (pv 3) (pa_cons (pe_bltn (v := .ty "int") (by rfl) T.int PyProof.Rows.boot_int rfl) pa_nil))) (pe_one (pe_not (pe_callB call_isi (by rfl) T.isinstance boot_isinstance (pa_cons (pv 3) (pa_cons (pe_bltn (v := .ty "bool") (by rfl) T.bool (by decide +kernel) rfl) pa_nil))))))))
      (pss_one (ps_ret (pe_and (pe_cmpR (op_eqD (by exact hu)) (pv 2) (pe_lst (pa_cons pe_bl (pa_cons pe_bl pa_nil))) (nomark _)) (pe_and (pe_chain op_le op_lt pe_int (pe_ix ix_tup (pv 1) pe_int (fun _ _ => rfl)) (pv 0)) (pe_one (pe_chain op_le op_lt pe_int (pe_ix ix_tup (pv 1) pe_int (fun _ _ => rfl)) pe_int))))))), ?_⟩
    have kind : (∃ (t : Addr) (xs : List V) (ds : List PyData), v = .ref t ∧ H t = some (.tup xs) ∧ d = .tuple ds ∧ DaAll p l H xs ds) ∨ ∃ Tt, TV H v Tt ∧ isTup Tt = false ∧ itemOf m d = none := by
      cases hd with
      | non => exact .inr ⟨_, .non, by decide, rfl⟩
      | bl b => exact .inr ⟨_, .bl b, by decide, rfl⟩
      | int i => exact .inr ⟨_, .int i, by decide, rfl⟩
      | str x => exact .inr ⟨_, .str x, by decide, rfl⟩
      | lst a b c f g => exact .inr ⟨_, .lst f, by decide, rfl⟩
      | emp a b f => exact .inr ⟨_, .dct f, by decide, rfl⟩
      | tup a b f g => exact .inl ⟨_, _, _, rfl, f, rfl, g⟩
    rcases kind with ⟨t, xs, ds, rfl, ht, rfl, hds⟩ | ⟨Tt, hv, hT, hj⟩
    · refine ⟨_, rfl, _, _, _, _, _, rfl, .ty _, (TV.tup ht).tyx, (TV.tup ht).kTup, _, rfl, ?_⟩
      refine iteF ⟨_, rfl, t, _, rfl, .inr (SqT.of ht), rfl, _, rfl, ?_⟩
      have hle := hds.len
      by_cases h2 : xs.length = 2
      · match xs, ds, hds, h2, ht with
        | [x, y], [dx, dy], .cons hx (.cons hy .nil), _, ht =>
          refine iteF ?_
          refine ⟨_, rfl, t, rfl, ⟨_, SqT.of ht⟩, fun Dl hDl => ?_⟩
          have sD := Same.new (o := .lst []) hDl
          refine lc_it (walk_tup (K := K) (a := t) (xs := [x, y])) (fun j H' => H' Dl = some (.lst (([x, y].take j).map fun z => V.bl (isI z))) ∧ Same H H') ⟨upd_same, sD⟩ (fun j H' _ h => SqT.of (h.2 _ _ ht)) ?_ ?_
          · rintro j z H2 H1 hj ⟨hl, s1⟩ ⟨rfl, hz⟩
            have hz : [x, y][j]? = some z := hz
            obtain ⟨Tz, hz1⟩ : ∃ Tz, TV H1 z Tz := by
              rcases (by have : j < 2 := hj; omega : j = 0 ∨ j = 1) with rfl | rfl
              · cases hz
                exact (Da.extT (ExtT.ofS s1) _ _ hx).tv
              · cases hz
                exact (Da.extT (ExtT.ofS s1) _ _ hy).tv
            obtain ⟨b, kb, g1, g2⟩ := hz1.kInt (K := K)
            have fin : ∀ c : Bool, isI z = c → ∃ acc, H1 Dl = some (.lst acc) ∧ acc.length < sizeLine ∧ (upd H1 Dl (.lst (acc ++ [V.bl c]))) Dl = some (.lst (([x, y].take (j + 1)).map fun z => V.bl (isI z))) ∧ Same H (upd H1 Dl (.lst (acc ++ [V.bl c]))) := fun c e => by
              subst e
              refine ⟨_, hl, ?_, ?_, fun a o eo => ?_⟩
              · rw [List.length_map, List.length_take]
                have hj : j < 2 := hj
                exact Nat.lt_of_le_of_lt (by omega : _ ≤ 2) (by decide)
              · rw [upd_same, List.take_succ, hz, Option.toList_some, List.map_append]
                rfl
              · rw [upd_ne (ne_of_none eo hDl)]
                exact s1 _ _ eo
            refine ⟨rfl, yes ⟨_, rfl, _, _, _, _, b, rfl, .ty _, hz1.tyx, kb, b, rfl, ?_⟩⟩
            cases b with
            | true =>
              obtain ⟨b2, kb2, e2⟩ := g1 rfl
              exact iteT ⟨_, rfl, _, _, _, _, b2, rfl, .ty _, hz1.tyx, kb2, b2, rfl, fin _ e2⟩
            | false => exact iteF (fin _ (g2 rfl))
          · rintro H1 ⟨hl, s1⟩
            have hl : H1 Dl = some (.lst [V.bl (isI x), V.bl (isI y)]) := hl
            refine ⟨_, rfl, two_le, fun L2 hL2 => ?_⟩
            have s2 := Same.new (o := .lst [V.bl true, V.bl true]) hL2
            have s12 := s1.trans s2
            have ht2 := s12 _ _ ht
            have kk := k _ s12
            refine ⟨.list [.bool (isI x), .bool (isI y)], .list [.bool true, .bool true], .lst (SqL.of (s2 _ _ hl)) (.cons (.bl _) (.cons (.bl _) .nil)), .lst (SqL.of upd_same) (.cons (.bl _) (.cons (.bl _) .nil)), by cases isI x <;> cases isI y <;> decide +kernel, by decide +kernel, _, rfl, ?_⟩
            by_cases both : isI x = true ∧ isI y = true
            · rw [both.1, both.2, show PyData.eqv (.list [.bool true, .bool true]) (.list [.bool true, .bool true]) = true by decide +kernel]
              refine iteT ?_
              obtain ⟨i, rfl⟩ : ∃ i, x = .int i := by
                cases x with
                | int i => exact ⟨i, rfl⟩
                | _ => exact nof both.1
              obtain ⟨i2, rfl⟩ : ∃ i, y = .int i := by
                cases y with
                | int i => exact ⟨i, rfl⟩
                | _ => exact nof both.2
              cases hx
              cases hy
              have e0 : itemOf m (.tuple [.int i, .int i2]) = if 0 ≤ i ∧ i < (m : Int) ∧ 0 ≤ i2 ∧ i2 < 3 then some (i.toNat, i2.toNat) else none := rfl
              have no : ¬ (0 ≤ i ∧ i < (m : Int) ∧ 0 ≤ i2 ∧ i2 < 3) → Q (.bl false) (upd H1 L2 (.lst [V.bl true, V.bl true])) := fun hc => by
                rw [e0, if_neg hc] at kk
                exact kk
              refine ⟨_, rfl, t, _, 0, V.int i, rfl, rfl, SqT.of ht2, rfl, _, _, rfl, rfl, _, rfl, ?_⟩
              refine ite2 (fun h1 => ?_) (fun h1 => ⟨_, rfl, iteF (no fun z => h1 (decide_eq_true z.1))⟩)
              have h1 := of_decide_eq_true h1
              refine ⟨_, rfl, _, _, rfl, rfl, _, rfl, ?_⟩
              refine ite2 (fun h2 => ?_) (fun h2 => no fun z => h2 (decide_eq_true z.2.1))
              have h2 := of_decide_eq_true h2
              refine ⟨_, rfl, t, _, 1, V.int i2, rfl, rfl, SqT.of ht2, rfl, _, _, rfl, rfl, _, rfl, ?_⟩
              refine ite2 (fun h3 => ?_) (fun h3 => no fun z => h3 (decide_eq_true z.2.2.1))
              have h3 := of_decide_eq_true h3
              refine ⟨_, _, rfl, rfl, ?_⟩
              by_cases h4 : i2 < 3
              · rw [e0, if_pos ⟨h1, h2, h3, h4⟩] at kk
                show Q (.bl (decide (i2 < 3))) _
                rw [decide_eq_true h4]
                exact kk
              · show Q (.bl (decide (i2 < 3))) _
                rw [decide_eq_false h4]
                exact no fun z => h4 z.2.2.2
            · have hn : itemOf m (.tuple [dx, dy]) = none := by
                show pairOf m dx dy = none
                cases hx with
                | int i =>
                  cases hy with
                  | int i2 => exact absurd ⟨rfl, rfl⟩ both
                  | _ => rfl
                | _ => rfl
              rw [hn] at kk
              rw [show PyData.eqv (.list [.bool (isI x), .bool (isI y)]) (.list [.bool true, .bool true]) = false by
                revert both; cases isI x <;> cases isI y <;> intro both <;> first | exact absurd ⟨rfl, rfl⟩ both | decide +kernel]
              exact iteF kk
      · have hn : itemOf m (.tuple ds) = none := by
          rw [hle] at h2
          match ds, h2 with
          | [], _ => rfl
          | [_], _ => rfl
          | [_, _], h2 => exact absurd rfl h2
          | _ :: _ :: _ :: _, _ => rfl
        refine ite2 (fun _ => ?_) (fun hb => ?_)
        · have := k H (Same.refl H)
          rw [hn] at this
          exact this
        · exfalso
          refine hb ?_
          show (!decide (V.int ((xs.length : Nat) : Int) = V.int 2)) = true
          rw [decide_eq_false (fun z => h2 (by have := V.int.inj z; omega))]
          rfl
    · refine ⟨_, rfl, _, _, _, _, _, rfl, .ty _, hv.tyx, hv.kTup, _, rfl, ?_⟩
      rw [hT]
      have := k H (Same.refl H)
      rw [hj] at this
      exact iteT (iteT this)
theorem ok_ld {f fC fI fD : Addr} {fd dC dI dD : FuncData} (F : Fun K "_law_due" "_law_due" sLD f fd) (T : TB mg) (C : Cal K mg "_law_count" fC dC ["fars", "setting"]) (GC : FnOk P w K mg base CX0 1 fC dC ["fars", "setting"] spLC)
    (I : Cal K mg "_law_is_turn" fI dI ["many", "thing"]) (GI : FnOk P w K mg base CX0 1 fI dI ["many", "thing"] spIT) (D' : Cal K mg "_law_done" fD dD ["setting", "turn"]) (GD : FnOk P w K mg base CX0 1 fD dD ["setting", "turn"] spDO) : FnOk P w K mg base CX0 2 f fd ["fars", "setting", "thing"] spLD := by
  refine F.ok scLD (fun vs H Q E h => ?_) (fun cdv A outer s H vs Q E hr h => ?_)
  · obtain ⟨D, S, p, l, v, m, ps, ws, d, rfl, _⟩ := h
    rfl
  · obtain ⟨D, S, p, l, v, m, ps, ws, d, rfl, L, h40, hD, hS, hd, k⟩ := h
    have nd := scLD.nd
    have hr1 : Room 1 _ := hr
    refine ⟨_, C8.pss_cut (ps_set (i := 3) nd rfl (Or.inl rfl) (pe_call GC hr1 rfl C.g C.kp C.b .nil pass0 (pa_cons (pv 0) (pa_cons (pv 1) pa_nil))))
      (pss_cons (ps_if (PW.pt (pw_or (pt_not (pt_val (pe_callB call_isi (by rfl) T.isinstance boot_isinstance (pa_cons (pv 2) (pa_cons (pe_bltn (v := .ty "tuple") (by rfl) T.tuple boot_tuple rfl) pa_nil))))) (pw_or1 (pt_cmpR op_ne (pe_callB call_len_seq (by rfl) T.len PySem.boot_len (pa_cons (pv 2) pa_nil)) (pe_op op_sub (pv 3) pe_int) (nomark _))))) (pss_one (ps_ret (pe_tup (pa_cons pe_str (pa_cons (pe_tup pa_nil) pa_nil))))) pss_nil)
      (pss_cons (ps_for PassesOwn.never rfl (pi_enumT (by rfl) T.enumerate (pa_cons (pv 2) pa_nil)) (pg_tup rfl (pgs_cons (pg_name (i := 4) nd rfl (Or.inl rfl)) (pgs_cons (pg_name (i := 5) nd rfl (Or.inl rfl)) pgs_nil)))
        (pss_one (ps_if (pt_not (pt_val (pe_call GI hr1 rfl I.g I.kp I.b .nil pass0 (pa_cons (pe_callB call_len_seq (by rfl) T.len PySem.boot_len (pa_cons (pv 1) pa_nil)) (pa_cons (pv 5) pa_nil))))) (pss_one (ps_ret (pe_tup (pa_cons pe_str (pa_cons (pe_tup (pa_cons (pv 4) pa_nil)) pa_nil))))) pss_nil)))
      (pss_cons (ps_for PassesOwn.never rfl (pi_enumT (by rfl) T.enumerate (pa_cons (pv 2) pa_nil)) (pg_tup rfl (pgs_cons (pg_name (i := 4) nd rfl (Or.inl rfl)) (pgs_cons (pg_name (i := 5) nd rfl (Or.inl rfl)) pgs_nil)))
        (pss_cons (ps_par (i := 1) (j := 3) (by rfl) nd rfl rfl (by decide) rfl rfl (pa_cons (pe_call GD hr1 rfl D'.g D'.kp D'.b .nil pass0 (pa_cons (pv 1) (pa_cons (pv 5) pa_nil))) (pa_cons (pe_op op_sub (pv 3) pe_int) pa_nil)) (by rfl))
      (pss_one (ps_if (pt_cmpR op_ne (pe_call GC hr1 rfl C.g C.kp C.b .nil pass0 (pa_cons (pv 0) (pa_cons (pv 1) pa_nil))) (pv 3) (nomark _)) (pss_one (ps_ret (pe_tup (pa_cons pe_str (pa_cons (pe_tup (pa_cons (pv 4) pa_nil)) pa_nil))))) pss_nil))))
      (pss_one (ps_ret (pe_lst (pa_cons pe_non pa_nil))))))), ?_⟩
    have J := far_inv L
    refine ⟨fun σ H' => σ = [some (.ref D), some (.ref S), some v, some (.int (Cn (far ps) m ws : Nat)), none, none] ∧ Same H H', ?_, ?_⟩
    · exact ⟨_, rfl, _, rfl, D, S, m, ps, ws, rfl, L, by omega, hD, hS, fun H1 s1 => ⟨rfl, s1⟩⟩
    rintro σ0 H1 ⟨rfl, s1⟩
    have hd1 := Da.extT (ExtT.ofS s1) d v hd
    have out : ∀ {H' : Hp} {q : Addr} {pl : List Nat}, judge (far ps) m ws d = some pl → Same H H' → H' q = some (.tup (nats pl)) → ∀ r, H' r = none → Q (.ref r) (upd H' r (.tup [V.str "lead", V.ref q])) := fun {H' q pl} hj s' hq r hr' =>
      k _ r (s'.trans (Same.new hr')) (fun hn => by rw [hj] at hn; cases hn) fun pl' e => by
        rw [hj] at e
        cases e
        exact ⟨q, upd_same, (Same.new hr') _ _ hq⟩
    have kind : (∃ (t : Addr) (xs : List V) (ds : List PyData), v = .ref t ∧ H1 t = some (.tup xs) ∧ d = .tuple ds ∧ DaAll p l H1 xs ds) ∨ ∃ Tt, TV H1 v Tt ∧ isTup Tt = false ∧ judge (far ps) m ws d = some [] := by
      cases hd1 with
      | non => exact .inr ⟨_, .non, by decide, rfl⟩
      | bl b => exact .inr ⟨_, .bl b, by decide, rfl⟩
      | int i => exact .inr ⟨_, .int i, by decide, rfl⟩
      | str x => exact .inr ⟨_, .str x, by decide, rfl⟩
      | lst a b c f g => exact .inr ⟨_, .lst f, by decide, rfl⟩
      | emp a b f => exact .inr ⟨_, .dct f, by decide, rfl⟩
      | tup a b f g => exact .inl ⟨_, _, _, rfl, f, rfl, g⟩
    rcases kind with ⟨t, xs, ds, rfl, ht, rfl, hds⟩ | ⟨Tt, hv, hT, hj⟩
    · refine ⟨_, rfl, _, _, _, _, _, rfl, .ty _, (TV.tup ht).tyx, (TV.tup ht).kTup, _, rfl, ?_⟩
      refine iteF ⟨_, rfl, t, _, rfl, .inr (SqT.of ht), _, rfl, _, _, rfl, rfl, rfl, _, rfl, ?_⟩
      have hle := hds.len
      refine ite2 (fun hb => ?_) (fun hb => ?_)
      · have hb : (!decide (V.int ((xs.length : Nat) : Int) = V.int (((Cn (far ps) m ws : Nat) : Int) - 1))) = true := hb
        have hj : judge (far ps) m ws (.tuple ds) = some [] := if_neg fun z => by
          have : decide (V.int ((xs.length : Nat) : Int) = V.int (((Cn (far ps) m ws : Nat) : Int) - 1)) = true := decide_eq_true (congrArg V.int (by omega))
          rw [this] at hb
          cases hb
        exact ⟨Nat.zero_le _, fun q hq => ⟨two_le, fun r hr' => out hj (s1.trans (Same.new hq)) upd_same r hr'⟩⟩
      · have hb : ¬ (!decide (V.int ((xs.length : Nat) : Int) = V.int (((Cn (far ps) m ws : Nat) : Int) - 1))) = true := hb
        have hlen : ds.length + 1 = Cn (far ps) m ws := by
          have e : V.int ((xs.length : Nat) : Int) = V.int (((Cn (far ps) m ws : Nat) : Int) - 1) := by
            refine Classical.byContradiction fun z => hb ?_
            rw [decide_eq_false z]
            rfl
          have := V.int.inj e
          omega
        have jl : ∀ {x : Option (List Nat)}, judge (far ps) m ws (.tuple ds) = x ↔ (match firstNone (ds.map (itemOf m)) 0 with
            | some k => some [k]
            | none => (firstFail (far ps) m ws (ds.filterMap (itemOf m)) 0).map fun k => [k]) = x := by
          intro x
          show judgeL (far ps) m ws ds = x ↔ _
          unfold judgeL
          rw [if_pos hlen]
          all_goals exact Iff.rfl
        refine ⟨_, rfl, t, _, rfl, SqT.of ht, ?_⟩
        refine for_it (walk_enumT (K := K) (a := t) (xs := xs)) (fun i σ H' => ∃ v4 v5 : Option V, σ = [some (.ref D), some (.ref S), some (.ref t), some (.int (Cn (far ps) m ws : Nat)), v4, v5] ∧ Same H1 H' ∧ firstNone (ds.map (itemOf m)) 0 = firstNone ((ds.map (itemOf m)).drop i) i) ⟨none, none, rfl, Same.refl H1, rfl⟩ (fun i σ H' _ ⟨_, _, _, s, _⟩ => SqT.of (s _ _ ht)) ?_ ?_
        · rintro i x σ H3 H2 hi ⟨v4, v5, rfl, s2, hf⟩ ⟨q, x', y', rfl, hq, rfl, ex, ey⟩
          cases ex
          have ey : xs[i]? = some y' := ey
          obtain ⟨e, he, hde⟩ := hds.get ey
          have s3 := Same.new (o := .tup [V.int (i : Nat), y']) hq
          have s13 := s2.trans s3
          refine ⟨q, _, rfl, SqT.of upd_same, rfl, _, _, rfl, _, _, rfl, rfl, ?_⟩
          have hS3 := hS.mono (sameT (s1.trans s13))
          have hd3 := Da.extT (ExtT.ofS s13) _ _ hde
          have dr : (ds.map (itemOf m)).drop i = itemOf m e :: (ds.map (itemOf m)).drop (i + 1) := by
            have hil : i < (ds.map (itemOf m)).length := by rw [List.length_map]; exact (List.getElem?_eq_some_iff.mp he).1
            rw [List.drop_eq_getElem_cons hil]
            congr 1
            have : (ds.map (itemOf m))[i]? = some (itemOf m e) := by rw [List.getElem?_map, he]; rfl
            rw [List.getElem?_eq_getElem hil] at this
            exact Option.some.inj this
          have ln : (nats ws).length = m := (List.length_map _).trans hS.len
          refine ⟨_, rfl, S, _, rfl, .inr (SqT.of hS3.here), ?_⟩
          rw [ln]
          refine ⟨_, rfl, y', m, p, l, e, rfl, hd3, fun H4 s4 => ⟨_, rfl, ?_⟩⟩
          have s14 := s13.trans s4
          cases hi' : itemOf m e with
          | some tz =>
            refine iteF ⟨_, _, rfl, s14, ?_⟩
            rw [hf, dr, hi']
            rfl
          | none =>
            refine iteT ?_
            have hj : judge (far ps) m ws (.tuple ds) = some [i] := jl.mpr (by rw [hf, dr, hi']; rfl)
            exact ⟨_, rfl, (by show 1 ≤ sizeLine; decide), fun q2 hq2 => ⟨two_le, fun r hr' => out hj ((s1.trans s14).trans (Same.new hq2)) upd_same r hr'⟩⟩
        · rintro σ H2 ⟨v4, v5, rfl, s2, hf⟩
          have hf : firstNone (ds.map (itemOf m)) 0 = none := by
            rw [hf, List.drop_of_length_le (by rw [List.length_map, hle]; exact Nat.le_refl _)]
            rfl
          have hts := filter_len (f := itemOf m) (xs := ds) fun {i x} e => none_map hf e
          have ht2 := s2 _ _ ht
          have jl2 : ∀ {x : Option (List Nat)}, ((firstFail (far ps) m ws (ds.filterMap (itemOf m)) 0).map fun k => [k]) = x → judge (far ps) m ws (.tuple ds) = x := fun {x} e => jl.mpr (by rw [hf]; exact e)
          generalize ds.filterMap (itemOf m) = ts at hts jl2
          refine ⟨_, rfl, t, _, rfl, SqT.of ht2, ?_⟩
          refine for_it (walk_enumT (K := K) (a := t) (xs := xs)) (fun i σ H' => ∃ (ui : Addr) (wi : List Nat) (v4 v5 : Option V), σ = [some (.ref D), some (.ref ui), some (.ref t), some (.int (Cn (far ps) m wi : Nat)), v4, v5] ∧ Same H1 H' ∧ SetAt H' ui m wi ∧ firstFail (far ps) m ws ts 0 = firstFail (far ps) m wi (ts.drop i) i)
            ⟨S, ws, _, _, rfl, s2, hS.mono (sameT (s1.trans s2)), rfl⟩ (fun i σ H' _ ⟨_, _, _, _, _, s, _⟩ => SqT.of (s _ _ ht)) ?_ ?_
          · rintro i x σ H4 H3 hi ⟨ui, wi, v4, v5, rfl, s3, hSi, hff⟩ ⟨q, x', y', rfl, hq, rfl, ex, ey⟩
            cases ex
            have ey : xs[i]? = some y' := ey
            obtain ⟨e, he, hde⟩ := hds.get ey
            have s4 := Same.new (o := .tup [V.int (i : Nat), y']) hq
            have s14 := s3.trans s4
            refine ⟨q, _, rfl, SqT.of upd_same, rfl, _, _, rfl, _, _, rfl, rfl, ?_⟩
            have hSi4 := hSi.mono (sameT s4)
            have hd4 := Da.extT (ExtT.ofS s14) _ _ hde
            have eit : (ts.map some)[i]? = some (itemOf m e) := by rw [hts, List.getElem?_map, he]; rfl
            obtain ⟨tz, htz, ez⟩ : ∃ tz, ts[i]? = some tz ∧ itemOf m e = some tz := by
              rw [List.getElem?_map] at eit
              cases h : ts[i]? with
              | none => rw [h] at eit; cases eit
              | some tz => rw [h] at eit; exact ⟨tz, rfl, (Option.some.inj eit).symm⟩
            have dr : ts.drop i = tz :: ts.drop (i + 1) := by
              have hil := (List.getElem?_eq_some_iff.mp htz).1
              rw [List.drop_eq_getElem_cons hil]
              congr 1
              rw [List.getElem?_eq_getElem hil] at htz
              exact Option.some.inj htz
            rcases item_sort (m := m) hd4 with ⟨t', c, z, rfl, hit, hTT⟩ | ⟨hn, hB⟩
            · rw [hit] at ez
              cases ez
              refine ⟨_, rfl, _, rfl, ui, t', m, c, z, wi, rfl, by omega, hSi4, hTT, fun H5 q5 s5 hq5 => ?_⟩
              refine ⟨_, rfl, _, _, rfl, rfl, _, _, rfl, ?_⟩
              have s15 := s14.trans s5
              refine ⟨_, rfl, _, rfl, D, q5, m, ps, wi.set c z, rfl, L, by omega, (s1.trans s15) _ _ hD, hq5, fun H6 s6 => ⟨_, rfl, rfl, _, rfl, ?_⟩⟩
              refine ite2 (fun hb => ?_) (fun hb => ?_)
              · have hb : (!decide (V.int ((Cn (far ps) m (wi.set c z) : Nat) : Int) = V.int (((Cn (far ps) m wi : Nat) : Int) - 1))) = true := hb
                have hne : ¬ Cn (far ps) m (wi.set c z) + 1 = Cn (far ps) m wi := fun z' => by
                  have : decide (V.int ((Cn (far ps) m (wi.set c z) : Nat) : Int) = V.int (((Cn (far ps) m wi : Nat) : Int) - 1)) = true := decide_eq_true (congrArg V.int (by omega))
                  rw [this] at hb
                  cases hb
                have hj : judge (far ps) m ws (.tuple ds) = some [i] := jl2 (by
                  rw [hff, dr]
                  show (if Cn (far ps) m (wi.set c z) + 1 = Cn (far ps) m wi then _ else some i).map _ = _
                  rw [if_neg hne]
                  rfl)
                exact ⟨_, rfl, (by show 1 ≤ sizeLine; decide), fun q2 hq2 => ⟨two_le, fun r hr' => out hj ((s1.trans (s15.trans s6)).trans (Same.new hq2)) upd_same r hr'⟩⟩
              · have hb : ¬ (!decide (V.int ((Cn (far ps) m (wi.set c z) : Nat) : Int) = V.int (((Cn (far ps) m wi : Nat) : Int) - 1))) = true := hb
                have heq : Cn (far ps) m (wi.set c z) + 1 = Cn (far ps) m wi := by
                  have e : V.int ((Cn (far ps) m (wi.set c z) : Nat) : Int) = V.int (((Cn (far ps) m wi : Nat) : Int) - 1) := by
                    refine Classical.byContradiction fun z' => hb ?_
                    rw [decide_eq_false z']
                    rfl
                  have := V.int.inj e
                  omega
                have ei : ((Cn (far ps) m (wi.set c z) : Nat) : Int) = ((Cn (far ps) m wi : Nat) : Int) - 1 := by omega
                refine ⟨q5, wi.set c z, some (.int (i : Nat)), some (.ref t'), ?_, s15.trans s6, hq5.mono (sameT s6), ?_⟩
                · rw [ei]
                  rfl
                · rw [hff, dr]
                  show (if Cn (far ps) m (wi.set c z) + 1 = Cn (far ps) m wi then _ else some i) = _
                  rw [if_pos heq]
            · rw [hn] at ez
              cases ez
          · rintro σ H3 ⟨ui, wi, v4, v5, rfl, s3, hSi, hff⟩
            have hj : judge (far ps) m ws (.tuple ds) = none := jl2 (by
              have : ts.length = ds.length := by
                have := congrArg List.length hts
                rw [List.length_map, List.length_map] at this
                exact this
              rw [hff, List.drop_of_length_le (by omega)]
              rfl)
            exact ⟨by show 1 ≤ sizeLine; decide, fun r hr' => k _ r (s1.trans (s3.trans (Same.new hr'))) (fun _ => upd_same) fun pl e => by rw [hj] at e; cases e⟩
    · refine ⟨_, rfl, _, _, _, _, _, rfl, .ty _, hv.tyx, hv.kTup, _, rfl, ?_⟩
      rw [hT]
      exact iteT (iteT ⟨Nat.zero_le _, fun q hq => ⟨two_le, fun r hr' => out hj (s1.trans (Same.new hq)) upd_same r hr'⟩⟩)
end
end One
end P_LA

section P_U6
set_option linter.all false
set_option maxRecDepth 100000
set_option maxHeartbeats 16000000
namespace One
open PySem PySem.Spec PyProof.Rows L2
section
variable {F : Nat → Nat} {n : Nat} {ws : List Nat}
theorem two_after (I : Inv2 F n) (h : Ok3 n ws) {c w : Nat} (hc : c < n) (hw : w < 3) (t : Two F n ws c) (ne : w ≠ wayL ws c) : ¬ Two F n (ws.set c w) c := fun t2 => by
  have h' := h.set c hw
  have a1 := (Cn_set I h hc hw).1 ⟨t, ne⟩
  have e1 : wayL (ws.set c w) c = w := way_same (by rw [h.len]; exact hc)
  have w0 := h.ways c hc
  have a2 := (Cn_set I h' hc w0).1 ⟨t2, by rw [e1]; exact fun z => ne z.symm⟩
  have e2 : (ws.set c w).set c (wayL ws c) = ws := by
    refine way_ext (h'.set c w0) h fun d hd => ?_
    by_cases q : d = c
    · subst q
      exact way_same (by rw [h'.len]; exact hd)
    · rw [way_set q, way_set q]
  rw [e2] at a2
  omega
theorem two_stay (I : Inv2 F n) (h : Ok3 n ws) {c d w : Nat} (hc : c < n) (hd : d < n) (hw : w < 3) (t : ¬ Two F n ws c) (td : Two F n ws d) (ne : w ≠ wayL ws d) : ¬ Two F n (ws.set d w) c := fun t2 => by
  by_cases q : c = d
  · subst q
    exact t td
  · have h' := h.set d hw
    have v3 := otherW_lt (wayL (ws.set d w) c)
    have vn := otherW_ne (wayL (ws.set d w) c)
    generalize otherW (wayL (ws.set d w) c) = v at v3 vn
    have a1 := (Cn_set I h' hc v3).1 ⟨t2, vn⟩
    have a2 := (Cn_set I h hd hw).1 ⟨td, ne⟩
    have a3 := (Cn_set I h hc v3).2 fun z => t z.1
    have a4 := Cn_one I (h.set c v3) hd hw
    rw [List.set_comm v w q] at a4
    omega
end
abbrev sLL : Stmt := top 73
abbrev nLL : List Str := ["state", "fars", "setting", "found", "many", "crossing", "turn"]
theorem scLL : FnScope nLL ["state", "fars", "setting"] (defScope sLL) := ⟨rfl, rfl, rfl, by decide +kernel, rfl, by decide +kernel, by decide +kernel⟩
def spLL : Sp := fun vs H Q _ => ∃ (p a l D S : Addr) (n m : Nat) (ps : List (Nat × Nat)) (ws : List Nat), vs = [.ref p, .ref D, .ref S] ∧ ML H p a l n ∧ n ≤ 900000 ∧ Lines m ps ∧ Whole m ps ∧ 0 < m ∧ m ≤ 40 ∧ D ≠ p ∧ H D = some (.dK (fkv (far ps) (ends ps))) ∧ SetAt H S m ws ∧
  ∀ (H' : Hp) (q : Addr) (bs : List Addr) (ts : List (Nat × Nat)), ML H' p a l (n + 2 * m) → ExtL p l H H' → H' q = some (.tup (refs bs)) → PL H' bs ts → LD (far ps) m ws ts → Q (.ref q) H'
section
variable {P : Program} {w : World} {K : PySem.W.Frag} {mg : Str → Option Value} {base : Heap}
theorem ok_ll {f fC fD fO fR : Addr} {fd fdC fdD fdO fdR : FuncData} (F : Fun K "_law_lead" "_law_lead" sLL f fd) (T : TB mg) (C : Cal K mg "_law_count" fC fdC ["fars", "setting"]) (GC : FnOk P w K mg base CX0 1 fC fdC ["fars", "setting"] spLC)
    (D' : Cal K mg "_law_done" fD fdD ["setting", "turn"]) (GD : FnOk P w K mg base CX0 1 fD fdD ["setting", "turn"] spDO) (O : Cal K mg "_law_order" fO fdO ["state", "size"]) (GO : FnOk P w K mg base CX0 3 fO fdO ["state", "size"] spOR)
    (R' : Cal K mg "_law_draw" fR fdR ["state", "many"]) (GR : FnOk P w K mg base CX0 2 fR fdR ["state", "many"] spDR) : FnOk P w K mg base CX0 4 f fd ["state", "fars", "setting"] spLL := by
  refine F.ok scLL (fun vs H Q E h => ?_) (fun cdv A outer s H vs Q E hr h => ?_)
  · obtain ⟨p, a, l, D, S, n, m, ps, ws, rfl, _⟩ := h
    rfl
  · obtain ⟨p, a, l, D, S, n, m, ps, ws, rfl, M, hn, L, Wh, hpos, h40, nDp, hD, hS, k⟩ := h
    have nd := scLL.nd
    have hr3 : Room 3 _ := hr
    have hr2 : Room 2 _ := hr.mono (by decide)
    have hr1 : Room 1 _ := hr.mono (by decide)
    have nDl : D ≠ l := by
      obtain ⟨_, ds, _, _, _, h3, _⟩ := M.ex
      exact ne_of hD h3 (by intro z; cases z)
    refine ⟨_, C8.pss_cut (ps_par (i := 3) (j := 4) (by rfl) nd rfl rfl (by decide) rfl rfl (pa_cons (pe_lst pa_nil) (pa_cons (pe_call GC hr1 rfl C.g C.kp C.b .nil pass0 (pa_cons (pv 1) (pa_cons (pv 2) pa_nil))) pa_nil)) (by rfl))
      (pss_cons (ps_for PassesOwn.never rfl (pi_list (pe_call GO hr3 rfl O.g O.kp O.b .nil pass0 (pa_cons (pv 0) (pa_cons (pe_callB call_len_seq (by rfl) T.len PySem.boot_len (pa_cons (pv 2) pa_nil)) pa_nil)))) (pg_name (i := 5) nd rfl (Or.inl rfl))
        (pss_cons (ps_set (i := 6) nd rfl (Or.inl rfl) (pe_tup (pa_cons (pv 5) (pa_cons (pe_op op_mod (pe_op op_add (pe_op op_add (pe_ix ix_tup (pv 2) (pv 5) (fun _ _ => rfl)) pe_int) (pe_call GR hr2 rfl R'.g R'.kp R'.b .nil pass0 (pa_cons (pv 0) (pa_cons pe_int pa_nil)))) pe_int) pa_nil))))
      (pss_one (ps_if (pt_cmpR op_lt (pe_call GC hr1 rfl C.g C.kp C.b .nil pass0 (pa_cons (pv 1) (pa_cons (pe_call GD hr1 rfl D'.g D'.kp D'.b .nil pass0 (pa_cons (pv 2) (pa_cons (pv 6) pa_nil))) pa_nil))) (pv 4) (nomark _)) (pss_cons (ps_expr (pe_bm PySem.F.plainAttrs_list PySem.F.slot_list_append PySem.F.type_list_append mt_append (pv 3) (pa_cons (pv 6) pa_nil)))
      (pss_one (ps_par (i := 2) (j := 4) (by rfl) nd rfl rfl (by decide) rfl rfl (pa_cons (pe_call GD hr1 rfl D'.g D'.kp D'.b .nil pass0 (pa_cons (pv 2) (pa_cons (pv 6) pa_nil))) (pa_cons (pe_op op_sub (pv 4) pe_int) pa_nil)) (by rfl)))) pss_nil))))
      (pss_one (ps_ret (pe_tupleOf (by rfl) T.tuple (pv 3))))), ?_⟩
    have I := far_inv L
    refine ⟨fun σ H' => ∃ (B : Addr), H B = none ∧ σ = [some (.ref p), some (.ref D), some (.ref S), some (.ref B), some (.int (Cn (far ps) m ws : Nat)), none, none] ∧ Same H H' ∧ H' B = some (.lst []), ?_, ?_⟩
    · refine ⟨Nat.zero_le _, fun B hB => ?_⟩
      have s3 := Same.new (o := .lst []) hB
      exact ⟨_, rfl, _, rfl, D, S, m, ps, ws, rfl, L, by omega, s3 _ _ hD, hS.mono (sameT s3), fun H4 s4 => ⟨_, _, rfl, B, hB, rfl, s3.trans s4, s4 _ _ upd_same⟩⟩
    · rintro σ0 H0 ⟨B, nB, rfl, s0, hB0⟩
      have M0 := M.keep s0
      obtain ⟨nBp, nBl⟩ := M.apart nB
      have ln : (nats ws).length = m := (List.length_map _).trans hS.len
      refine ⟨_, rfl, _, rfl, S, _, rfl, .inr (SqT.of (s0 _ _ hS.here)), ?_⟩
      rw [ln]
      refine ⟨p, a, l, n, m, rfl, M0, by omega, by omega, fun H1 b cs M1 e1 hb hb1 hbp => ⟨b, rfl, ⟨_, SqL.of hb1⟩, ?_⟩⟩
      obtain ⟨nbp, nbl⟩ := M0.apart hb
      have nBb : B ≠ b := fun z => by
        subst z
        rw [hB0] at hb
        cases hb
      have lcs : cs.length = m := by rw [hbp.length_eq, List.length_range]
      have eH1 := (ExtL.same (p := p) (l := l) s0).trans e1
      refine for_it (walk_list (K := K) (a := b) (xs := nats cs)) (fun i σ H' => ∃ (q : Addr) (v5 v6 : Option V) (bs : List Addr) (us : List Nat) (ts : List (Nat × Nat)), σ = [some (.ref p), some (.ref D), some (.ref q), some (.ref B), some (.int (Cn (far ps) m us : Nat)), v5, v6] ∧ ML H' p a l (n + m + i) ∧ ExtL p l H H' ∧ SetAt H' q m us ∧ H' B = some (.lst (refs bs)) ∧ H' b = some (.lst (nats cs)) ∧ PL H' bs ts ∧ (∀ rest, LD (far ps) m us rest → LD (far ps) m ws (ts ++ rest)) ∧ (∀ j c, j < i → cs[j]? = some c → ¬ Two (far ps) m us c) ∧ ts.length ≤ i)
        ⟨S, none, none, [], ws, [], rfl, M1, eH1, (hS.mono (sameT s0)).mono (tupL M0 e1), e1 _ _ nBp nBl hB0, hb1, .nil, fun _ h => h, fun j c h => by omega, Nat.zero_le _⟩ (fun i σ H' _ ⟨_, _, _, _, _, _, _, _, _, _, _, h', _⟩ => SqL.of h') ?_ ?_
      · rintro i x σ H2 H3 hi ⟨q, v5, v6, bs, us, ts, rfl, M2, e2, hS2, hB2, hb2, hP2, hLD, hT, lts⟩ ⟨rfl, hx⟩
        rw [List.length_map] at hi
        have hx : (nats cs)[i]? = some x := hx
        obtain ⟨c, hc⟩ : ∃ c, cs[i]? = some c := ⟨_, List.getElem?_eq_getElem hi⟩
        cases hx.symm.trans (nats_at hc)
        have hcm : c < m := List.mem_range.mp (hbp.mem_iff.mp (List.mem_of_getElem? hc))
        have w3 := hS2.ways c hcm
        refine ⟨_, rfl, _, rfl, _, rfl, q, _, _, V.int (wayL us c : Nat), rfl, rfl, SqT.of hS2.here, at_of (j := c) rfl (nats_at (hS2.at_ hcm)), _, _, rfl, rfl, _, rfl, p, a, l, _, 2, rfl, M2, by omega, by decide, by decide, fun H4 r M4 e4 r0 r2 => ?_⟩
        obtain ⟨v, hv⟩ : ∃ v, v = (wayL us c + 1 + r.toNat) % 3 := ⟨_, rfl⟩
        have v3 : v < 3 := by rw [hv]; exact Nat.mod_lt _ (by decide)
        have vn : v ≠ wayL us c := by omega
        have ev : (((wayL us c : Nat) : Int) + 1 + r) % 3 = ((v : Nat) : Int) := by omega
        refine ⟨_, _, rfl, rfl, _, _, rfl, rfl, (by show (0 : Int) < 3; decide), two_le, fun t ht => ?_⟩
        have s5 := Same.new (o := .tup [V.int (c : Nat), V.int ((((wayL us c : Nat) : Int) + 1 + r) % 3)]) ht
        have hT5 : TAt (upd H4 t (.tup [V.int (c : Nat), V.int ((((wayL us c : Nat) : Int) + 1 + r) % 3)])) t m c v := ⟨by rw [upd_same, ev], hcm, v3⟩
        have hS5 := (hS2.mono (tupL M2 e4)).mono (sameT s5)
        have e5 := (e2.trans e4).trans (ExtL.same s5)
        have M5 := M4.keep s5
        have hB5 := s5 _ _ (e4 _ _ nBp nBl hB2)
        have hb5 := s5 _ _ (e4 _ _ nbp nbl hb2)
        have hP5 := (hP2.mono (tupL M2 e4)).mono (sameT s5)
        generalize upd H4 t (.tup [V.int (c : Nat), V.int ((((wayL us c : Nat) : Int) + 1 + r) % 3)]) = H5 at hT5 hS5 e5 M5 hB5 hb5 hP5
        refine ⟨_, rfl, _, rfl, _, rfl, q, t, m, c, v, us, rfl, by omega, hS5, hT5, fun H6 q6 s6 hq6 => ⟨D, q6, m, ps, _, rfl, L, by omega, s6 _ _ (e5 _ _ nDp nDl hD), hq6, fun H7 s7 => ⟨_, rfl, _, _, rfl, rfl, _, rfl, ?_⟩⟩⟩
        have s67 := s6.trans s7
        have less := Cn_less I hS5.ok hcm v3
        have M7 := M5.keep s67
        have e7 := e5.trans (ExtL.same s67)
        have hS7 := hS5.mono (sameT s67)
        have hB7 := s67 _ _ hB5
        have hb7 := s67 _ _ hb5
        have hP7 := hP5.mono (sameT s67)
        have hT7 := hT5.mono s67
        refine ite2 (fun hb => ?_) (fun hb => ?_)
        · have hb : (decide (((Cn (far ps) m (us.set c v) : Nat) : Int) < ((Cn (far ps) m us : Nat) : Int))) = true := hb
          obtain ⟨t1, t2⟩ := less.mp (by have := of_decide_eq_true hb; omega)
          have lbs : bs.length = ts.length := hP7.len
          refine ⟨_, rfl, .inl ⟨rfl, _, SqL.of hB7⟩, _, rfl, B, _, _, rfl, rfl, hB7, small1000 (by rw [List.length_map]; omega), ?_⟩
          have t8 : ∀ a xs, H7 a = some (.tup xs) → (upd H7 B (.lst (refs bs ++ [V.ref t]))) a = some (.tup xs) := fun a xs h => (upd_ne (ne_of h hB7 (by intro z; cases z))).trans h
          have p8 : PL (upd H7 B (.lst (refs bs ++ [V.ref t]))) (bs ++ [t]) (ts ++ [(c, v)]) := (hP7.mono t8).app (.cons (t8 _ _ hT7.1) .nil)
          have hB8 : (upd H7 B (.lst (refs bs ++ [V.ref t]))) B = some (.lst (refs (bs ++ [t]))) := by
            rw [upd_same, refs_app]
            rfl
          have hb8 : (upd H7 B (.lst (refs bs ++ [V.ref t]))) b = some (.lst (nats cs)) := (upd_ne (fun z => nBb z.symm)).trans hb7
          have hS8 := hS7.mono t8
          have hT8 : TAt (upd H7 B (.lst (refs bs ++ [V.ref t]))) t m c v := ⟨t8 _ _ hT7.1, hT7.2⟩
          have M8 := ML.wrN (o := .lst (refs bs ++ [V.ref t])) M nB M7
          have e8 := ExtL.wr (o := .lst (refs bs ++ [V.ref t])) e7 nB
          generalize upd H7 B (.lst (refs bs ++ [V.ref t])) = H8 at p8 hB8 hb8 hS8 hT8 M8 e8
          refine ⟨_, rfl, _, rfl, q, t, m, c, v, us, rfl, by omega, hS8, hT8, fun H9 q9 s9 hq9 => ⟨_, rfl, _, _, rfl, rfl, _, _, rfl, ?_⟩⟩
          have dn := (Cn_set I hS2.ok hcm v3).1 ⟨t1, t2⟩
          refine ⟨q9, some (.int (c : Nat)), some (.ref t), bs ++ [t], _, ts ++ [(c, v)], ?_, M8.keep s9 |>.lt (by omega) (by omega), e8.trans (ExtL.same s9), hq9, s9 _ _ hB8, s9 _ _ hb8, p8.mono (sameT s9), fun rest hr => ?_, fun j d hj hd => ?_, by rw [List.length_append]; exact Nat.succ_le_succ lts⟩
          · rw [show ((Cn (far ps) m (us.set c v) : Nat) : Int) = ((Cn (far ps) m us : Nat) : Int) - 1 by omega]
            rfl
          · have := hLD _ (.cons hcm v3 t1 t2 hr)
            rw [List.append_assoc]
            exact this
          · have hdm : d < m := List.mem_range.mp (hbp.mem_iff.mp (List.mem_of_getElem? hd))
            by_cases ji : j = i
            · subst ji
              cases hd.symm.trans hc
              exact two_after I hS2.ok hcm v3 t1 t2
            · exact two_stay I hS2.ok hdm hcm v3 (hT j d (by omega) hd) t1 t2
        · have hb : ¬ (decide (((Cn (far ps) m (us.set c v) : Nat) : Int) < ((Cn (far ps) m us : Nat) : Int))) = true := hb
          refine ⟨q, _, _, bs, us, ts, rfl, M7.lt (by omega) (by omega), e7, hS7, hB7, hb7, hP7, hLD, fun j d hj hd => ?_, by omega⟩
          by_cases ji : j = i
          · subst ji
            cases hd.symm.trans hc
            exact fun t => hb (decide_eq_true (by
              have := less.mpr ⟨t, vn⟩
              omega))
          · exact hT j d (by omega) hd
      · rintro σ H2 ⟨q, v5, v6, bs, us, ts, rfl, M2, e2, hS2, hB2, hb2, hP2, hLD, hT, lts⟩
        rw [List.length_map, lcs] at hT M2
        have one : Cn (far ps) m us ≤ 1 := by
          rcases Nat.lt_or_ge 1 (Cn (far ps) m us) with h | h
          · obtain ⟨c, hc, t⟩ := two_some L Wh hpos hS2.ok h
            obtain ⟨j, hj⟩ := List.mem_iff_getElem?.mp (hbp.mem_iff.mpr (List.mem_range.mpr hc))
            exact absurd t (hT j c (by have := (List.getElem?_eq_some_iff.mp hj).1; omega) hj)
          · exact h
        have := hLD [] (.nil one)
        rw [List.append_nil] at this
        refine ⟨_, rfl, .inl ⟨B, _, rfl, SqL.of hB2, fun w5 hw5 => ?_⟩⟩
        have s5 := Same.new (o := .tup (refs bs)) hw5
        exact k _ w5 bs ts ((M2.keep s5).lt (by omega) (by omega)) (e2.trans (ExtL.same s5)) upd_same (hP2.mono (sameT s5)) this
end
end One
end P_U6

section P_LO
set_option linter.all false
set_option maxRecDepth 100000
set_option maxHeartbeats 16000000
namespace One
open PySem PySem.Spec PyProof.Rows L2
def CPowB (i j : Int) : Prop := 0 ≤ j ∧ (Builtin.Int.intBits i : Int) * j ≤ 2 ^ 27
theorem op_powB {X : Cx} : OpR X (binaryOp .Pow) (rI CPowB fun i j => .int (i ^ j.toNat)) := opI fun _ _ _ _ _ _ _ hc q => pow_int hc.1 hc.2 q
theorem powB_30 : CPowB 10 30 := ⟨by decide, by decide +kernel⟩
theorem da_new {p a l q : Addr} {H : Hp} {n : Nat} {xs : List V} {ds : List PyData} (M : ML H p a l n) (hq : H q = none) (h : DaAll p l H xs ds) : Da p l (upd H q (.tup xs)) (.ref q) (.tuple ds) :=
  .tup (M.apart hq).1 (M.apart hq).2 upd_same (DaAll.extT (ExtT.ofS (Same.new hq)) _ _ h)
theorem int_short2 : ∀ i : Int, -1000 ≤ i → i < 1000 → (PyData.shown (.int i)).length ≤ 8 ∧ PyData.showable (.int i) = true := by
  have h : ∀ n : Fin 2000, (PyData.shown (.int (((n : Nat) : Int) - 1000))).length ≤ 8 ∧ PyData.showable (.int (((n : Nat) : Int) - 1000)) = true := by decide +kernel
  intro i h0 h1
  have := h ⟨(i + 1000).toNat, by omega⟩
  rwa [show ((((⟨(i + 1000).toNat, by omega⟩ : Fin 2000) : Nat) : Int)) - 1000 = i by
    show (((i + 1000).toNat : Nat) : Int) - 1000 = i
    omega] at this
theorem fxI {i : Int} (a : -1000 ≤ i) (b : i < 1000) : Fx (.int i) 0 0 := by
  obtain ⟨s1, s2⟩ := int_short2 i a b
  refine ⟨s2, Nat.le_refl _, ?_, Nat.zero_le _⟩
  show decide (_ ≤ 40) = true
  exact decide_eq_true (Nat.le_trans s1 (by decide))
theorem fx2 {x y : PyData} (a : Fx x 0 0) (b : Fx y 0 0) : Fx (.tuple [x, y]) 2 10 := (FxA.cons a (FxA.cons b (FxA.nil (n := 0)))).tup.up (by decide) (by decide)
def FxL (ds : List PyData) : Prop := ∀ d ∈ ds, Fx d 2 10
theorem FxL.nil : FxL [] := fun d h => absurd h (by simp)
theorem FxL.cons {d : PyData} {ds : List PyData} (a : Fx d 2 10) (b : FxL ds) : FxL (d :: ds) := fun e he => by
  rcases List.mem_cons.mp he with rfl | he
  · exact a
  · exact b e he
abbrev sOd : Stmt := top 76
abbrev nOd : List Str := ["state", "many", "this", "some"]
theorem scOd : FnScope nOd ["state", "many"] (defScope sOd) := ⟨rfl, rfl, rfl, by decide +kernel, rfl, by decide +kernel, by decide +kernel⟩
def spOd : Sp := fun vs H Q _ => ∃ (p a l : Addr) (n m : Nat), vs = [.ref p, .int (m : Nat)] ∧ ML H p a l n ∧ n ≤ 900000 ∧ 0 < m ∧ m ≤ 40 ∧ ∀ (H' : Hp) (v : V) (d : PyData), ML H' p a l (n + 3) → ExtL p l H H' → Da p l H' v d → Fx d 2 10 → Q v H'
section
variable {P : Program} {w : World} {K : PySem.W.Frag} {mg : Str → Option Value} {base : Heap}
theorem ok_od {f fD : Addr} {fd fdD : FuncData} (F : Fun K "_law_odd" "_law_odd" sOd f fd) (T : TB mg) (D : Cal K mg "_law_draw" fD fdD ["state", "many"]) (GD : FnOk P w K mg base CX0 2 fD fdD ["state", "many"] spDR) : FnOk P w K mg base CX0 3 f fd ["state", "many"] spOd := by
  refine F.ok scOd (fun vs H Q E h => ?_) (fun cdv A outer s H vs Q E hr h => ?_)
  · obtain ⟨p, a, l, n, m, rfl, _⟩ := h
    rfl
  obtain ⟨p, a, l, n, m, rfl, M, hn, m0, m40, k⟩ := h
  · have nd := scOd.nd
    have hr2 : Room 2 _ := hr
    refine ⟨_, pss_cons (ps_set (i := 2) nd rfl (Or.inl rfl) (pe_tup (pa_cons (pe_call GD hr2 rfl D.g D.kp D.b .nil pass0 (pa_cons (pv 0) (pa_cons (pv 1) pa_nil))) (pa_cons (pe_call GD hr2 rfl D.g D.kp D.b .nil pass0 (pa_cons (pv 0) (pa_cons pe_int pa_nil))) pa_nil))))
      (pss_cons (ps_set (i := 3) nd rfl (Or.inl rfl) (pe_lst (pa_cons (pv 2) (pa_cons (pv 2) (pa_cons (pe_tup (pa_cons (pv 1) (pa_cons pe_int pa_nil))) (pa_cons (pe_tup (pa_cons (pe_un un_neg pe_int) (pa_cons pe_int pa_nil))) (pa_cons (pe_tup (pa_cons pe_int (pa_cons pe_int pa_nil))) (pa_cons (pe_tup (pa_cons pe_int (pa_cons (pe_un un_neg pe_int) pa_nil))) (pa_cons (pe_tup (pa_cons pe_bl (pa_cons pe_int pa_nil))) (pa_cons (pe_tup (pa_cons pe_int (pa_cons pe_bl pa_nil))) (pa_cons (pe_tup (pa_cons pe_non (pa_cons pe_int pa_nil))) pa_nil)))))))))))
      (pss_cons (ps_set (i := 3) nd rfl (Or.inl rfl) (pe_op op_catS (pv 3) (pe_lst (pa_cons (pe_tup (pa_cons pe_int (pa_cons pe_str pa_nil))) (pa_cons pe_non (pa_cons pe_int (pa_cons (pe_tup pa_nil) (pa_cons (pe_callTy call_listN (by rfl) T.list (by decide +kernel) (pa_cons (pv 2) pa_nil) (by decide)) (pa_cons (pe_op op_catA (pv 2) (pe_tup (pa_cons pe_int pa_nil))) (pa_cons (pe_slice sl_tupA (pv 2) po_none (po_some pe_int)) (pa_cons (pe_tup (pa_cons (pv 2) pa_nil)) pa_nil)))))))))))
      (pss_cons (ps_set (i := 3) nd rfl (Or.inl rfl) (pe_op op_catS (pv 3) (pe_lst (pa_cons pe_str (pa_cons pe_dnewK (pa_cons (pe_tup (pa_cons (pe_tup (pa_cons pe_int pa_nil)) (pa_cons pe_int pa_nil))) (pa_cons (pe_tup (pa_cons (pe_op op_powB pe_int pe_int) (pa_cons pe_int pa_nil))) pa_nil)))))))
      (pss_one (ps_ret (pe_ix ix_list (pv 3) (pe_call GD hr2 rfl D.g D.kp D.b .nil pass0 (pa_cons (pv 0) (pa_cons pe_int pa_nil))) (fun _ _ => rfl))))))), ?_⟩
    refine ⟨_, rfl, _, rfl, p, a, l, n, (m : Nat), rfl, M, by omega, by omega, by omega, fun H1 r1 M1 e1 ra0 ra1 => ?_⟩
    refine ⟨_, rfl, p, a, l, _, 3, rfl, M1, by omega, by decide, by decide, fun H2 r2 M2 e2 rb0 rb1 => ?_⟩
    refine ⟨two_le, fun qt ht => ?_⟩
    have st := Same.new (o := .tup [V.int r1, V.int r2]) ht
    have xt := da_new (ds := [.int r1, .int r2]) M2 ht (xs := [V.int r1, V.int r2]) (.cons (.int _) (.cons (.int _) .nil))
    generalize upd H2 qt (.tup [V.int r1, V.int r2]) = H_t at st xt
    have M_t := M2.keep st
    have ht : H_t qt = some (.tup [V.int r1, V.int r2]) := by cases xt with | tup _ _ f g => cases g with | cons g1 g2 => cases g1; cases g2 with | cons g3 g4 => cases g3; cases g4; exact f
    refine ⟨_, rfl, _, rfl, _, rfl, two_le, fun qA hA => ?_⟩
    have sA := Same.new (o := .tup [V.int (m : Nat), V.int 0]) hA
    have xA := da_new (ds := [.int (m : Nat), .int 0]) M_t hA (xs := [V.int (m : Nat), V.int 0]) (.cons (.int _) (.cons (.int _) .nil))
    generalize upd H_t qA (.tup [V.int (m : Nat), V.int 0]) = H_A at sA xA
    have M_A := M_t.keep sA
    refine ⟨_, rfl, two_le, fun qB hB => ?_⟩
    have sB := Same.new (o := .tup [V.int (-1), V.int 1]) hB
    have xB := da_new (ds := [.int (-1), .int 1]) M_A hB (xs := [V.int (-1), V.int 1]) (.cons (.int _) (.cons (.int _) .nil))
    generalize upd H_A qB (.tup [V.int (-1), V.int 1]) = H_B at sB xB
    have M_B := M_A.keep sB
    refine ⟨two_le, fun qC hC => ?_⟩
    have sC := Same.new (o := .tup [V.int 0, V.int 3]) hC
    have xC := da_new (ds := [.int 0, .int 3]) M_B hC (xs := [V.int 0, V.int 3]) (.cons (.int _) (.cons (.int _) .nil))
    generalize upd H_B qC (.tup [V.int 0, V.int 3]) = H_C at sC xC
    have M_C := M_B.keep sC
    refine ⟨_, rfl, two_le, fun qD hD => ?_⟩
    have sD := Same.new (o := .tup [V.int 0, V.int (-1)]) hD
    have xD := da_new (ds := [.int 0, .int (-1)]) M_C hD (xs := [V.int 0, V.int (-1)]) (.cons (.int _) (.cons (.int _) .nil))
    generalize upd H_C qD (.tup [V.int 0, V.int (-1)]) = H_D at sD xD
    have M_D := M_C.keep sD
    refine ⟨two_le, fun qE hE => ?_⟩
    have sE := Same.new (o := .tup [V.bl true, V.int 0]) hE
    have xE := da_new (ds := [.bool true, .int 0]) M_D hE (xs := [V.bl true, V.int 0]) (.cons (.bl _) (.cons (.int _) .nil))
    generalize upd H_D qE (.tup [V.bl true, V.int 0]) = H_E at sE xE
    have M_E := M_D.keep sE
    refine ⟨two_le, fun qF hF => ?_⟩
    have sF := Same.new (o := .tup [V.int 0, V.bl false]) hF
    have xF := da_new (ds := [.int 0, .bool false]) M_E hF (xs := [V.int 0, V.bl false]) (.cons (.int _) (.cons (.bl _) .nil))
    generalize upd H_E qF (.tup [V.int 0, V.bl false]) = H_F at sF xF
    have M_F := M_E.keep sF
    refine ⟨two_le, fun qG hG => ?_⟩
    have sG := Same.new (o := .tup [V.non, V.int 0]) hG
    have xG := da_new (ds := [.none, .int 0]) M_F hG (xs := [V.non, V.int 0]) (.cons (.non) (.cons (.int _) .nil))
    generalize upd H_F qG (.tup [V.non, V.int 0]) = H_G at sG xG
    have M_G := M_F.keep sG
    refine ⟨(by show 9 ≤ sizeLine; decide), fun qL1 hL1 => ?_⟩
    have sL1 := Same.new (o := .lst [V.ref qt, V.ref qt, V.ref qA, V.ref qB, V.ref qC, V.ref qD, V.ref qE, V.ref qF, V.ref qG]) hL1
    have gL1 := upd_same (H := H_G) (a := qL1) (o := .lst [V.ref qt, V.ref qt, V.ref qA, V.ref qB, V.ref qC, V.ref qD, V.ref qE, V.ref qF, V.ref qG])
    generalize upd H_G qL1 (.lst [V.ref qt, V.ref qt, V.ref qA, V.ref qB, V.ref qC, V.ref qD, V.ref qE, V.ref qF, V.ref qG]) = H_L1 at sL1 gL1
    have M_L1 := M_G.keep sL1
    refine ⟨_, rfl, two_le, fun qI0 hI0 => ?_⟩
    have sI0 := Same.new (o := .tup [V.int 0, V.str "1"]) hI0
    have xI0 := da_new (ds := [.int 0, .str "1"]) M_L1 hI0 (xs := [V.int 0, V.str "1"]) (.cons (.int _) (.cons (.str _) .nil))
    generalize upd H_L1 qI0 (.tup [V.int 0, V.str "1"]) = H_I0 at sI0 xI0
    have M_I0 := M_L1.keep sI0
    refine ⟨Nat.zero_le _, fun qI hI => ?_⟩
    have sI := Same.new (o := .tup []) hI
    have xI := da_new (ds := []) M_I0 hI (xs := []) .nil
    generalize upd H_I0 qI (.tup []) = H_I at sI xI
    have M_I := M_I0.keep sI
    refine ⟨_, rfl, qt, _, rfl, SqT.of ((sA.trans (sB.trans (sC.trans (sD.trans (sE.trans (sF.trans (sG.trans (sL1.trans (sI0.trans sI))))))))) _ _ ht), fun qJ nJ hJ => ?_⟩
    have sJ := Same.new (o := .lst [V.int r1, V.int r2]) hJ
    have xJ : Da p l (upd H_I qJ (.lst [V.int r1, V.int r2])) (.ref qJ) (.list [.int r1, .int r2]) := .lst (M_I.apart hJ).1 (M_I.apart hJ).2 nJ upd_same (.cons (.int _) (.cons (.int _) .nil))
    generalize upd H_I qJ (.lst [V.int r1, V.int r2]) = H_J at sJ xJ
    have M_J := M_I.keep sJ
    refine ⟨_, rfl, (by show 1 ≤ sizeLine; decide), fun k1 hk1 => ?_⟩
    have sk := Same.new (o := .tup [V.int 0]) hk1
    have gk := upd_same (H := H_J) (a := k1) (o := .tup [V.int 0])
    generalize upd H_J k1 (.tup [V.int 0]) = H_k at sk gk
    have M_k := M_J.keep sk
    refine rd_catA ((sA.trans (sB.trans (sC.trans (sD.trans (sE.trans (sF.trans (sG.trans (sL1.trans (sI0.trans (sI.trans (sJ.trans sk))))))))))) _ _ ht) gk (by show 3 ≤ sizeLine; decide) fun H_K qK sK gK => ?_
    have M_K := M_k.keep sK
    have xK : Da p l H_K (.ref qK) (.tuple [.int r1, .int r2, .int 0]) := .tup (tup_off M_K gK).1 (tup_off M_K gK).2 gK (.cons (.int _) (.cons (.int _) (.cons (.int _) .nil)))
    refine ⟨_, rfl, ?_⟩
    unfold tNoPart
    dsimp only
    refine ⟨_, rfl, rd_slA ((sA.trans (sB.trans (sC.trans (sD.trans (sE.trans (sF.trans (sG.trans (sL1.trans (sI0.trans (sI.trans (sJ.trans (sk.trans sK)))))))))))) _ _ ht) fun H_S qS sS gS => ?_⟩
    have M_S := M_K.keep sS
    have gS : H_S qS = some (.tup [V.int r1]) := gS
    have xS : Da p l H_S (.ref qS) (.tuple [.int r1]) := .tup (tup_off M_S gS).1 (tup_off M_S gS).2 gS (.cons (.int _) .nil)
    refine ⟨_, rfl, (by show 1 ≤ sizeLine; decide), fun qZ hZ => ?_⟩
    have sZ := Same.new (o := .tup [V.ref qt]) hZ
    have xZ := da_new (ds := [.tuple [.int r1, .int r2]]) M_S hZ (xs := [V.ref qt]) (.cons (Da.extT (ExtT.ofS (sA.trans (sB.trans (sC.trans (sD.trans (sE.trans (sF.trans (sG.trans (sL1.trans (sI0.trans (sI.trans (sJ.trans (sk.trans (sK.trans sS)))))))))))))) _ _ xt) .nil)
    generalize upd H_S qZ (.tup [V.ref qt]) = H_Z at sZ xZ
    have M_Z := M_S.keep sZ
    refine ⟨(by show 8 ≤ sizeLine; decide), fun qL2 hL2 => ?_⟩
    have sL2 := Same.new (o := .lst [V.ref qI0, V.non, V.int 5, V.ref qI, V.ref qJ, V.ref qK, V.ref qS, V.ref qZ]) hL2
    have gL2 := upd_same (H := H_Z) (a := qL2) (o := .lst [V.ref qI0, V.non, V.int 5, V.ref qI, V.ref qJ, V.ref qK, V.ref qS, V.ref qZ])
    generalize upd H_Z qL2 (.lst [V.ref qI0, V.non, V.int 5, V.ref qI, V.ref qJ, V.ref qK, V.ref qS, V.ref qZ]) = H_L2 at sL2 gL2
    have M_L2 := M_Z.keep sL2
    refine ⟨qL1, qL2, _, _, rfl, rfl, SqL.of ((sI0.trans (sI.trans (sJ.trans (sk.trans (sK.trans (sS.trans (sZ.trans sL2))))))) _ _ gL1), gL2, Nat.le_of_lt (small1000 (by show 17 ≤ 1000; decide)), fun qL3 hL3 => ?_⟩
    have sL3 := Same.new (o := .lst ([V.ref qt, V.ref qt, V.ref qA, V.ref qB, V.ref qC, V.ref qD, V.ref qE, V.ref qF, V.ref qG] ++ [V.ref qI0, V.non, V.int 5, V.ref qI, V.ref qJ, V.ref qK, V.ref qS, V.ref qZ])) hL3
    have gL3 := upd_same (H := H_L2) (a := qL3) (o := .lst ([V.ref qt, V.ref qt, V.ref qA, V.ref qB, V.ref qC, V.ref qD, V.ref qE, V.ref qF, V.ref qG] ++ [V.ref qI0, V.non, V.int 5, V.ref qI, V.ref qJ, V.ref qK, V.ref qS, V.ref qZ]))
    have M_L3 := M_L2.keep sL3
    generalize upd H_L2 qL3 (.lst ([V.ref qt, V.ref qt, V.ref qA, V.ref qB, V.ref qC, V.ref qD, V.ref qE, V.ref qF, V.ref qG] ++ [V.ref qI0, V.non, V.int 5, V.ref qI, V.ref qJ, V.ref qK, V.ref qS, V.ref qZ])) = H_L3 at sL3 gL3 M_L3
    have gL3 : H_L3 qL3 = some (.lst [V.ref qt, V.ref qt, V.ref qA, V.ref qB, V.ref qC, V.ref qD, V.ref qE, V.ref qF, V.ref qG, V.ref qI0, V.non, V.int 5, V.ref qI, V.ref qJ, V.ref qK, V.ref qS, V.ref qZ]) := gL3
    refine ⟨_, rfl, fun qN hN => ?_⟩
    have sN := Same.new (o := .dK []) hN
    have xN : Da p l (upd H_L3 qN (.dK [])) (.ref qN) (.dict []) := .emp (M_L3.apart hN).1 (M_L3.apart hN).2 upd_same
    generalize upd H_L3 qN (.dK []) = H_N at sN xN
    have M_N := M_L3.keep sN
    refine ⟨(by show 1 ≤ sizeLine; decide), fun qO1 hO1 => ?_⟩
    have sO1 := Same.new (o := .tup [V.int 0]) hO1
    have xO1 := da_new (ds := [.int 0]) M_N hO1 (xs := [V.int 0]) (.cons (.int _) .nil)
    generalize upd H_N qO1 (.tup [V.int 0]) = H_O1 at sO1 xO1
    have M_O1 := M_N.keep sO1
    refine ⟨two_le, fun qO hO => ?_⟩
    have sO := Same.new (o := .tup [V.ref qO1, V.int 1]) hO
    have xO := da_new (ds := [.tuple [.int 0], .int 1]) M_O1 hO (xs := [V.ref qO1, V.int 1]) (.cons xO1 (.cons (.int _) .nil))
    generalize upd H_O1 qO (.tup [V.ref qO1, V.int 1]) = H_O at sO xO
    have M_O := M_O1.keep sO
    refine ⟨_, _, rfl, rfl, powB_30, two_le, fun qP hP => ?_⟩
    have sP := Same.new (o := .tup [(fun i j : Int => V.int (i ^ j.toNat)) 10 30, V.int 0]) hP
    have xP := da_new (ds := [.int (10 ^ 30), .int 0]) M_O hP (xs := [(fun i j : Int => V.int (i ^ j.toNat)) 10 30, V.int 0]) (.cons (.int _) (.cons (.int _) .nil))
    generalize upd H_O qP (.tup [(fun i j : Int => V.int (i ^ j.toNat)) 10 30, V.int 0]) = H_P at sP xP
    have M_P := M_O.keep sP
    refine ⟨(by show 4 ≤ sizeLine; decide), fun qL4 hL4 => ?_⟩
    have sL4 := Same.new (o := .lst [V.str "ab", V.ref qN, V.ref qO, V.ref qP]) hL4
    have gL4 := upd_same (H := H_P) (a := qL4) (o := .lst [V.str "ab", V.ref qN, V.ref qO, V.ref qP])
    generalize upd H_P qL4 (.lst [V.str "ab", V.ref qN, V.ref qO, V.ref qP]) = H_L4 at sL4 gL4
    have M_L4 := M_P.keep sL4
    refine ⟨qL3, qL4, _, _, rfl, rfl, SqL.of ((sN.trans (sO1.trans (sO.trans (sP.trans sL4)))) _ _ gL3), gL4, Nat.le_of_lt (small1000 (by show 21 ≤ 1000; decide)), fun qL5 hL5 => ?_⟩
    have sL5 := Same.new (o := .lst ([V.ref qt, V.ref qt, V.ref qA, V.ref qB, V.ref qC, V.ref qD, V.ref qE, V.ref qF, V.ref qG, V.ref qI0, V.non, V.int 5, V.ref qI, V.ref qJ, V.ref qK, V.ref qS, V.ref qZ] ++ [V.str "ab", V.ref qN, V.ref qO, V.ref qP])) hL5
    have gL5 := upd_same (H := H_L4) (a := qL5) (o := .lst ([V.ref qt, V.ref qt, V.ref qA, V.ref qB, V.ref qC, V.ref qD, V.ref qE, V.ref qF, V.ref qG, V.ref qI0, V.non, V.int 5, V.ref qI, V.ref qJ, V.ref qK, V.ref qS, V.ref qZ] ++ [V.str "ab", V.ref qN, V.ref qO, V.ref qP]))
    have M_L5 := M_L4.keep sL5
    generalize upd H_L4 qL5 (.lst ([V.ref qt, V.ref qt, V.ref qA, V.ref qB, V.ref qC, V.ref qD, V.ref qE, V.ref qF, V.ref qG, V.ref qI0, V.non, V.int 5, V.ref qI, V.ref qJ, V.ref qK, V.ref qS, V.ref qZ] ++ [V.str "ab", V.ref qN, V.ref qO, V.ref qP])) = H_L5 at sL5 gL5 M_L5
    have gL5 : H_L5 qL5 = some (.lst [V.ref qt, V.ref qt, V.ref qA, V.ref qB, V.ref qC, V.ref qD, V.ref qE, V.ref qF, V.ref qG, V.ref qI0, V.non, V.int 5, V.ref qI, V.ref qJ, V.ref qK, V.ref qS, V.ref qZ, V.str "ab", V.ref qN, V.ref qO, V.ref qP]) := gL5
    obtain ⟨l5p, l5l⟩ := M_L4.apart hL5
    have yt := Da.extT (ExtT.ofS (sA.trans (sB.trans (sC.trans (sD.trans (sE.trans (sF.trans (sG.trans (sL1.trans (sI0.trans (sI.trans (sJ.trans (sk.trans (sK.trans (sS.trans (sZ.trans (sL2.trans (sL3.trans (sN.trans (sO1.trans (sO.trans (sP.trans (sL4.trans sL5))))))))))))))))))))))) _ _ xt
    have yA := Da.extT (ExtT.ofS (sB.trans (sC.trans (sD.trans (sE.trans (sF.trans (sG.trans (sL1.trans (sI0.trans (sI.trans (sJ.trans (sk.trans (sK.trans (sS.trans (sZ.trans (sL2.trans (sL3.trans (sN.trans (sO1.trans (sO.trans (sP.trans (sL4.trans sL5)))))))))))))))))))))) _ _ xA
    have yB := Da.extT (ExtT.ofS (sC.trans (sD.trans (sE.trans (sF.trans (sG.trans (sL1.trans (sI0.trans (sI.trans (sJ.trans (sk.trans (sK.trans (sS.trans (sZ.trans (sL2.trans (sL3.trans (sN.trans (sO1.trans (sO.trans (sP.trans (sL4.trans sL5))))))))))))))))))))) _ _ xB
    have yC := Da.extT (ExtT.ofS (sD.trans (sE.trans (sF.trans (sG.trans (sL1.trans (sI0.trans (sI.trans (sJ.trans (sk.trans (sK.trans (sS.trans (sZ.trans (sL2.trans (sL3.trans (sN.trans (sO1.trans (sO.trans (sP.trans (sL4.trans sL5)))))))))))))))))))) _ _ xC
    have yD := Da.extT (ExtT.ofS (sE.trans (sF.trans (sG.trans (sL1.trans (sI0.trans (sI.trans (sJ.trans (sk.trans (sK.trans (sS.trans (sZ.trans (sL2.trans (sL3.trans (sN.trans (sO1.trans (sO.trans (sP.trans (sL4.trans sL5))))))))))))))))))) _ _ xD
    have yE := Da.extT (ExtT.ofS (sF.trans (sG.trans (sL1.trans (sI0.trans (sI.trans (sJ.trans (sk.trans (sK.trans (sS.trans (sZ.trans (sL2.trans (sL3.trans (sN.trans (sO1.trans (sO.trans (sP.trans (sL4.trans sL5)))))))))))))))))) _ _ xE
    have yF := Da.extT (ExtT.ofS (sG.trans (sL1.trans (sI0.trans (sI.trans (sJ.trans (sk.trans (sK.trans (sS.trans (sZ.trans (sL2.trans (sL3.trans (sN.trans (sO1.trans (sO.trans (sP.trans (sL4.trans sL5))))))))))))))))) _ _ xF
    have yG := Da.extT (ExtT.ofS (sL1.trans (sI0.trans (sI.trans (sJ.trans (sk.trans (sK.trans (sS.trans (sZ.trans (sL2.trans (sL3.trans (sN.trans (sO1.trans (sO.trans (sP.trans (sL4.trans sL5)))))))))))))))) _ _ xG
    have yI0 := Da.extT (ExtT.ofS (sI.trans (sJ.trans (sk.trans (sK.trans (sS.trans (sZ.trans (sL2.trans (sL3.trans (sN.trans (sO1.trans (sO.trans (sP.trans (sL4.trans sL5)))))))))))))) _ _ xI0
    have yI := Da.extT (ExtT.ofS (sJ.trans (sk.trans (sK.trans (sS.trans (sZ.trans (sL2.trans (sL3.trans (sN.trans (sO1.trans (sO.trans (sP.trans (sL4.trans sL5))))))))))))) _ _ xI
    have yJ := Da.extT (ExtT.ofS (sk.trans (sK.trans (sS.trans (sZ.trans (sL2.trans (sL3.trans (sN.trans (sO1.trans (sO.trans (sP.trans (sL4.trans sL5)))))))))))) _ _ xJ
    have yK := Da.extT (ExtT.ofS (sS.trans (sZ.trans (sL2.trans (sL3.trans (sN.trans (sO1.trans (sO.trans (sP.trans (sL4.trans sL5)))))))))) _ _ xK
    have yS := Da.extT (ExtT.ofS (sZ.trans (sL2.trans (sL3.trans (sN.trans (sO1.trans (sO.trans (sP.trans (sL4.trans sL5))))))))) _ _ xS
    have yZ := Da.extT (ExtT.ofS (sL2.trans (sL3.trans (sN.trans (sO1.trans (sO.trans (sP.trans (sL4.trans sL5)))))))) _ _ xZ
    have yN := Da.extT (ExtT.ofS (sO1.trans (sO.trans (sP.trans (sL4.trans sL5))))) _ _ xN
    have yO := Da.extT (ExtT.ofS (sP.trans (sL4.trans sL5))) _ _ xO
    have yP := Da.extT (ExtT.ofS (sL4.trans sL5)) _ _ xP
    have all : DaAll p l H_L5 [V.ref qt, V.ref qt, V.ref qA, V.ref qB, V.ref qC, V.ref qD, V.ref qE, V.ref qF, V.ref qG, V.ref qI0, V.non, V.int 5, V.ref qI, V.ref qJ, V.ref qK, V.ref qS, V.ref qZ, V.str "ab", V.ref qN, V.ref qO, V.ref qP] [.tuple [.int r1, .int r2], .tuple [.int r1, .int r2], .tuple [.int (m : Nat), .int 0], .tuple [.int (-1), .int 1], .tuple [.int 0, .int 3], .tuple [.int 0, .int (-1)], .tuple [.bool true, .int 0], .tuple [.int 0, .bool false], .tuple [.none, .int 0], .tuple [.int 0, .str "1"], .none, .int 5, .tuple [], .list [.int r1, .int r2], .tuple [.int r1, .int r2, .int 0], .tuple [.int r1], .tuple [.tuple [.int r1, .int r2]], .str "ab", .dict [], .tuple [.tuple [.int 0], .int 1], .tuple [.int (10 ^ 30), .int 0]] := .cons yt (.cons yt (.cons yA (.cons yB (.cons yC (.cons yD (.cons yE (.cons yF (.cons yG (.cons yI0 (.cons (.non) (.cons (.int 5) (.cons yI (.cons yJ (.cons yK (.cons yS (.cons yZ (.cons (.str "ab") (.cons yN (.cons yO (.cons yP (.nil)))))))))))))))))))))
    have fit : FxL [.tuple [.int r1, .int r2], .tuple [.int r1, .int r2], .tuple [.int (m : Nat), .int 0], .tuple [.int (-1), .int 1], .tuple [.int 0, .int 3], .tuple [.int 0, .int (-1)], .tuple [.bool true, .int 0], .tuple [.int 0, .bool false], .tuple [.none, .int 0], .tuple [.int 0, .str "1"], .none, .int 5, .tuple [], .list [.int r1, .int r2], .tuple [.int r1, .int r2, .int 0], .tuple [.int r1], .tuple [.tuple [.int r1, .int r2]], .str "ab", .dict [], .tuple [.tuple [.int 0], .int 1], .tuple [.int (10 ^ 30), .int 0]] := FxL.cons (fx2 (fxI (by omega) (by omega)) (fxI (by omega) (by omega))) (FxL.cons (fx2 (fxI (by omega) (by omega)) (fxI (by omega) (by omega))) (FxL.cons (fx2 (fxI (by omega) (by omega)) (fxI (by decide) (by decide))) (FxL.cons (⟨by decide +kernel, by decide +kernel, by decide +kernel, by decide +kernel⟩) (FxL.cons (⟨by decide +kernel, by decide +kernel, by decide +kernel, by decide +kernel⟩) (FxL.cons (⟨by decide +kernel, by decide +kernel, by decide +kernel, by decide +kernel⟩) (FxL.cons (⟨by decide +kernel, by decide +kernel, by decide +kernel, by decide +kernel⟩) (FxL.cons (⟨by decide +kernel, by decide +kernel, by decide +kernel, by decide +kernel⟩) (FxL.cons (⟨by decide +kernel, by decide +kernel, by decide +kernel, by decide +kernel⟩) (FxL.cons (⟨by decide +kernel, by decide +kernel, by decide +kernel, by decide +kernel⟩) (FxL.cons (⟨by decide +kernel, by decide +kernel, by decide +kernel, by decide +kernel⟩) (FxL.cons (⟨by decide +kernel, by decide +kernel, by decide +kernel, by decide +kernel⟩) (FxL.cons (⟨by decide +kernel, by decide +kernel, by decide +kernel, by decide +kernel⟩) (FxL.cons ((FxA.cons (fxI (by omega) (by omega)) (FxA.cons (fxI (by omega) (by omega)) (FxA.nil (n := 0)))).lst.up (by decide) (by decide)) (FxL.cons ((FxA.cons (fxI (by omega) (by omega)) (FxA.cons (fxI (by omega) (by omega)) (FxA.cons (fxI (by decide) (by decide)) (FxA.nil (n := 0))))).tup.up (by decide) (by decide)) (FxL.cons ((FxA.cons (fxI (by omega) (by omega)) (FxA.nil (n := 0))).tup.up (by decide) (by decide)) (FxL.cons ((FxA.cons (FxA.cons (fxI (by omega) (by omega)) (FxA.cons (fxI (by omega) (by omega)) (FxA.nil (n := 0)))).tup (FxA.nil (n := 0))).tup.up (by decide) (by decide)) (FxL.cons (⟨by decide +kernel, by decide +kernel, by decide +kernel, by decide +kernel⟩) (FxL.cons (⟨by decide +kernel, by decide +kernel, by decide +kernel, by decide +kernel⟩) (FxL.cons (⟨by decide +kernel, by decide +kernel, by decide +kernel, by decide +kernel⟩) (FxL.cons (⟨by decide +kernel, by decide +kernel, by decide +kernel, by decide +kernel⟩) FxL.nil))))))))))))))))))))
    generalize hds : ([.tuple [.int r1, .int r2], .tuple [.int r1, .int r2], .tuple [.int (m : Nat), .int 0], .tuple [.int (-1), .int 1], .tuple [.int 0, .int 3], .tuple [.int 0, .int (-1)], .tuple [.bool true, .int 0], .tuple [.int 0, .bool false], .tuple [.none, .int 0], .tuple [.int 0, .str "1"], .none, .int 5, .tuple [], .list [.int r1, .int r2], .tuple [.int r1, .int r2, .int 0], .tuple [.int r1], .tuple [.tuple [.int r1, .int r2]], .str "ab", .dict [], .tuple [.tuple [.int 0], .int 1], .tuple [.int (10 ^ 30), .int 0]] : List PyData) = ds at all fit
    have gL5 : H_L5 qL5 = some (.lst [V.ref qt, V.ref qt, V.ref qA, V.ref qB, V.ref qC, V.ref qD, V.ref qE, V.ref qF, V.ref qG, V.ref qI0, V.non, V.int 5, V.ref qI, V.ref qJ, V.ref qK, V.ref qS, V.ref qZ, V.str "ab", V.ref qN, V.ref qO, V.ref qP]) := gL5
    have l21 : ([V.ref qt, V.ref qt, V.ref qA, V.ref qB, V.ref qC, V.ref qD, V.ref qE, V.ref qF, V.ref qG, V.ref qI0, V.non, V.int 5, V.ref qI, V.ref qJ, V.ref qK, V.ref qS, V.ref qZ, V.str "ab", V.ref qN, V.ref qO, V.ref qP] : List V).length = 21 := rfl
    generalize ([V.ref qt, V.ref qt, V.ref qA, V.ref qB, V.ref qC, V.ref qD, V.ref qE, V.ref qF, V.ref qG, V.ref qI0, V.non, V.int 5, V.ref qI, V.ref qJ, V.ref qK, V.ref qS, V.ref qZ, V.str "ab", V.ref qN, V.ref qO, V.ref qP] : List V) = xs at all gL5 l21
    refine ⟨_, rfl, _, rfl, p, a, l, _, 21, rfl, M_L5, by omega, by decide, by decide, fun HE r ME eE r0 rE => ?_⟩
    have hj : r.toNat < xs.length := by omega
    obtain ⟨d, hd, hda⟩ := all.get (List.getElem?_eq_getElem hj)
    refine ⟨qL5, _, _, xs[r.toNat], rfl, rfl, SqL.of (eE _ _ l5p l5l gL5), at_of (j := r.toNat) (by omega) (List.getElem?_eq_getElem hj), ?_⟩
    exact k HE _ d ME ((e1.trans e2).trans ((ExtL.same (st.trans (sA.trans (sB.trans (sC.trans (sD.trans (sE.trans (sF.trans (sG.trans (sL1.trans (sI0.trans (sI.trans (sJ.trans (sk.trans (sK.trans (sS.trans (sZ.trans (sL2.trans (sL3.trans (sN.trans (sO1.trans (sO.trans (sP.trans (sL4.trans sL5)))))))))))))))))))))))).trans eE)) (Da.extT (ExtT.ofL eE) _ _ hda) (fit d (List.mem_of_getElem? hd))
end
end One
end P_LO

section P_LB
set_option linter.all false
set_option maxRecDepth 100000
set_option maxHeartbeats 16000000
namespace One
open PySem PySem.Spec PyProof.Rows L2
/-- rows of things that are small -/
def Lk (p l : Addr) (H : Hp) (xs : List V) (n : Nat) : Prop := ∃ ds, DaAll p l H xs ds ∧ FxL ds ∧ xs.length ≤ n
section
variable {p l : Addr} {H H' : Hp} {xs ys : List V} {n k : Nat}
theorem Lk.extT (h : Lk p l H xs n) (e : ExtT p l H H') : Lk p l H' xs n := by
  obtain ⟨ds, a, b, c⟩ := h
  exact ⟨ds, DaAll.extT e _ _ a, b, c⟩
theorem Lk.same (h : Lk p l H xs n) (e : Same H H') : Lk p l H' xs n := h.extT (ExtT.ofS e)
theorem Lk.cut (h : Lk p l H xs n) (lo hi : Option Int) : Lk p l H (cutV xs lo hi) n := by
  obtain ⟨ds, a, b, c⟩ := h
  unfold cutV
  refine ⟨_, (a.drop _).take _, fun d hd => b d (List.mem_of_mem_drop (List.mem_of_mem_take hd)), ?_⟩
  rw [List.length_take, List.length_drop]
  omega
theorem Lk.app (h : Lk p l H xs n) (g : Lk p l H ys k) : Lk p l H (xs ++ ys) (n + k) := by
  obtain ⟨ds, a, b, c⟩ := h
  obtain ⟨es, a', b', c'⟩ := g
  refine ⟨_, DaAll.app a' a, fun d hd => ?_, by rw [List.length_append]; omega⟩
  rcases List.mem_append.mp hd with hd | hd
  · exact b d hd
  · exact b' d hd
theorem Lk.rev (h : Lk p l H xs n) : Lk p l H xs.reverse n := by
  obtain ⟨ds, a, b, c⟩ := h
  exact ⟨_, a.rev, fun d hd => b d (List.mem_reverse.mp hd), by rw [List.length_reverse]; exact c⟩
theorem Lk.one {v : V} {d : PyData} (h : Da p l H v d) (f : Fx d 2 10) : Lk p l H [v] 1 := ⟨[d], .cons h .nil, FxL.cons f FxL.nil, Nat.le_refl 1⟩
theorem Lk.len (h : Lk p l H xs n) : xs.length ≤ n := h.choose_spec.2.2
/-- the tuple of them -/
theorem Lk.tup {t : Addr} (h : Lk p l H xs n) (ht : H t = some (.tup xs)) (a : t ≠ p) (b : t ≠ l) (hn : n ≤ 800) : ∃ d, Da p l H (.ref t) d ∧ Fx d 3 9000 := by
  obtain ⟨ds, g, f, c⟩ := h
  have := fxA_all f
  have hl := g.len
  refine ⟨_, .tup a b ht g, this.tup.up (by decide) ?_⟩
  have : (10 + 1) * ds.length ≤ 11 * 800 := Nat.mul_le_mul_left 11 (by omega)
  omega
end
section
variable {K : PySem.W.Frag} {σ : L2.St} {i j : Nat} {q : Addr} {z : Int} {xs : List V} {H : Hp} {Q : VK}
theorem sl_to (hi : σ[i]? = some (some (V.ref q))) (hj : σ[j]? = some (some (V.int z))) (hq : H q = some (.tup xs)) (k : ∀ (H' : Hp) (t : Addr), Same H H' → H' t = some (.tup (cutV xs none (some z))) → Q (.ref t) H') : tSl (rSlA K) (tVar i) tNoPart (tPart (tVar j)) σ H Q :=
  ⟨_, hi, _, hj, _, rfl, rd_slA hq k⟩
theorem sl_from (hi : σ[i]? = some (some (V.ref q))) (hj : σ[j]? = some (some (V.int z))) (hq : H q = some (.tup xs)) (k : ∀ (H' : Hp) (t : Addr), Same H H' → H' t = some (.tup (cutV xs (some z) none)) → Q (.ref t) H') : tSl (rSlA K) (tVar i) (tPart (tVar j)) tNoPart σ H Q :=
  ⟨_, hi, _, hj, _, rfl, by unfold tNoPart; dsimp only; exact rd_slA hq k⟩
theorem sl_from1 {c : Int} (hi : σ[i]? = some (some (V.ref q))) (hj : σ[j]? = some (some (V.int z))) (hq : H q = some (.tup xs)) (k : ∀ (H' : Hp) (t : Addr), Same H H' → H' t = some (.tup (cutV xs (some (z + c)) none)) → Q (.ref t) H') :
    tSl (rSlA K) (tVar i) (tPart (tOp (rI0 fun i j => .int (i + j)) (tVar j) (tC (V.int c)))) tNoPart σ H Q :=
  ⟨_, hi, _, hj, _, _, rfl, rfl, _, rfl, by unfold tNoPart; dsimp only; exact rd_slA hq k⟩
theorem sl_one {c : Int} (hi : σ[i]? = some (some (V.ref q))) (hj : σ[j]? = some (some (V.int z))) (hq : H q = some (.tup xs)) (k : ∀ (H' : Hp) (t : Addr), Same H H' → H' t = some (.tup (cutV xs (some z) (some (z + c)))) → Q (.ref t) H') :
    tSl (rSlA K) (tVar i) (tPart (tVar j)) (tPart (tOp (rI0 fun i j => .int (i + j)) (tVar j) (tC (V.int c)))) σ H Q :=
  ⟨_, hi, _, hj, _, rfl, _, hj, _, _, rfl, rfl, _, rfl, rd_slA hq k⟩
theorem sl_two {c e : Int} (hi : σ[i]? = some (some (V.ref q))) (hj : σ[j]? = some (some (V.int z))) (hq : H q = some (.tup xs)) (k : ∀ (H' : Hp) (t : Addr), Same H H' → H' t = some (.tup (cutV xs (some (z + c)) (some (z + e)))) → Q (.ref t) H') :
    tSl (rSlA K) (tVar i) (tPart (tOp (rI0 fun i j => .int (i + j)) (tVar j) (tC (V.int c)))) (tPart (tOp (rI0 fun i j => .int (i + j)) (tVar j) (tC (V.int e)))) σ H Q :=
  ⟨_, hi, _, hj, _, _, rfl, rfl, _, rfl, _, hj, _, _, rfl, rfl, _, rfl, rd_slA hq k⟩
end
abbrev sBe : Stmt := top 77
abbrev nBe : List Str := ["state", "lead", "many", "way", "at", "swapped", "after", "found", "crossing", "other"]
theorem scBe : FnScope nBe ["state", "lead", "many"] (defScope sBe) := ⟨rfl, rfl, rfl, by decide +kernel, rfl, by decide +kernel, by decide +kernel⟩
def spBe : Sp := fun vs H Q _ => ∃ (p a l q : Addr) (n m : Nat) (xs : List V), vs = [.ref p, .ref q, .int (m : Nat)] ∧ ML H p a l n ∧ n ≤ 800000 ∧ 0 < m ∧ m ≤ 40 ∧ H q = some (.tup xs) ∧ Lk p l H xs 160 ∧
  ∀ (H' : Hp) (v : V) (d : PyData), ML H' p a l (n + 10) → ExtL p l H H' → Da p l H' v d → Fx d 4 9500 → Q v H'
section
variable {P : Program} {w : World} {K : PySem.W.Frag} {mg : Str → Option Value} {base : Heap}
theorem ok_be {f fD fO : Addr} {fd fdD fdO : FuncData} (F : Fun K "_law_bent" "_law_bent" sBe f fd) (T : TB mg) (D : Cal K mg "_law_draw" fD fdD ["state", "many"]) (GD : FnOk P w K mg base CX0 2 fD fdD ["state", "many"] spDR)
    (O : Cal K mg "_law_odd" fO fdO ["state", "many"]) (GO : FnOk P w K mg base CX0 3 fO fdO ["state", "many"] spOd) : FnOk P w K mg base CX0 4 f fd ["state", "lead", "many"] spBe := by
  refine F.ok scBe (fun vs H Q E h => ?_) (fun cdv A outer s H vs Q E hr h => ?_)
  · obtain ⟨p, a, l, q, n, m, xs, rfl, _⟩ := h
    rfl
  · obtain ⟨p, a, l, q, n, m, xs, rfl, M, hn, m0, m40, hq, hL, k⟩ := h
    have nd := scBe.nd
    have hr3 : Room 3 _ := hr
    have hr2 : Room 2 _ := hr.mono (by decide)
    refine ⟨_, pss_cons (ps_par (i := 3) (j := 4) (by rfl) nd rfl rfl (by decide) rfl rfl (pa_cons (pe_call GD hr2 rfl D.g D.kp D.b .nil pass0 (pa_cons (pv 0) (pa_cons pe_int pa_nil))) (pa_cons (pe_call GD hr2 rfl D.g D.kp D.b .nil pass0 (pa_cons (pv 0) (pa_cons (pe_op op_add (pe_callB call_len_seq (by rfl) T.len PySem.boot_len (pa_cons (pv 1) pa_nil)) pe_int) pa_nil))) pa_nil)) (by rfl))
      (pss_cons (ps_if (pt_cmpR op_eq (pv 3) pe_int (nomark _)) (pss_one (ps_ret (pe_op op_catA (pe_op op_catA (pe_slice sl_tupA (pv 1) po_none (po_some (pv 4))) (pe_tup (pa_cons (pe_call GO hr3 rfl O.g O.kp O.b .nil pass0 (pa_cons (pv 0) (pa_cons (pv 2) pa_nil))) pa_nil))) (pe_slice sl_tupA (pv 1) (po_some (pe_op op_add (pv 4) pe_int)) po_none)))) pss_nil)
      (pss_cons (ps_if (pt_cmpR op_eq (pv 3) pe_int (nomark _)) (pss_one (ps_ret (pe_op op_catA (pe_slice sl_tupA (pv 1) po_none (po_some (pv 4))) (pe_slice sl_tupA (pv 1) (po_some (pe_op op_add (pv 4) pe_int)) po_none)))) pss_nil)
      (pss_cons (ps_if (pt_cmpR op_eq (pv 3) pe_int (nomark _)) (pss_one (ps_ret (pe_op op_catA (pe_op op_catA (pe_slice sl_tupA (pv 1) po_none (po_some (pv 4))) (pe_slice sl_tupA (pv 1) (po_some (pv 4)) (po_some (pe_op op_add (pv 4) pe_int)))) (pe_slice sl_tupA (pv 1) (po_some (pv 4)) po_none)))) pss_nil)
      (pss_cons (ps_if (pt_cmpR op_eq (pv 3) pe_int (nomark _)) (pss_one (ps_ret (pe_op op_catA (pv 1) (pe_tup (pa_cons (pe_call GO hr3 rfl O.g O.kp O.b .nil pass0 (pa_cons (pv 0) (pa_cons (pv 2) pa_nil))) pa_nil))))) pss_nil)
      (pss_cons (ps_if (pt_cmpR op_eq (pv 3) pe_int (nomark _)) (pss_cons (ps_set (i := 5) nd rfl (Or.inl rfl) (pe_op op_catA (pe_slice sl_tupA (pv 1) (po_some (pe_op op_add (pv 4) pe_int)) (po_some (pe_op op_add (pv 4) pe_int))) (pe_slice sl_tupA (pv 1) (po_some (pv 4)) (po_some (pe_op op_add (pv 4) pe_int)))))
      (pss_one (ps_ret (pe_op op_catA (pe_op op_catA (pe_slice sl_tupA (pv 1) po_none (po_some (pv 4))) (pv 5)) (pe_slice sl_tupA (pv 1) (po_some (pe_op op_add (pv 4) pe_int)) po_none))))) pss_nil)
      (pss_cons (ps_if (pt_cmpR op_eq (pv 3) pe_int (nomark _)) (pss_one (ps_ret (pe_revT (pv 1)))) pss_nil)
      (pss_cons (ps_if (pt_cmpR op_eq (pv 3) pe_int (nomark _)) (pss_one (ps_ret (pe_ix ix_list (pe_lst (pa_cons (pe_callTy call_listN (by rfl) T.list (by decide +kernel) (pa_cons (pv 1) pa_nil) (by decide)) (pa_cons pe_non (pa_cons pe_int (pa_cons pe_str (pa_cons pe_dnewK (pa_cons pe_bl (pa_cons (pe_tup (pa_cons (pv 1) pa_nil)) (pa_cons (pe_lstN (pa_cons (pv 1) pa_nil)) pa_nil))))))))) (pe_call GD hr2 rfl D.g D.kp D.b .nil pass0 (pa_cons (pv 0) (pa_cons pe_int pa_nil))) (fun _ _ => rfl)))) pss_nil)
      (pss_cons (ps_set (i := 6) nd rfl (Or.inl rfl) (pe_call GD hr2 rfl D.g D.kp D.b .nil pass0 (pa_cons (pv 0) (pa_cons (pe_op op_add (pe_callB call_len_seq (by rfl) T.len PySem.boot_len (pa_cons (pv 1) pa_nil)) pe_int) pa_nil))))
      (pss_cons (ps_set (i := 7) nd rfl (Or.inl rfl) (pe_op op_catA (pe_op op_catA (pe_slice sl_tupA (pv 1) po_none (po_some (pv 4))) (pe_tup (pa_cons (pe_call GO hr3 rfl O.g O.kp O.b .nil pass0 (pa_cons (pv 0) (pa_cons (pv 2) pa_nil))) pa_nil))) (pe_slice sl_tupA (pv 1) (po_some (pe_op op_add (pv 4) pe_int)) po_none)))
      (pss_cons (ps_par (i := 8) (j := 9) (by rfl) nd rfl rfl (by decide) rfl rfl (pa_cons (pe_call GD hr2 rfl D.g D.kp D.b .nil pass0 (pa_cons (pv 0) (pa_cons (pv 2) pa_nil))) (pa_cons (pe_call GD hr2 rfl D.g D.kp D.b .nil pass0 (pa_cons (pv 0) (pa_cons pe_int pa_nil))) pa_nil)) (by rfl))
      (pss_one (ps_ret (pe_op op_catA (pe_op op_catA (pe_slice sl_tupA (pv 7) po_none (po_some (pv 6))) (pe_tup (pa_cons (pe_tup (pa_cons (pv 8) (pa_cons (pv 9) pa_nil))) pa_nil))) (pe_slice sl_tupA (pv 7) (po_some (pe_op op_add (pv 6) pe_int)) po_none)))))))))))))), ?_⟩
    have x160 := hL.len
    have big : ∀ {i j : Nat}, i ≤ 800 → j ≤ 800 → i + j ≤ sizeLine := fun h1 h2 => Nat.le_trans (by omega : _ ≤ 1600) (by decide)
    -- what is told in the end
    have fin : ∀ {H' : Hp} {t : Addr} {ys : List V} {j k' : Nat}, ML H' p a l k' → k' ≤ n + 10 → ExtL p l H H' → H' t = some (.tup ys) → Lk p l H' ys j → j ≤ 800 → Q (.ref t) H' := fun {H' t ys j k'} M' hk e ht hk' hj => by
      obtain ⟨o1, o2⟩ := tup_off M' ht
      obtain ⟨d, g, f⟩ := hk'.tup ht o1 o2 hj
      exact k _ _ d (M'.lt hk (by omega)) e g (f.up (by decide) (by decide))
    refine ⟨_, rfl, p, a, l, n, 9, rfl, M, by omega, by decide, by decide, fun H1 wy M1 e1 w0 w9 => ?_⟩
    have hq1 := tupL M e1 _ _ hq
    refine ⟨_, rfl, _, rfl, q, _, rfl, .inr (SqT.of hq1), _, _, rfl, rfl, p, a, l, _, _, rfl, M1, by omega, by omega, by omega, fun H2 at_ M2 e2 a0 a1 => ⟨_, _, rfl, ?_⟩⟩
    have hq2 := tupL M1 e2 _ _ hq1
    have e02 := e1.trans e2
    have hL2 := hL.extT (ExtT.ofL e02)
    refine ⟨_, rfl, rfl, _, rfl, ?_⟩
    refine ite2 (fun _ => ?_) (fun _ => ?_)
    · refine sl_to rfl rfl hq2 fun H101 t101 s101 g101 => ?_
      have h102 := s101 _ _ hq2
      have L102 := hL2.same s101
      have M103 := M2.keep s101
      have e103 := e02.trans (ExtL.same s101)
      have K101 := L102.cut (none) (some at_)
      refine ⟨_, rfl, _, rfl, p, a, l, _, m, rfl, M103, by omega, m0, m40, fun H104 v104 d104 Mo104 eo104 hd104 fd104 => ?_⟩
      have h105 := tupL M103 eo104 _ _ h102
      have L105 := L102.extT (ExtT.ofL eo104)
      have h106 := tupL M103 eo104 _ _ g101
      have L106 := K101.extT (ExtT.ofL eo104)
      have e107 := e103.trans eo104
      refine ⟨by show 1 ≤ sizeLine; decide, fun t104 hn104 => ?_⟩
      have s104 := Same.new (o := .tup [v104]) hn104
      have g104 := upd_same (H := H104) (a := t104) (o := .tup [v104])
      have K104 := (Lk.one hd104 fd104).same s104
      generalize upd H104 t104 (.tup [v104]) = Hx104 at s104 g104 K104
      have h108 := s104 _ _ h105
      have L108 := L105.same s104
      have h109 := s104 _ _ h106
      have L109 := L106.same s104
      have M110 := Mo104.keep s104
      have e110 := e107.trans (ExtL.same s104)
      have bx111 := L109.len
      have by111 := K104.len
      refine rd_catA h109 g104 (big (by omega) (by omega)) fun H111 t111 s111 g111 => ?_
      have K111 := (L109.app K104).same s111
      have h112 := s111 _ _ h108
      have L112 := L108.same s111
      have h113 := s111 _ _ h109
      have L113 := L109.same s111
      have h114 := s111 _ _ g104
      have L114 := K104.same s111
      have M115 := M110.keep s111
      have e115 := e110.trans (ExtL.same s111)
      refine sl_from1 rfl rfl h112 fun H116 t116 s116 g116 => ?_
      have h117 := s116 _ _ h112
      have L117 := L112.same s116
      have h118 := s116 _ _ g111
      have L118 := K111.same s116
      have M119 := M115.keep s116
      have e119 := e115.trans (ExtL.same s116)
      have K116 := L117.cut (some (at_ + 1)) (none)
      have bx120 := L118.len
      have by120 := K116.len
      refine rd_catA h118 g116 (big (by omega) (by omega)) fun H120 t120 s120 g120 => ?_
      have K120 := (L118.app K116).same s120
      have h121 := s120 _ _ h117
      have L121 := L117.same s120
      have h122 := s120 _ _ h118
      have L122 := L118.same s120
      have h123 := s120 _ _ g116
      have L123 := K116.same s120
      have M124 := M119.keep s120
      have e124 := e119.trans (ExtL.same s120)
      exact fin M124 (by omega) e124 g120 K120 (by decide)
    · skip
      refine ⟨_, rfl, rfl, _, rfl, ?_⟩
      refine ite2 (fun _ => ?_) (fun _ => ?_)
      · refine sl_to rfl rfl hq2 fun H125 t125 s125 g125 => ?_
        have h126 := s125 _ _ hq2
        have L126 := hL2.same s125
        have M127 := M2.keep s125
        have e127 := e02.trans (ExtL.same s125)
        have K125 := L126.cut (none) (some at_)
        refine sl_from1 rfl rfl h126 fun H128 t128 s128 g128 => ?_
        have h129 := s128 _ _ h126
        have L129 := L126.same s128
        have h130 := s128 _ _ g125
        have L130 := K125.same s128
        have M131 := M127.keep s128
        have e131 := e127.trans (ExtL.same s128)
        have K128 := L129.cut (some (at_ + 1)) (none)
        have bx132 := L130.len
        have by132 := K128.len
        refine rd_catA h130 g128 (big (by omega) (by omega)) fun H132 t132 s132 g132 => ?_
        have K132 := (L130.app K128).same s132
        have h133 := s132 _ _ h129
        have L133 := L129.same s132
        have h134 := s132 _ _ h130
        have L134 := L130.same s132
        have h135 := s132 _ _ g128
        have L135 := K128.same s132
        have M136 := M131.keep s132
        have e136 := e131.trans (ExtL.same s132)
        exact fin M136 (by omega) e136 g132 K132 (by decide)
      · skip
        refine ⟨_, rfl, rfl, _, rfl, ?_⟩
        refine ite2 (fun _ => ?_) (fun _ => ?_)
        · refine sl_to rfl rfl hq2 fun H137 t137 s137 g137 => ?_
          have h138 := s137 _ _ hq2
          have L138 := hL2.same s137
          have M139 := M2.keep s137
          have e139 := e02.trans (ExtL.same s137)
          have K137 := L138.cut (none) (some at_)
          refine sl_one rfl rfl h138 fun H140 t140 s140 g140 => ?_
          have h141 := s140 _ _ h138
          have L141 := L138.same s140
          have h142 := s140 _ _ g137
          have L142 := K137.same s140
          have M143 := M139.keep s140
          have e143 := e139.trans (ExtL.same s140)
          have K140 := L141.cut (some at_) (some (at_ + 1))
          have bx144 := L142.len
          have by144 := K140.len
          refine rd_catA h142 g140 (big (by omega) (by omega)) fun H144 t144 s144 g144 => ?_
          have K144 := (L142.app K140).same s144
          have h145 := s144 _ _ h141
          have L145 := L141.same s144
          have h146 := s144 _ _ h142
          have L146 := L142.same s144
          have h147 := s144 _ _ g140
          have L147 := K140.same s144
          have M148 := M143.keep s144
          have e148 := e143.trans (ExtL.same s144)
          refine sl_from rfl rfl h145 fun H149 t149 s149 g149 => ?_
          have h150 := s149 _ _ h145
          have L150 := L145.same s149
          have h151 := s149 _ _ g144
          have L151 := K144.same s149
          have M152 := M148.keep s149
          have e152 := e148.trans (ExtL.same s149)
          have K149 := L150.cut (some at_) (none)
          have bx153 := L151.len
          have by153 := K149.len
          refine rd_catA h151 g149 (big (by omega) (by omega)) fun H153 t153 s153 g153 => ?_
          have K153 := (L151.app K149).same s153
          have h154 := s153 _ _ h150
          have L154 := L150.same s153
          have h155 := s153 _ _ h151
          have L155 := L151.same s153
          have h156 := s153 _ _ g149
          have L156 := K149.same s153
          have M157 := M152.keep s153
          have e157 := e152.trans (ExtL.same s153)
          exact fin M157 (by omega) e157 g153 K153 (by decide)
        · skip
          refine ⟨_, rfl, rfl, _, rfl, ?_⟩
          refine ite2 (fun _ => ?_) (fun _ => ?_)
          · refine ⟨_, rfl, ?_⟩
            refine ⟨_, rfl, _, rfl, p, a, l, _, m, rfl, M2, by omega, m0, m40, fun H158 v158 d158 Mo158 eo158 hd158 fd158 => ?_⟩
            have h159 := tupL M2 eo158 _ _ hq2
            have L159 := hL2.extT (ExtT.ofL eo158)
            have e160 := e02.trans eo158
            refine ⟨by show 1 ≤ sizeLine; decide, fun t158 hn158 => ?_⟩
            have s158 := Same.new (o := .tup [v158]) hn158
            have g158 := upd_same (H := H158) (a := t158) (o := .tup [v158])
            have K158 := (Lk.one hd158 fd158).same s158
            generalize upd H158 t158 (.tup [v158]) = Hx158 at s158 g158 K158
            have h161 := s158 _ _ h159
            have L161 := L159.same s158
            have M162 := Mo158.keep s158
            have e162 := e160.trans (ExtL.same s158)
            have bx163 := L161.len
            have by163 := K158.len
            refine rd_catA h161 g158 (big (by omega) (by omega)) fun H163 t163 s163 g163 => ?_
            have K163 := (L161.app K158).same s163
            have h164 := s163 _ _ h161
            have L164 := L161.same s163
            have h165 := s163 _ _ g158
            have L165 := K158.same s163
            have M166 := M162.keep s163
            have e166 := e162.trans (ExtL.same s163)
            exact fin M166 (by omega) e166 g163 K163 (by decide)
          · skip
            refine ⟨_, rfl, rfl, _, rfl, ?_⟩
            refine ite2 (fun _ => ?_) (fun _ => ?_)
            · refine sl_two rfl rfl hq2 fun H167 t167 s167 g167 => ?_
              have h168 := s167 _ _ hq2
              have L168 := hL2.same s167
              have M169 := M2.keep s167
              have e169 := e02.trans (ExtL.same s167)
              have K167 := L168.cut (some (at_ + 1)) (some (at_ + 2))
              refine sl_one rfl rfl h168 fun H170 t170 s170 g170 => ?_
              have h171 := s170 _ _ h168
              have L171 := L168.same s170
              have h172 := s170 _ _ g167
              have L172 := K167.same s170
              have M173 := M169.keep s170
              have e173 := e169.trans (ExtL.same s170)
              have K170 := L171.cut (some at_) (some (at_ + 1))
              have bx174 := L172.len
              have by174 := K170.len
              refine rd_catA h172 g170 (big (by omega) (by omega)) fun H174 t174 s174 g174 => ?_
              have K174 := (L172.app K170).same s174
              have h175 := s174 _ _ h171
              have L175 := L171.same s174
              have h176 := s174 _ _ h172
              have L176 := L172.same s174
              have h177 := s174 _ _ g170
              have L177 := K170.same s174
              have M178 := M173.keep s174
              have e178 := e173.trans (ExtL.same s174)
              refine sl_to rfl rfl h175 fun H179 t179 s179 g179 => ?_
              have h180 := s179 _ _ h175
              have L180 := L175.same s179
              have h181 := s179 _ _ g174
              have L181 := K174.same s179
              have M182 := M178.keep s179
              have e182 := e178.trans (ExtL.same s179)
              have K179 := L180.cut (none) (some at_)
              refine ⟨_, rfl, ?_⟩
              have bx183 := K179.len
              have by183 := L181.len
              refine rd_catA g179 h181 (big (by omega) (by omega)) fun H183 t183 s183 g183 => ?_
              have K183 := (K179.app L181).same s183
              have h184 := s183 _ _ h180
              have L184 := L180.same s183
              have h185 := s183 _ _ h181
              have L185 := L181.same s183
              have h186 := s183 _ _ g179
              have L186 := K179.same s183
              have M187 := M182.keep s183
              have e187 := e182.trans (ExtL.same s183)
              refine sl_from1 rfl rfl h184 fun H188 t188 s188 g188 => ?_
              have h189 := s188 _ _ h184
              have L189 := L184.same s188
              have h190 := s188 _ _ g183
              have L190 := K183.same s188
              have M191 := M187.keep s188
              have e191 := e187.trans (ExtL.same s188)
              have K188 := L189.cut (some (at_ + 2)) (none)
              have bx192 := L190.len
              have by192 := K188.len
              refine rd_catA h190 g188 (big (by omega) (by omega)) fun H192 t192 s192 g192 => ?_
              have K192 := (L190.app K188).same s192
              have h193 := s192 _ _ h189
              have L193 := L189.same s192
              have h194 := s192 _ _ h190
              have L194 := L190.same s192
              have h195 := s192 _ _ g188
              have L195 := K188.same s192
              have M196 := M191.keep s192
              have e196 := e191.trans (ExtL.same s192)
              exact fin M196 (by omega) e196 g192 K192 (by decide)
            · skip
              refine ⟨_, rfl, rfl, _, rfl, ?_⟩
              refine ite2 (fun _ => ?_) (fun _ => ?_)
              · refine ⟨_, rfl, q, _, rfl, SqT.of hq2, fun t5 hn5 => ?_⟩
                have s5 := Same.new (o := .tup xs.reverse) hn5
                exact fin (M2.keep s5) (by omega) (e02.trans (ExtL.same s5)) upd_same (hL2.rev.same s5) (by decide)
              · skip
                refine ⟨_, rfl, rfl, _, rfl, ?_⟩
                refine ite2 (fun _ => ?_) (fun _ => ?_)
                · obtain ⟨ds, g0, f0, c0⟩ := id hL2
                  obtain ⟨qp, ql⟩ := tup_off M2 hq2
                  have fA := fxA_all f0
                  have hl := g0.len
                  have b0 : (10 + 1) * ds.length ≤ 1760 := by omega
                  refine ⟨_, rfl, q, _, rfl, SqT.of hq2, fun qa na ha => ?_⟩
                  have sa := Same.new (o := .lst xs) ha
                  have ga := upd_same (H := H2) (a := qa) (o := .lst xs)
                  obtain ⟨ap, al⟩ := M2.apart ha
                  generalize upd H2 qa (.lst xs) = Ha at sa ga
                  have Ma := M2.keep sa
                  intro qb hb
                  have sb := Same.new (o := .dK []) hb
                  have gb := upd_same (H := Ha) (a := qb) (o := .dK [])
                  obtain ⟨bp, bl⟩ := Ma.apart hb
                  generalize upd Ha qb (.dK []) = Hb at sb gb
                  have Mb := Ma.keep sb
                  refine ⟨_, rfl, by show 1 ≤ sizeLine; decide, fun qc hc => ?_⟩
                  have sc := Same.new (o := .tup [V.ref q]) hc
                  have gc := upd_same (H := Hb) (a := qc) (o := .tup [V.ref q])
                  obtain ⟨cp, cl⟩ := Mb.apart hc
                  generalize upd Hb qc (.tup [V.ref q]) = Hc at sc gc
                  have Mc := Mb.keep sc
                  refine ⟨_, rfl, by show 1 ≤ sizeLine; decide, fun qd nd2 hd => ?_⟩
                  have sd := Same.new (o := .lst [V.ref q]) hd
                  have gd := upd_same (H := Hc) (a := qd) (o := .lst [V.ref q])
                  obtain ⟨dp, dl⟩ := Mc.apart hd
                  generalize upd Hc qd (.lst [V.ref q]) = Hd at sd gd
                  have Md := Mc.keep sd
                  refine ⟨by show 8 ≤ sizeLine; decide, fun Lz hLz => ?_⟩
                  have sz := Same.new (o := .lst [V.ref qa, V.non, V.int 5, V.str "lead", V.ref qb, V.bl true, V.ref qc, V.ref qd]) hLz
                  have gz := upd_same (H := Hd) (a := Lz) (o := .lst [V.ref qa, V.non, V.int 5, V.str "lead", V.ref qb, V.bl true, V.ref qc, V.ref qd])
                  obtain ⟨zp, zl⟩ := Md.apart hLz
                  generalize upd Hd Lz (.lst [V.ref qa, V.non, V.int 5, V.str "lead", V.ref qb, V.bl true, V.ref qc, V.ref qd]) = Hz at sz gz
                  have Mz := Md.keep sz
                  have sdz := sd.trans sz
                  have scz := sc.trans sdz
                  have sbz := sb.trans scz
                  have saz := sa.trans sbz
                  refine ⟨_, rfl, p, a, l, _, 8, rfl, Mz, by omega, by decide, by decide, fun HE r ME eE r0 r8 => ?_⟩
                  have g2 := DaAll.extT (ExtT.ofS saz) _ _ g0
                  have dl0 : Da p l Hz (.ref q) (.tuple ds) := .tup qp ql (saz _ _ hq2) g2
                  have fl0 : Fx (.tuple ds) 3 1760 := fA.tup.up (by decide) b0
                  have every : ∀ x ∈ [V.ref qa, V.non, V.int 5, V.str "lead", V.ref qb, V.bl true, V.ref qc, V.ref qd], ∃ d, Da p l Hz x d ∧ Fx d 4 9500 := fun x hx => by
                    simp only [List.mem_cons, List.not_mem_nil, or_false] at hx
                    rcases hx with rfl | rfl | rfl | rfl | rfl | rfl | rfl | rfl
                    · exact ⟨_, .lst ap al na (sbz _ _ ga) g2, fA.lst.up (by decide) (by omega)⟩
                    · exact ⟨_, .non, ⟨by decide +kernel, by decide +kernel, by decide +kernel, by decide +kernel⟩⟩
                    · exact ⟨_, .int 5, ⟨by decide +kernel, by decide +kernel, by decide +kernel, by decide +kernel⟩⟩
                    · exact ⟨_, .str "lead", ⟨by decide +kernel, by decide +kernel, by decide +kernel, by decide +kernel⟩⟩
                    · exact ⟨_, .emp bp bl (scz _ _ gb), ⟨by decide +kernel, by decide +kernel, by decide +kernel, by decide +kernel⟩⟩
                    · exact ⟨_, .bl true, ⟨by decide +kernel, by decide +kernel, by decide +kernel, by decide +kernel⟩⟩
                    · exact ⟨_, .tup cp cl (sdz _ _ gc) (.cons dl0 .nil), (FxA.cons fl0 (FxA.nil (n := 0))).tup.up (by decide) (by decide)⟩
                    · exact ⟨_, .lst dp dl nd2 (sz _ _ gd) (.cons dl0 .nil), (FxA.cons fl0 (FxA.nil (n := 0))).lst.up (by decide) (by decide)⟩
                  have l8 : ([V.ref qa, V.non, V.int 5, V.str "lead", V.ref qb, V.bl true, V.ref qc, V.ref qd] : List V).length = 8 := rfl
                  generalize ([V.ref qa, V.non, V.int 5, V.str "lead", V.ref qb, V.bl true, V.ref qc, V.ref qd] : List V) = zs at every gz l8
                  have hj : r.toNat < zs.length := by omega
                  obtain ⟨d, hda, hfx⟩ := every _ (List.getElem_mem hj)
                  refine ⟨Lz, _, _, zs[r.toNat], rfl, rfl, SqL.of (eE _ _ zp zl gz), at_of (j := r.toNat) (by omega) (List.getElem?_eq_getElem hj), ?_⟩
                  exact k HE _ d (ME.lt (by omega) (by omega)) ((e02.trans (ExtL.same saz)).trans eE) (Da.extT (ExtT.ofL eE) _ _ hda) hfx
                · skip
                  refine ⟨_, rfl, _, rfl, q, _, rfl, .inr (SqT.of hq2), _, _, rfl, rfl, p, a, l, _, ((xs.length : Nat) : Int) + 1, rfl, M2, by omega, by omega, by omega, fun H197 raf Mo197 eo197 r0af r1af => ?_⟩
                  have h198 := tupL M2 eo197 _ _ hq2
                  have L198 := hL2.extT (ExtT.ofL eo197)
                  have e199 := e02.trans eo197
                  refine sl_to rfl rfl h198 fun H200 t200 s200 g200 => ?_
                  have h201 := s200 _ _ h198
                  have L201 := L198.same s200
                  have M202 := Mo197.keep s200
                  have e202 := e199.trans (ExtL.same s200)
                  have K200 := L201.cut (none) (some at_)
                  refine ⟨_, rfl, _, rfl, p, a, l, _, m, rfl, M202, by omega, m0, m40, fun H203 v203 d203 Mo203 eo203 hd203 fd203 => ?_⟩
                  have h204 := tupL M202 eo203 _ _ h201
                  have L204 := L201.extT (ExtT.ofL eo203)
                  have h205 := tupL M202 eo203 _ _ g200
                  have L205 := K200.extT (ExtT.ofL eo203)
                  have e206 := e202.trans eo203
                  refine ⟨by show 1 ≤ sizeLine; decide, fun t203 hn203 => ?_⟩
                  have s203 := Same.new (o := .tup [v203]) hn203
                  have g203 := upd_same (H := H203) (a := t203) (o := .tup [v203])
                  have K203 := (Lk.one hd203 fd203).same s203
                  generalize upd H203 t203 (.tup [v203]) = Hx203 at s203 g203 K203
                  have h207 := s203 _ _ h204
                  have L207 := L204.same s203
                  have h208 := s203 _ _ h205
                  have L208 := L205.same s203
                  have M209 := Mo203.keep s203
                  have e209 := e206.trans (ExtL.same s203)
                  have bx210 := L208.len
                  have by210 := K203.len
                  refine rd_catA h208 g203 (big (by omega) (by omega)) fun H210 t210 s210 g210 => ?_
                  have K210 := (L208.app K203).same s210
                  have h211 := s210 _ _ h207
                  have L211 := L207.same s210
                  have h212 := s210 _ _ h208
                  have L212 := L208.same s210
                  have h213 := s210 _ _ g203
                  have L213 := K203.same s210
                  have M214 := M209.keep s210
                  have e214 := e209.trans (ExtL.same s210)
                  refine sl_from1 rfl rfl h211 fun H215 t215 s215 g215 => ?_
                  have h216 := s215 _ _ h211
                  have L216 := L211.same s215
                  have h217 := s215 _ _ g210
                  have L217 := K210.same s215
                  have M218 := M214.keep s215
                  have e218 := e214.trans (ExtL.same s215)
                  have K215 := L216.cut (some (at_ + 1)) (none)
                  have bx219 := L217.len
                  have by219 := K215.len
                  refine rd_catA h217 g215 (big (by omega) (by omega)) fun H219 t219 s219 g219 => ?_
                  have K219 := (L217.app K215).same s219
                  have h220 := s219 _ _ h216
                  have L220 := L216.same s219
                  have h221 := s219 _ _ h217
                  have L221 := L217.same s219
                  have h222 := s219 _ _ g215
                  have L222 := K215.same s219
                  have M223 := M218.keep s219
                  have e223 := e218.trans (ExtL.same s219)
                  refine ⟨_, rfl, _, rfl, p, a, l, _, (m : Nat), rfl, M223, by omega, by omega, by omega, fun H224 rc1 Mo224 eo224 r0c1 r1c1 => ?_⟩
                  have h225 := tupL M223 eo224 _ _ h220
                  have L225 := L220.extT (ExtT.ofL eo224)
                  have h226 := tupL M223 eo224 _ _ g219
                  have L226 := K219.extT (ExtT.ofL eo224)
                  have e227 := e223.trans eo224
                  refine ⟨_, rfl, p, a, l, _, 3, rfl, Mo224, by omega, by omega, by omega, fun H228 rc2 Mo228 eo228 r0c2 r1c2 => ?_⟩
                  have h229 := tupL Mo224 eo228 _ _ h225
                  have L229 := L225.extT (ExtT.ofL eo228)
                  have h230 := tupL Mo224 eo228 _ _ h226
                  have L230 := L226.extT (ExtT.ofL eo228)
                  have e231 := e227.trans eo228
                  refine ⟨_, _, rfl, ?_⟩
                  refine sl_to rfl rfl h230 fun H232 t232 s232 g232 => ?_
                  have h233 := s232 _ _ h229
                  have L233 := L229.same s232
                  have h234 := s232 _ _ h230
                  have L234 := L230.same s232
                  have M235 := Mo228.keep s232
                  have e235 := e231.trans (ExtL.same s232)
                  have K232 := L234.cut (none) (some raf)
                  refine ⟨_, rfl, _, rfl, two_le, fun u236 hu236 => ?_⟩
                  have su236 := Same.new (o := .tup [V.int rc1, V.int rc2]) hu236
                  have xu236 := da_new (ds := [.int rc1, .int rc2]) M235 hu236 (xs := [V.int rc1, V.int rc2]) (.cons (.int _) (.cons (.int _) .nil))
                  generalize upd H232 u236 (.tup [V.int rc1, V.int rc2]) = Hu236 at su236 xu236
                  have h237 := su236 _ _ h233
                  have L237 := L233.same su236
                  have h238 := su236 _ _ h234
                  have L238 := L234.same su236
                  have h239 := su236 _ _ g232
                  have L239 := K232.same su236
                  have M240 := M235.keep su236
                  have e240 := e235.trans (ExtL.same su236)
                  refine ⟨by show 1 ≤ sizeLine; decide, fun w236 hw236 => ?_⟩
                  have sw236 := Same.new (o := .tup [V.ref u236]) hw236
                  have gw236 := upd_same (H := Hu236) (a := w236) (o := .tup [V.ref u236])
                  have Kw236 := (Lk.one xu236 (fx2 (fxI (by omega) (by omega)) (fxI (by omega) (by omega)))).same sw236
                  generalize upd Hu236 w236 (.tup [V.ref u236]) = Hw236 at sw236 gw236 Kw236
                  have h241 := sw236 _ _ h237
                  have L241 := L237.same sw236
                  have h242 := sw236 _ _ h238
                  have L242 := L238.same sw236
                  have h243 := sw236 _ _ h239
                  have L243 := L239.same sw236
                  have M244 := M240.keep sw236
                  have e244 := e240.trans (ExtL.same sw236)
                  have bx245 := L243.len
                  have by245 := Kw236.len
                  refine rd_catA h243 gw236 (big (by omega) (by omega)) fun H245 t245 s245 g245 => ?_
                  have K245 := (L243.app Kw236).same s245
                  have h246 := s245 _ _ h241
                  have L246 := L241.same s245
                  have h247 := s245 _ _ h242
                  have L247 := L242.same s245
                  have h248 := s245 _ _ h243
                  have L248 := L243.same s245
                  have h249 := s245 _ _ gw236
                  have L249 := Kw236.same s245
                  have M250 := M244.keep s245
                  have e250 := e244.trans (ExtL.same s245)
                  refine sl_from1 rfl rfl h247 fun H251 t251 s251 g251 => ?_
                  have h252 := s251 _ _ h246
                  have L252 := L246.same s251
                  have h253 := s251 _ _ h247
                  have L253 := L247.same s251
                  have h254 := s251 _ _ g245
                  have L254 := K245.same s251
                  have M255 := M250.keep s251
                  have e255 := e250.trans (ExtL.same s251)
                  have K251 := L253.cut (some (raf + 1)) (none)
                  have bx256 := L254.len
                  have by256 := K251.len
                  refine rd_catA h254 g251 (big (by omega) (by omega)) fun H256 t256 s256 g256 => ?_
                  have K256 := (L254.app K251).same s256
                  have h257 := s256 _ _ h252
                  have L257 := L252.same s256
                  have h258 := s256 _ _ h253
                  have L258 := L253.same s256
                  have h259 := s256 _ _ h254
                  have L259 := L254.same s256
                  have h260 := s256 _ _ g251
                  have L260 := K251.same s256
                  have M261 := M255.keep s256
                  have e261 := e255.trans (ExtL.same s256)
                  exact fin M261 (by omega) e261 g256 K256 (by decide)
end
end One
end P_LB

section P_LJ
set_option linter.all false
set_option maxRecDepth 100000
set_option maxHeartbeats 16000000
namespace One
open PySem PySem.Spec PyProof.Rows L2
abbrev sJu : Stmt := top 78
abbrev sRf : Stmt := top 79
abbrev nJu : List Str := ["yard", "fars", "setting", "thing", "due", "shown", "turn"]
abbrev nRf : List Str := ["yard", "setting", "thing", "word", "said"]
theorem scJu : FnScope nJu ["yard", "fars", "setting", "thing"] (defScope sJu) := ⟨rfl, rfl, rfl, by decide +kernel, rfl, by decide +kernel, by decide +kernel⟩
theorem scRf : FnScope nRf ["yard", "setting", "thing", "word"] (defScope sRf) := ⟨rfl, rfl, rfl, by decide +kernel, rfl, by decide +kernel, by decide +kernel⟩
/-- a def whose code object stands at c -/
structure FunC (K : PySem.W.Frag) (x qual : Str) (st : Stmt) (f : Addr) (fd : FuncData) (c : Addr) : Prop where
  ex : ∃ (oc : Value) (od : Option Addr) (kV doc pm : Value) (an : Option Addr) (ct : Value) (osl : Array (Option Value)),
    fd = PySem.W.fnOf x qual (defArgs st) (defBody st) (defScope st) .none kV doc pm an (.ref c) ct ∧ K.lookup f = some ⟨oc, od, .func fd, osl⟩ ∧ PySem.W.codeIn K (.ref c) qual = true
/-! ### places are small -/
theorem firstNone_lt {α : Type} : ∀ {its : List (Option α)} {k r : Nat}, firstNone its k = some r → r < k + its.length
  | [], _, _, h => by cases h
  | none :: r, k, x, h => by
    have : k = x := Option.some.inj h
    rw [List.length_cons]
    omega
  | some y :: r, k, x, h => by
    have := firstNone_lt (its := r) (k := k + 1) h
    rw [List.length_cons]
    omega
theorem firstFail_lt {F : Nat → Nat} {n : Nat} : ∀ {ts : List (Nat × Nat)} {ws : List Nat} {k r : Nat}, firstFail F n ws ts k = some r → r < k + ts.length
  | [], _, _, _, h => by cases h
  | t :: r, ws, k, x, h => by
    have h : (if Cn F n (ws.set t.1 t.2) + 1 = Cn F n ws then firstFail F n (ws.set t.1 t.2) r (k + 1) else some k) = some x := h
    rw [List.length_cons]
    by_cases c : Cn F n (ws.set t.1 t.2) + 1 = Cn F n ws
    · rw [if_pos c] at h
      have := firstFail_lt h
      omega
    · rw [if_neg c] at h
      have := Option.some.inj h
      omega
theorem judge_small {F : Nat → Nat} {n : Nat} {ws : List Nat} {d : PyData} {pl : List Nat} (h : judge F n ws d = some pl) (hc : Cn F n ws ≤ 160) : pl.length ≤ 1 ∧ ∀ x ∈ pl, x < 1000 := by
  have nil : pl = [] → pl.length ≤ 1 ∧ ∀ x ∈ pl, x < 1000 := fun e => by
    subst e
    exact ⟨Nat.zero_le _, fun x hx => absurd hx (by simp)⟩
  cases d with
  | tuple ds =>
    have h : judgeL F n ws ds = some pl := h
    unfold judgeL at h
    by_cases hl : ds.length + 1 = Cn F n ws
    · rw [if_pos hl] at h
      have one : ∀ k, pl = [k] → k < 1000 → pl.length ≤ 1 ∧ ∀ x ∈ pl, x < 1000 := fun k e hk => by
        subst e
        exact ⟨Nat.le_refl 1, fun x hx => by rw [List.mem_singleton.mp hx]; exact hk⟩
      cases hf : firstNone (ds.map (itemOf n)) 0 with
      | some k =>
        rw [hf] at h
        have := firstNone_lt hf
        rw [List.length_map] at this
        exact one k (Option.some.inj h).symm (by omega)
      | none =>
        rw [hf] at h
        cases hg : firstFail F n ws (ds.filterMap (itemOf n)) 0 with
        | none => rw [hg] at h; cases h
        | some k =>
          rw [hg] at h
          have := firstFail_lt hg
          have := List.length_filterMap_le (itemOf n) ds
          exact one k (Option.some.inj h).symm (by omega)
    · rw [if_neg hl] at h
      exact nil (Option.some.inj h).symm
  | _ => exact nil (Option.some.inj h).symm
noncomputable def dueD (F : Nat → Nat) (n : Nat) (ws : List Nat) (d : PyData) : PyData := match judge F n ws d with
  | none => .list [.none]
  | some pl => .tuple [.str "lead", nsD pl]
theorem due_rq {K : PySem.W.Frag} {F : Nat → Nat} {n : Nat} {ws : List Nat} {d : PyData} {H : Hp} {u : Addr} {Q : VK} (hc : Cn F n ws ≤ 160) (h0 : judge F n ws d = none → H u = some (.lst [.non])) (h1 : ∀ pl, judge F n ws d = some pl → ∃ q, H u = some (.tup [.str "lead", .ref q]) ∧ H q = some (.tup (nats pl)))
    (q : Q (.str (dueD F n ws d).shown) H) : rReprQ K [.ref u] H Q := by
  refine ⟨.ref u, dueD F n ws d, rfl, .inl ?_, ?_⟩
  · unfold dueD
    cases hj : judge F n ws d with
    | none => exact ⟨.lst (SqL.of (h0 hj)) (.cons .non .nil), rfl⟩
    | some pl =>
      obtain ⟨q', a, b⟩ := h1 pl hj
      obtain ⟨l1, sm⟩ := judge_small hj hc
      have f := (ns_fine sm (by omega)).2.1
      refine ⟨.tup (SqT.of a) (.cons (.str _) (.cons (dp_nsD b) .nil)), ?_⟩
      show (PyData.hasDict (.str "lead") || ((nsD pl).hasDict || false)) = false
      rw [f]
      rfl
  · have three : (dueD F n ws d).showable = true ∧ (dueD F n ws d).depth ≤ 16 ∧ (dueD F n ws d).shown.length ≤ sizeLine := by
      unfold dueD
      cases hj : judge F n ws d with
      | none => exact ⟨by decide +kernel, by decide +kernel, by decide +kernel⟩
      | some pl =>
        obtain ⟨l1, sm⟩ := judge_small hj hc
        have fx : Fx (.tuple [.str "lead", nsD pl]) 3 20 := by
          have : FxA (pl.map fun x => PyData.int (x : Nat)) 0 1 := by
            match pl, l1, sm with
            | [], _, _ => exact .nil
            | [x], _, sm => exact FxA.cons (fxI (by omega) (by have := sm x (List.mem_cons_self ..); omega)) (FxA.nil (n := 0))
          exact (FxA.cons (n := 10) ⟨by decide +kernel, by decide +kernel, by decide +kernel, by decide +kernel⟩ (FxA.cons (n := 1) (this.tup.up (k := 1) (j := 1) (Nat.le_refl _) (Nat.le_refl _)) (FxA.nil (n := 0)))).tup.up (by decide) (by decide)
        exact ⟨fx.sh, Nat.le_trans fx.dp (by decide), Nat.le_trans (fx.short (by decide)) (by decide)⟩
    exact ⟨three.1, three.2.1, three.2.2, q⟩
section
variable {P : Program} {w : World} {K : PySem.W.Frag} {mg : Str → Option Value} {base : Heap}
theorem okGC {x qual : Str} {st : Stmt} {f c : Addr} {fd : FuncData} {N ps : List Str} {k : Nat} {sp : Sp} (F : FunC K x qual st f fd c) (S : FnScope N ps (defScope st)) (len : ∀ vs H Q E, sp vs H Q E → vs.length = ps.length)
    (body : ∀ (A : Around) (outer : List Env) (s : Shared) (H : Hp) (vs : List V) (Q : VK) (E : XK), A.guards = some [] → Room k (A.deeper (envOfC qual (defScope st) s.heap.objs.size f (.ref c))) → sp vs H Q E →
      ∃ t, PSs (cxOf CX0 P w K mg base N qual (defScope st) f (.ref c) A outer s H E).nox (defBody st) t ∧ t { nx := fun _ H' => Q .non H', rt := Q } (start N vs) H) : FnG P w K mg base CX0 (k + 1) f fd ps sp := by
  obtain ⟨oc, od, kV, doc, pm, an, ct, osl, rfl, lk, hcd⟩ := F.ex
  exact ⟨len, fun A outer s H args us vs Q E hg hr e0 hb r hs => LamX.run_ofS lk hcd S hr e0 hb r (len _ _ _ _ hs) fun hr1 => let ⟨t, h, q⟩ := body A outer s H vs Q E hg hr1 hs; ⟨t, h.nox, q⟩⟩
end
/-- what the lambdas of the law stand in -/
def qualJ : Str := (envOfC "_law_judged" (defScope sJu) 0 0 .none).qual ++ "<lambda>"
def qualF : Str := (envOfC "_law_refused" (defScope sRf) 0 0 .none).qual ++ "<lambda>"
def spJu (T : List (Addr × Str)) : Sp := fun vs H Q _ => ∃ (p a l y D S : Addr) (n m : Nat) (ps : List (Nat × Nat)) (ws : List Nat) (v : V) (d : PyData), vs = [.ref y, .ref D, .ref S, v] ∧ ML H p a l n ∧ YAt H y m ps ∧ m ≤ 40 ∧ D ≠ p ∧ H D = some (.dK (fkv (far ps) (ends ps))) ∧ SetAt H S m ws ∧ Da p l H v d ∧ Fx d 4 9500 ∧ LamX.Tabs T H ∧
  ∀ H', ML H' p a l n → ExtT p l H H' → LamX.Tabs T H' → Q (.bl true) H'
section
variable {P : Program} {w : World} {K : PySem.W.Frag} {mg : Str → Option Value} {base : Heap}
theorem ok_ju {CL : Nat → Addr} {RE f c Pt Pf g fD fK : Addr} {fd dg dD dK : FuncData} (F : FunC K "_law_judged" "_law_judged" sJu f fd c) (T : TB mg) (TBl : LamX.TabB base mg c Pt) (npf : Pt ≠ Pf) (Nm : SaidN mg CL RE) (R5 : SaidC K CL RE 5) (G : Fun K "_law_said" "_law_said" sSaid g dg) (cG : Cal K mg "_law_said" g dg ["deed"])
    (cD : Cal K mg "_law_due" fD dD ["fars", "setting", "thing"]) (gD : FnOk P w K mg base CX0 2 fD dD ["fars", "setting", "thing"] spLD) (cK : Cal K mg "check_lead" fK dK ["yard", "setting", "lead"]) (gK : FnOk P w K mg base (L2.CX P w) 11 fK dK ["yard", "setting", "lead"] (spCK (CL 0) (CL 1) (CL 5))) :
    FnG P w K mg base CX0 14 f fd ["yard", "fars", "setting", "thing"] (spJu [(Pt, qualJ), (Pf, qualF)]) := by
  refine okGC F scJu (fun vs H Q E h => ?_) (fun A outer s H vs Q E hgd hr h => ?_)
  · obtain ⟨p, a, l, y, D, S, n, m, ps, ws, v, d, rfl, _⟩ := h
    rfl
  · obtain ⟨p, a, l, y, D, S, n, m, ps, ws, v, d, rfl, M, hY, h40, nDp, hD, hS, hda, hfx, tb, k⟩ := h
    have nd := scJu.nd
    have hu : (A.deeper (envOfC "_law_judged" (defScope sJu) s.heap.objs.size f (.ref c))).units + 64 < cLine := hr.units
    have rm : ∀ {j : Nat}, j ≤ 13 → Room j (A.deeper (envOfC "_law_judged" (defScope sJu) s.heap.objs.size f (.ref c))) := fun h => hr.mono h
    obtain ⟨oc, od, kV, doc, pm, an, cdg, ctg, osl, rfl, lkg, hcg⟩ := G.ex
    let X : Cx := (cxOf CX0 P w K mg base nJu "_law_judged" (defScope sJu) f (.ref c) A outer s H E).nox
    have rp : ∀ {X' : Cx}, X'.A = A.deeper (envOfC "_law_judged" (defScope sJu) s.heap.objs.size f (.ref c)) → CallR X' (.builtin "repr") (rReprQ X'.K) := fun e => cr_reprQ (by rw [e]; exact hgd) (by rw [e]; exact hu)
    have lam : ∀ {body : Expr} {scope : Scope} {t : XK → TE} {p lpos pos : Pos} (LS : LamX.LamS (defScope sJu) scope) (hbody : ∀ (A' : Around) (outer : List Env) (s : Shared) (H : Hp) (E : XK) (f' c' : Addr), Room 11 (A'.deeper (LamX.lamEnv X scope s.heap.objs.size f' c')) → PE (LamX.lamCx X A' outer s H E scope f' c') body (t E)),
        PE X (.Call (.Name "_law_said" p) [.Lambda { posonlyargs := [], args := [], vararg := none, kwonlyargs := [], kw_defaults := [], kwarg := none, defaults := [] } body scope lpos] [] pos) (LamX.tLam [(Pt, qualJ), (Pf, qualF)] (TTsaid K CL RE) t) := fun LS hbody =>
      LamX.pe_lamcall (X := X) (k := 11) rfl cG.g cG.kp lkg hcg cG.b scSaid rfl (.inl rfl) (said_gives (X := X) T Nm hr) TBl rfl (List.mem_cons_self ..) (fun q hq e => by
        rcases List.mem_cons.mp hq with rfl | hq
        · rfl
        · rw [List.mem_singleton.mp hq] at e
          exact absurd e.symm npf) hr LS rfl (fun _ _ _ _ _ => rfl) hbody
    have cck : ∀ {A' : Around} {outer : List Env} {s : Shared} {H : Hp} {E : XK} {scope : Scope} {f' c' : Addr} {a b d : Expr} {ta : TE} {tr : TA} {p pos : Pos} (hr8 : Room 11 (A'.deeper (LamX.lamEnv X scope s.heap.objs.size f' c'))) (hg : scope.names.lookup ("check_lead" : Str) = some .globalImplicit)
        (ha : PA (LamX.lamCx X A' outer s H E scope f' c') [a, b, d] (tCons ta tr)) (he : starEach [a, b, d] (LamX.lamEnv X scope s.heap.objs.size f' c') = (false, eval a (LamX.lamEnv X scope s.heap.objs.size f' c')) :: starEach [b, d] (LamX.lamEnv X scope s.heap.objs.size f' c'))
        (hpl : (backTo pos (starEach [b, d] (LamX.lamEnv X scope s.heap.objs.size f' c'))).any (·.1) = false), PE (LamX.lamCx X A' outer s H E scope f' c') (.Call (.Name "check_lead" p) [a, b, d] [] pos) (tCall (spCK (CL 0) (CL 1) (CL 5)) [] E (tCons ta tr)) := fun hr8 hg ha he hpl =>
      pe_call gK hr8 hg cK.g cK.kp cK.b .nil (passes_call (takes_of rfl rfl rfl rfl) (fun _ _ _ _ h => h)) ha (by decide) he hpl
    refine ⟨_, pss_cons (ps_par (i := 4) (j := 5) (by rfl) nd rfl rfl (by decide) rfl rfl (pa_cons (pe_callB (rp rfl) (by rfl) T.repr boot_repr (pa_cons (pe_call gD (rm (by decide)) rfl cD.g cD.kp cD.b .nil pass0 (pa_cons (pv 1) (pa_cons (pv 2) (pa_cons (pv 3) pa_nil)))) pa_nil)) (pa_cons (pe_callB (rp rfl) (by rfl) T.repr boot_repr (pa_cons (pv 3) pa_nil)) pa_nil)) (by rfl))
      (pss_cons (ps_for PassesOwn.never rfl (pi_range1 (by rfl) T.range (pa_cons pe_int pa_nil)) (pg_name (i := 6) nd rfl (Or.inl rfl))
        (pss_one (ps_if (PW.pt (pw_or (pt_cmpR op_ne (pe_callB (rp rfl) (by rfl) T.repr boot_repr (pa_cons (lam (LamX.lamS_by (by decide +kernel)) fun A' outer s H E f' c' hr8 => cck hr8 (by decide +kernel) (pa_cons (pv 0) (pa_cons (pv 2) (pa_cons (pv 3) pa_nil))) (by rfl) (by rfl)) pa_nil)) (pv 4) (nomark _)) (pw_or1 (pt_cmpR op_ne (pe_callB (rp rfl) (by rfl) T.repr boot_repr (pa_cons (pv 3) pa_nil)) (pv 5) (nomark _))))) (pss_one (ps_ret pe_bl)) pss_nil)))
      (pss_one (ps_ret pe_bl))), ?_⟩
    obtain ⟨Y, as, ht, hP⟩ := id hY
    have L := Y.lines
    have I := far_inv L
    have c160 : Cn (far ps) m ws ≤ 160 := by
      obtain ⟨rs, R, e⟩ := Cn_rs I hS.ok
      have := (rounds_small I hS.ways R).1
      omega
    have same_ne : ∀ x : Str, (!decide (V.str x = V.str x)) = false := fun x => by rw [decide_eq_true rfl]; rfl
    refine ⟨_, rfl, _, rfl, _, rfl, D, S, p, l, v, m, ps, ws, d, rfl, L, h40, hD, hS, hda, fun H1 r s1 j0 j1 => ?_⟩
    try unfold tNil
    refine due_rq c160 j0 j1 ?_
    have S1 := (Since.refl M tb).same s1
    refine ⟨_, rfl, ?_⟩
    try unfold tNil
    refine rq_da (Da.extT S1.e d v hda) hfx (by decide) (by decide) ?_
    refine ⟨_, _, rfl, ?_⟩
    refine ⟨2, rfl, by decide, by decide, ?_⟩
    refine for_range (lo := 0) (n := (2 : Int).toNat) (fun i σ H' => ∃ v6 : Option V, σ = [some (.ref y), some (.ref D), some (.ref S), some v, some (.str (dueD (far ps) m ws d).shown), some (.str d.shown), v6] ∧ Since [(Pt, qualJ), (Pf, qualF)] p a l n H H') ⟨none, rfl, S1⟩ ?_ ?_
    · rintro i σ H2 hi ⟨v6, rfl, S2⟩
      refine lam_go (K := K) (CL := CL) (RE := RE) S2 fun Hb R ea Sb hR => ?_
      have tu := Since.tup M Sb
      have hYb := hY.mono tu
      have hSb := hS.mono tu
      refine ⟨_, rfl, _, rfl, _, rfl, .ref y, .ref S, v, p, l, d, rfl, Da.extT Sb.e d v hda, .inr ⟨y, m, ps, rfl, hYb, h40, .inr ⟨S, ws, rfl, hSb, fun hj H3 s3 => ?_, fun pl hj => ?_⟩⟩⟩
      · refine hR _ _ fun u hu => ?_
        have SX := (Sb.same s3).same (Same.new (o := .lst [V.non]) hu)
        try unfold tNil
        refine due_rq c160 (fun _ => upd_same) (fun pl e => by rw [hj] at e; cases e) ?_
        refine ⟨_, rfl, rfl, _, rfl, ?_⟩
        rw [same_ne]
        refine iteF ⟨_, rfl, ?_⟩
        try unfold tNil
        refine rq_da (Da.extT SX.e d v hda) hfx (by decide) (by decide) ?_
        refine ⟨_, rfl, rfl, _, rfl, ?_⟩
        rw [same_ne]
        exact iteF ⟨_, rfl, SX⟩
      · refine said_wrong R5 fun Hc u r sc hu hr' => ?_
        have SX := Sb.same sc
        try unfold tNil
        refine due_rq c160 (fun e => by rw [hj] at e; cases e) (fun pl' e => by rw [hj] at e; cases e; exact ⟨r, hu, hr'⟩) ?_
        refine ⟨_, rfl, rfl, _, rfl, ?_⟩
        rw [same_ne]
        refine iteF ⟨_, rfl, ?_⟩
        try unfold tNil
        refine rq_da (Da.extT SX.e d v hda) hfx (by decide) (by decide) ?_
        refine ⟨_, rfl, rfl, _, rfl, ?_⟩
        rw [same_ne]
        exact iteF ⟨_, rfl, SX⟩
    · rintro σ H2 ⟨v6, rfl, S2⟩
      exact k _ S2.M S2.e S2.t
/-- what is refused is told by its word -/
def spRf (T : List (Addr × Str)) (CL : Nat → Addr) : Sp := fun vs H Q _ => ∃ (p a l : Addr) (n i : Nat) (yv sv v : V) (d : PyData), vs = [yv, sv, v, .str (wordS i)] ∧ i < 2 ∧ ML H p a l n ∧ Da p l H v d ∧ LamX.Tabs T H ∧
  (∀ (Hx : Hp) (E : XK), ExtT p l H Hx → RWrong (CL i) E Hx [] → BadY (CL 0) yv Hx E ∨ ∃ (y : Addr) (m : Nat) (ps : List (Nat × Nat)), yv = .ref y ∧ YAt Hx y m ps ∧ m ≤ 40 ∧ BadW (CL 1) sv m Hx E) ∧
  ∀ H', ML H' p a l n → ExtT p l H H' → LamX.Tabs T H' → Q (.bl true) H'
theorem two_words : ∀ i, i < 2 → SeqAt.shaped (.list [.tuple [.str (wordS i), nsD []], .tuple [.str (wordS i), nsD []]]) = true ∧ PyData.eqv (.list [.tuple [.str (wordS i), nsD []], .tuple [.str (wordS i), nsD []]]) (.list [.tuple [.str (wordS i), nsD []], .tuple [.str (wordS i), nsD []]]) = true := by
  intro i hi
  rcases (by omega : i = 0 ∨ i = 1) with rfl | rfl <;> exact ⟨by decide +kernel, by decide +kernel⟩
theorem ok_rfd {CL : Nat → Addr} {RE f c Pt Pf g fF fK : Addr} {fd dg dF dK : FuncData} (F : FunC K "_law_refused" "_law_refused" sRf f fd c) (T : TB mg) (TBl : LamX.TabB base mg c Pf) (npf : Pt ≠ Pf) (Nm : SaidN mg CL RE) (R0 : SaidC K CL RE 0) (R1 : SaidC K CL RE 1) (G : Fun K "_law_said" "_law_said" sSaid g dg) (cG : Cal K mg "_law_said" g dg ["deed"])
    (cF : Cal K mg "first_lead" fF dF ["yard", "setting"]) (gF : FnOk P w K mg base (L2.CX P w) 8 fF dF ["yard", "setting"] (spFR (CL 0) (CL 1))) (cK : Cal K mg "check_lead" fK dK ["yard", "setting", "lead"]) (gK : FnOk P w K mg base (L2.CX P w) 11 fK dK ["yard", "setting", "lead"] (spCK (CL 0) (CL 1) (CL 5))) :
    FnG P w K mg base CX0 14 f fd ["yard", "setting", "thing", "word"] (spRf [(Pt, qualJ), (Pf, qualF)] CL) := by
  refine okGC F scRf (fun vs H Q E h => ?_) (fun A outer s H vs Q E hgd hr h => ?_)
  · obtain ⟨p, a, l, n, i, yv, sv, v, d, rfl, _⟩ := h
    rfl
  · obtain ⟨p, a, l, n, i, yv, sv, v, d, rfl, i2, M, hda, tb, hbad, k⟩ := h
    have nd := scRf.nd
    have hu : (A.deeper (envOfC "_law_refused" (defScope sRf) s.heap.objs.size f (.ref c))).units + 64 < cLine := hr.units
    have rm : ∀ {j : Nat}, j ≤ 13 → Room j (A.deeper (envOfC "_law_refused" (defScope sRf) s.heap.objs.size f (.ref c))) := fun h => hr.mono h
    obtain ⟨oc, od, kV, doc, pm, an, cdg, ctg, osl, rfl, lkg, hcg⟩ := G.ex
    let X : Cx := (cxOf CX0 P w K mg base nRf "_law_refused" (defScope sRf) f (.ref c) A outer s H E).nox
    have lam : ∀ {body : Expr} {scope : Scope} {t : XK → TE} {p lpos pos : Pos} (LS : LamX.LamS (defScope sRf) scope) (hbody : ∀ (A' : Around) (outer : List Env) (s : Shared) (H : Hp) (E : XK) (f' c' : Addr), Room 11 (A'.deeper (LamX.lamEnv X scope s.heap.objs.size f' c')) → PE (LamX.lamCx X A' outer s H E scope f' c') body (t E)),
        PE X (.Call (.Name "_law_said" p) [.Lambda { posonlyargs := [], args := [], vararg := none, kwonlyargs := [], kw_defaults := [], kwarg := none, defaults := [] } body scope lpos] [] pos) (LamX.tLam [(Pt, qualJ), (Pf, qualF)] (TTsaid K CL RE) t) := fun LS hbody =>
      LamX.pe_lamcall (X := X) (k := 11) rfl cG.g cG.kp lkg hcg cG.b scSaid rfl (.inl rfl) (said_gives (X := X) T Nm hr) TBl rfl (List.mem_cons_of_mem _ (List.mem_cons_self ..)) (fun q hq e => by
        rcases List.mem_cons.mp hq with rfl | hq
        · exact absurd e npf
        · rw [List.mem_singleton.mp hq]
          rfl) hr LS rfl (fun _ _ _ _ _ => rfl) hbody
    have cck : ∀ {A' : Around} {outer : List Env} {s : Shared} {H : Hp} {E : XK} {scope : Scope} {f' c' : Addr} {a b d : Expr} {ta : TE} {tr : TA} {p pos : Pos} (hr8 : Room 11 (A'.deeper (LamX.lamEnv X scope s.heap.objs.size f' c'))) (hg : scope.names.lookup ("check_lead" : Str) = some .globalImplicit)
        (ha : PA (LamX.lamCx X A' outer s H E scope f' c') [a, b, d] (tCons ta tr)) (he : starEach [a, b, d] (LamX.lamEnv X scope s.heap.objs.size f' c') = (false, eval a (LamX.lamEnv X scope s.heap.objs.size f' c')) :: starEach [b, d] (LamX.lamEnv X scope s.heap.objs.size f' c'))
        (hpl : (backTo pos (starEach [b, d] (LamX.lamEnv X scope s.heap.objs.size f' c'))).any (·.1) = false), PE (LamX.lamCx X A' outer s H E scope f' c') (.Call (.Name "check_lead" p) [a, b, d] [] pos) (tCall (spCK (CL 0) (CL 1) (CL 5)) [] E (tCons ta tr)) := fun hr8 hg ha he hpl =>
      pe_call gK hr8 hg cK.g cK.kp cK.b .nil (passes_call (takes_of rfl rfl rfl rfl) (fun _ _ _ _ h => h)) ha (by decide) he hpl
    have cfl : ∀ {A' : Around} {outer : List Env} {s : Shared} {H : Hp} {E : XK} {scope : Scope} {f' c' : Addr} {a b : Expr} {ta : TE} {tr : TA} {p pos : Pos} (hr8 : Room 11 (A'.deeper (LamX.lamEnv X scope s.heap.objs.size f' c'))) (hg : scope.names.lookup ("first_lead" : Str) = some .globalImplicit)
        (ha : PA (LamX.lamCx X A' outer s H E scope f' c') [a, b] (tCons ta tr)) (he : starEach [a, b] (LamX.lamEnv X scope s.heap.objs.size f' c') = (false, eval a (LamX.lamEnv X scope s.heap.objs.size f' c')) :: starEach [b] (LamX.lamEnv X scope s.heap.objs.size f' c'))
        (hpl : (backTo pos (starEach [b] (LamX.lamEnv X scope s.heap.objs.size f' c'))).any (·.1) = false), PE (LamX.lamCx X A' outer s H E scope f' c') (.Call (.Name "first_lead" p) [a, b] [] pos) (tCall (spFR (CL 0) (CL 1)) [] E (tCons ta tr)) := fun hr8 hg ha he hpl =>
      pe_call gF (hr8.mono (by decide)) hg cF.g cF.kp cF.b .nil (passes_call (takes_of rfl rfl rfl rfl) (fun _ _ _ _ h => h)) ha (by decide) he hpl
    refine ⟨_, pss_cons (ps_set (i := 4) nd rfl (Or.inl rfl) (pe_lst (pa_cons (lam (LamX.lamS_by (by decide +kernel)) fun A' outer s H E f' c' hr8 => cck hr8 (by decide +kernel) (pa_cons (pv 0) (pa_cons (pv 1) (pa_cons (pv 2) pa_nil))) (by rfl) (by rfl)) pa_nil)))
      (pss_cons (ps_expr (pe_bm PySem.F.plainAttrs_list PySem.F.slot_list_append PySem.F.type_list_append mt_append (pv 4) (pa_cons (lam (LamX.lamS_by (by decide +kernel)) fun A' outer s H E f' c' hr8 => cfl hr8 (by decide +kernel) (pa_cons (pv 0) (pa_cons (pv 1) pa_nil)) (by rfl) (by rfl)) pa_nil)))
      (pss_one (ps_ret (pe_cmpR (op_eqD (by exact hu)) (pv 4) (pe_op op_rep (pe_lst (pa_cons (pe_tup (pa_cons (pv 3) (pa_cons (pe_tup pa_nil) pa_nil))) pa_nil)) pe_int) (nomark _))))), ?_⟩
    have Ri : SaidC K CL RE i := by
      rcases (by omega : i = 0 ∨ i = 1) with rfl | rfl
      · exact R0
      · exact R1
    refine lam_go (K := K) (CL := CL) (RE := RE) (Since.refl M tb) fun Hb R ea Sb hR => ?_
    refine ⟨_, rfl, _, rfl, _, rfl, yv, sv, v, p, l, d, rfl, Da.extT Sb.e d v hda, (hbad _ _ Sb.e (said_wrong Ri fun Hc u r sc hu hr' => ?_)).imp (fun h => h) fun ⟨y, m, ps, e1, h1, h2, h3⟩ => ⟨y, m, ps, e1, h1, h2, .inl h3⟩⟩
    have Sc := Sb.same sc
    have SB := Since.refl Sc.M Sc.t
    try unfold tNil
    refine ⟨by show 1 ≤ sizeLine; decide, fun L1 hL1 => ?_⟩
    have sL := Same.new (o := .lst [V.ref u]) hL1
    have hL3 := upd_same (H := Hc) (a := L1) (o := .lst [V.ref u])
    generalize upd Hc L1 (.lst [V.ref u]) = H3 at sL hL3
    have S3 := SB.same sL
    refine ⟨_, rfl, .inl ⟨rfl, _, SqL.of hL3⟩, ?_⟩
    refine lam_go (K := K) (CL := CL) (RE := RE) ⟨S3.e, S3.M, S3.t⟩ fun Hb2 R2 ea2 Sb2 hR2 => ?_
    refine ⟨_, rfl, _, rfl, yv, sv, rfl, (hbad _ _ (Sc.e.trans Sb2.e) (said_wrong Ri fun Hd u2 r2 sd hu2 hr2 => ?_)).imp (fun h => h) fun ⟨y, m, ps, e1, h1, h2, h3⟩ => ⟨y, m, ps, e1, h1, h2, h3⟩⟩
    have hLd := sd _ _ (ea2 _ _ hL3 (by intro _ z; cases z))
    have Sd := Sb2.same sd
    refine ⟨L1, _, _, rfl, rfl, hLd, small1000 (by show 1 ≤ 1000; decide), ?_⟩
    have S4 := Sd.wr (ys := [V.ref u] ++ [V.ref u2]) Sc.M hL1 hLd
    have t4 : ∀ a xs, Hd a = some (.tup xs) → (upd Hd L1 (.lst ([V.ref u] ++ [V.ref u2]))) a = some (.tup xs) := fun a xs h => (upd_ne (ne_of h hLd (by intro z; cases z))).trans h
    have hL4 := upd_same (H := Hd) (a := L1) (o := .lst ([V.ref u] ++ [V.ref u2]))
    have hu4 := t4 _ _ hu2
    have hr4 := t4 _ _ hr2
    generalize upd Hd L1 (.lst ([V.ref u] ++ [V.ref u2])) = H4 at S4 hL4 hu4 hr4
    clear t4
    have tu4 := Since.tup Sc.M S4
    have hu0 := tu4 _ _ hu
    have hr0 := tu4 _ _ hr'
    refine ⟨_, rfl, ?_⟩
    refine ⟨_, rfl, Nat.zero_le _, fun z0 hz0 => ⟨two_le, fun w0 hw0 => ⟨(by show 1 ≤ sizeLine; decide), fun l5 hl5 => ⟨l5, _, _, rfl, rfl, upd_same, by decide, by decide, (by show 1 * 2 ≤ sizeLine; decide), fun G6 hG6 => ?_⟩⟩⟩⟩
    have x0 := Same.new (o := .tup []) hz0
    have y0 := upd_same (H := H4) (a := z0) (o := .tup [])
    generalize upd H4 z0 (.tup []) = I0 at *
    have x1 := Same.new (o := .tup [V.str (wordS i), V.ref z0]) hw0
    have y1 := upd_same (H := I0) (a := w0) (o := .tup [V.str (wordS i), V.ref z0])
    generalize upd I0 w0 (.tup [V.str (wordS i), V.ref z0]) = I1 at *
    have x2 := Same.new (o := .lst [V.ref w0]) hl5
    generalize upd I1 l5 (.lst [V.ref w0]) = I2 at *
    have x3 := Same.new (o := .lst (List.replicate (2 : Int).toNat [V.ref w0]).flatten) hG6
    have y3 := upd_same (H := I2) (a := G6) (o := .lst (List.replicate (2 : Int).toNat [V.ref w0]).flatten)
    generalize upd I2 G6 (.lst (List.replicate (2 : Int).toNat [V.ref w0]).flatten) = I3 at *
    have x23 := x2.trans x3
    have x13 := x1.trans x23
    have x03 := x0.trans x13
    have TT : ∀ {x r : Addr}, I3 x = some (.tup [V.str (wordS i), V.ref r]) → I3 r = some (.tup []) → Dp K I3 (.ref x) (.tuple [.str (wordS i), nsD []]) := fun h1 h2 => .tup (SqT.of h1) (.cons (.str _) (.cons (dp_nsD (rs := []) h2) .nil))
    obtain ⟨sh2, eq2⟩ := two_words i i2
    refine ⟨_, _, .lst (SqL.of (x03 _ _ hL4)) (.cons (TT (x03 _ _ hu0) (x03 _ _ hr0)) (.cons (TT (x03 _ _ hu4) (x03 _ _ hr4)) .nil)), .lst (SqL.of y3) (.cons (TT (x23 _ _ y1) (x13 _ _ y0)) (.cons (TT (x23 _ _ y1) (x13 _ _ y0)) .nil)), sh2, sh2, ?_⟩
    rw [eq2]
    have SZ := S4.same x03
    exact k _ SZ.M (Sc.e.trans SZ.e) SZ.t
end
end One
end P_LJ

section P_LL
set_option linter.all false
set_option maxRecDepth 100000
set_option maxHeartbeats 16000000
namespace One
open PySem PySem.Spec PyProof.Rows L2
theorem bad_other {C0 : Addr} {v : V} {Tv : String} {E : XK} {H : Hp} (hv : TV H v Tv) (hT : isTup Tv = false) (h : RWrong C0 E H []) : BadY C0 v H E :=
  ⟨_, rfl, .inl ⟨.inl ⟨Tv, hv, hT⟩, fun H' p s hp => wrong_of h s hp (Nat.zero_le _) (fun n hn => absurd hn (by simp))⟩⟩
theorem bad_count {C0 t : Addr} {xs : List V} {E : XK} {H : Hp} (ht : H t = some (.tup xs)) (hc : canBe (xs.length : Nat) = false) (h : RWrong C0 E H []) : BadY C0 (.ref t) H E :=
  ⟨_, rfl, .inl ⟨.inr ⟨t, xs, rfl, ht, hc⟩, fun H' p s hp => wrong_of h s hp (Nat.zero_le _) (fun n hn => absurd hn (by simp))⟩⟩
theorem badW_len {CS : Addr} {v : V} {m : Nat} {H : Hp} {E : XK} {T : String} (hv : TV H v T) (h1 : ∀ t xs, v = .ref t → H t = some (.tup xs) → xs.length ≠ m) (h2 : RWrong CS E H []) : BadW CS v m H E := ⟨⟨T, hv⟩, .inl ⟨h1, h2⟩⟩
def pairI (t : Nat × Nat) : PyData := .tuple [.int (t.1 : Nat), .int (t.2 : Nat)]
theorem lead_da {p a l : Addr} {n : Nat} {H : Hp} (M : ML H p a l n) : ∀ {bs : List Addr} {ts : List (Nat × Nat)}, PL H bs ts → DaAll p l H (refs bs) (ts.map pairI)
  | _, _, .nil => .nil
  | _, _, .cons h1 h2 => .cons (.tup (tup_off M h1).1 (tup_off M h1).2 h1 (.cons (.int _) (.cons (.int _) .nil))) (lead_da M h2)
theorem lead_lk {p a l : Addr} {n : Nat} {H : Hp} (M : ML H p a l n) {bs : List Addr} {ts : List (Nat × Nat)} (h : PL H bs ts) (sm : ∀ t ∈ ts, t.1 < 1000 ∧ t.2 < 1000) (hl : ts.length ≤ 160) : Lk p l H (refs bs) 160 := by
  refine ⟨_, lead_da M h, fun d hd => ?_, by rw [List.length_map, h.len]; exact hl⟩
  obtain ⟨t, ht, rfl⟩ := List.mem_map.mp hd
  obtain ⟨a1, a2⟩ := sm t ht
  exact fx2 (fxI (by omega) (by omega)) (fxI (by omega) (by omega))
abbrev sLaw : Stmt := top 80
abbrev nLaw : List Str := ["script", "state", "turn", "yard", "fars", "kept", "setting", "lead", "more", "bent", "thing", "none"]
theorem scLaw : FnScope nLaw ["script"] (defScope sLaw) := ⟨rfl, rfl, rfl, by decide +kernel, rfl, by decide +kernel, by decide +kernel⟩
def spLaw (K : PySem.W.Frag) (Pt Pf : Addr) : Sp := fun vs H Q _ => ∃ (a : Addr) (ns : List Int), vs = [.ref a] ∧ SqL K H a (ns.map V.int) ∧ ns.length ≤ 63 ∧ H Pt = some (.tbl #[]) ∧ H Pf = some (.tbl #[]) ∧ ∀ H', Q (.bl true) H'
theorem yard_small {n : Nat} {ps : List (Nat × Nat)} (L : Lines n ps) (hn : n ≤ 40) : (∀ p ∈ ps, p.1 < 1000 ∧ p.2 < 1000) ∧ ps.length ≤ 1000 := by
  refine ⟨fun p hp => ?_, ?_⟩
  · have h1 := L.lt _ (mem_ends.mpr ⟨p, hp, .inl rfl⟩)
    have h2 := L.lt _ (mem_ends.mpr ⟨p, hp, .inr rfl⟩)
    omega
  · have := L.len
    omega
section
variable {P : Program} {w : World} {K : PySem.W.Frag} {mg : Str → Option Value} {base : Heap} {CL : Nat → Addr} {Pt Pf : Addr}
theorem ok_law {f fB fY fS fFa fSt fL fBe fD fJ fR : Addr} {fd dB dY dS dFa dSt dL dBe dD dJ dR : FuncData} {TT : List (Addr × Str)} (hTT : TT = [(Pt, qualJ), (Pf, qualF)]) (F : Fun K "law" "law" sLaw f fd) (T : TB mg) (cB : Cal K mg "_law_begin" fB dB ["script"]) (gB : FnOk P w K mg base CX0 1 fB dB ["script"] (spBG K))
    (cY : Cal K mg "_law_yard" fY dY ["state", "many"]) (gY : FnOk P w K mg base CX0 4 fY dY ["state", "many"] spYD) (cS : Cal K mg "_law_size" fS dS ["state", "most"]) (gS : FnOk P w K mg base CX0 3 fS dS ["state", "most"] spSZ)
    (cFa : Cal K mg "_law_far" fFa dFa ["yard"]) (gFa : FnOk P w K mg base CX0 1 fFa dFa ["yard"] spFA) (cSt : Cal K mg "_law_setting" fSt dSt ["state", "fars"]) (gSt : FnOk P w K mg base CX0 4 fSt dSt ["state", "fars"] spST)
    (cL : Cal K mg "_law_lead" fL dL ["state", "fars", "setting"]) (gL : FnOk P w K mg base CX0 4 fL dL ["state", "fars", "setting"] spLL) (cBe : Cal K mg "_law_bent" fBe dBe ["state", "lead", "many"]) (gBe : FnOk P w K mg base CX0 4 fBe dBe ["state", "lead", "many"] spBe)
    (cD : Cal K mg "_law_draw" fD dD ["state", "many"]) (gD : FnOk P w K mg base CX0 2 fD dD ["state", "many"] spDR) (cJ : Cal K mg "_law_judged" fJ dJ ["yard", "fars", "setting", "thing"]) (gJ : FnG P w K mg base CX0 14 fJ dJ ["yard", "fars", "setting", "thing"] (spJu TT))
    (cR : Cal K mg "_law_refused" fR dR ["yard", "setting", "thing", "word"]) (gR : FnG P w K mg base CX0 14 fR dR ["yard", "setting", "thing", "word"] (spRf TT CL)) :
    FnG P w K mg base CX0 15 f fd ["script"] (spLaw K Pt Pf) := by
  refine okG0 F scLaw (fun vs H Q E h => ?_) (fun cdv A outer s H vs Q E hgd hr h => ?_)
  · obtain ⟨a, ns, rfl, _⟩ := h
    rfl
  · obtain ⟨a, ns, rfl, hS, hl, hPt, hPf, k⟩ := h
    have nd := scLaw.nd
    have hu : (A.deeper (envOfC "law" (defScope sLaw) s.heap.objs.size f cdv)).units + 64 < cLine := hr.units
    have rm : ∀ {j : Nat}, j ≤ 14 → Room j (A.deeper (envOfC "law" (defScope sLaw) s.heap.objs.size f cdv)) := fun h => hr.mono h
    have rp : ∀ {X' : Cx}, X'.A = A.deeper (envOfC "law" (defScope sLaw) s.heap.objs.size f cdv) → CallR X' (.builtin "repr") (rRepr X'.K) := fun e => cr_repr (by rw [e]; exact hgd) (by rw [e]; exact hu)
    refine ⟨_, pss_cons (ps_set (i := 1) nd rfl (Or.inl rfl) (pe_call gB (rm (by decide)) rfl cB.g cB.kp cB.b .nil pass0 (pa_cons (pv 0) pa_nil)))
      (pss_cons (ps_for PassesOwn.never rfl (pi_range1 (by rfl) T.range (pa_cons pe_int pa_nil)) (pg_name (i := 2) nd rfl (Or.inl rfl))
        (pss_cons (ps_set (i := 3) nd rfl (Or.inl rfl) (pe_call gY (rm (by decide)) rfl cY.g cY.kp cY.b .nil pass0 (pa_cons (pv 1) (pa_cons (pe_call gS (rm (by decide)) rfl cS.g cS.kp cS.b .nil pass0 (pa_cons (pv 1) (pa_cons pe_int pa_nil))) pa_nil))))
      (pss_cons (ps_par (i := 4) (j := 5) (by rfl) nd rfl rfl (by decide) rfl rfl (pa_cons (pe_call gFa (rm (by decide)) rfl cFa.g cFa.kp cFa.b .nil pass0 (pa_cons (pv 3) pa_nil)) (pa_cons (pe_callB (rp rfl) (by rfl) T.repr boot_repr (pa_cons (pv 3) pa_nil)) pa_nil)) (by rfl))
      (pss_cons (ps_set (i := 6) nd rfl (Or.inl rfl) (pe_call gSt (rm (by decide)) rfl cSt.g cSt.kp cSt.b .nil pass0 (pa_cons (pv 1) (pa_cons (pv 4) pa_nil))))
      (pss_cons (ps_set (i := 7) nd rfl (Or.inl rfl) (pe_call gL (rm (by decide)) rfl cL.g cL.kp cL.b .nil pass0 (pa_cons (pv 1) (pa_cons (pv 4) (pa_cons (pv 6) pa_nil)))))
      (pss_cons (ps_for PassesOwn.never rfl (pi_range1 (by rfl) T.range (pa_cons pe_int pa_nil)) (pg_name (i := 8) nd rfl (Or.inl rfl))
        (pss_cons (ps_set (i := 9) nd rfl (Or.inl rfl) (pe_call gBe (rm (by decide)) rfl cBe.g cBe.kp cBe.b .nil pass0 (pa_cons (pv 1) (pa_cons (pv 7) (pa_cons (pe_callB call_len_seq (by rfl) T.len PySem.boot_len (pa_cons (pv 6) pa_nil)) pa_nil)))))
      (pss_cons (ps_for PassesOwn.never rfl (pi_tup (pe_tup (pa_cons (pv 9) (pa_cons (pv 7) pa_nil)))) (pg_name (i := 10) nd rfl (Or.inl rfl))
        (pss_one (ps_if (pt_not (pt_val (pe_callG gJ (by exact hgd) (rm (by decide)) rfl cJ.g cJ.kp cJ.b .nil pass0 (pa_cons (pv 3) (pa_cons (pv 4) (pa_cons (pv 6) (pa_cons (pv 10) pa_nil))))))) (pss_one (ps_ret pe_bl)) pss_nil)))
      (C8.pss_cut (ps_set (i := 11) nd rfl (Or.inl rfl) (pe_ix ix_list (pe_lst (pa_cons (pe_slice sl_tupA (pv 6) (po_some pe_int) po_none) (pa_cons pe_non (pa_cons (pe_callTy call_list_of (by rfl) T.list (by decide +kernel) (pa_cons (pv 6) pa_nil) (by decide)) (pa_cons (pe_op op_catA (pv 6) (pe_tup (pa_cons pe_int pa_nil))) pa_nil))))) (pe_call gD (rm (by decide)) rfl cD.g cD.kp cD.b .nil pass0 (pa_cons (pv 1) (pa_cons pe_int pa_nil))) (fun _ _ => rfl)))
      (pss_cons (ps_if (pt_not (pt_val (pe_callG gR (by exact hgd) (rm (by decide)) rfl cR.g cR.kp cR.b .nil pass0 (pa_cons (pv 3) (pa_cons (pv 11) (pa_cons (pv 9) (pa_cons pe_str pa_nil))))))) (pss_one (ps_ret pe_bl)) pss_nil)
      (pss_one (ps_if (pt_not (pt_val (pe_callG gR (by exact hgd) (rm (by decide)) rfl cR.g cR.kp cR.b .nil pass0 (pa_cons (pe_ix ix_list (pe_lst (pa_cons (pe_callTy call_list_of (by rfl) T.list (by decide +kernel) (pa_cons (pv 3) pa_nil) (by decide)) (pa_cons (pe_slice sl_tupA (pv 3) (po_some pe_int) po_none) (pa_cons pe_non (pa_cons (pe_tup pa_nil) pa_nil))))) (pe_op op_mod (pv 8) pe_int) (fun _ _ => rfl)) (pa_cons (pv 11) (pa_cons (pv 9) (pa_cons pe_str pa_nil))))))) (pss_one (ps_ret pe_bl)) pss_nil)))))))
      (pss_one (ps_if (pt_cmpR op_ne (pe_callB (rp rfl) (by rfl) T.repr boot_repr (pa_cons (pv 3) pa_nil)) (pv 5) (nomark _)) (pss_one (ps_ret pe_bl)) pss_nil))))))))
      (pss_one (ps_ret pe_bl))), ?_⟩
    have same_ne : ∀ x : Str, (!decide (V.str x = V.str x)) = false := fun x => by rw [decide_eq_true rfl]; rfl
    refine ⟨_, rfl, a, ns, rfl, hS, hl, fun H0 p c l s0 hp hc' hl' M0 => ?_⟩
    have t0 : LamX.Tabs TT H0 := fun q hq => by
      rw [hTT] at hq
      rcases List.mem_cons.mp hq with rfl | hq
      · exact LamX.TabS.nil (s0 _ _ hPt)
      · rw [List.mem_singleton.mp hq]
        exact LamX.TabS.nil (s0 _ _ hPf)
    refine ⟨3, rfl, by decide, by decide, ?_⟩
    refine for_range (lo := 0) (n := (3 : Int).toNat) (fun i σ H' => ∃ v2 v3 v4 v5 v6 v7 v8 v9 va vb : Option V, σ = [some (.ref a), some (.ref p), v2, v3, v4, v5, v6, v7, v8, v9, va, vb] ∧ ML H' p c l (1000 * i) ∧ LamX.Tabs TT H') ⟨none, none, none, none, none, none, none, none, none, none, rfl, M0, t0⟩ ?_ ?_
    · rintro i σ H1 hi ⟨v2, v3, v4, v5, v6, v7, v8, v9, va, vb, rfl, M1, t1⟩
      have hi : i < 3 := hi
      refine ⟨_, rfl, _, rfl, p, c, l, _, 40, rfl, M1, by omega, by decide, by decide, fun H2 m M2 e2 m0 m40 => ?_⟩
      refine ⟨p, c, l, _, m, rfl, M2, by omega, m0, m40, fun H3 y ps M3 e3 hY => ?_⟩
      obtain ⟨Y, as, ht, hP⟩ := id hY
      obtain ⟨y1, y2⟩ := yard_small Y.lines m40
      refine ⟨_, rfl, y, m, as, ps, rfl, ht, hP, Y.lines, by omega, fun H4 D s4 hDn hD => ?_⟩
      refine ⟨_, rfl, ?_⟩
      unfold tNil
      refine repr_yd (s4 _ _ ht) (hP.mono (sameT s4)) y1 y2 ?_
      refine ⟨_, _, rfl, ?_⟩
      have M4 := M3.keep s4
      obtain ⟨np, nl⟩ := M3.apart hDn
      refine ⟨_, rfl, _, rfl, p, c, l, D, _, m, ps, rfl, M4, by omega, Y.lines, m0, m40, np, hD, fun H5 u ws M5 e5 hSt => ?_⟩
      have t5 := ((((Since.refl M1 t1).extl M2 e2).extl M3 e3).same s4 |>.extl M5 e5).t
      have hY5 : YAt H5 y m ps := (hY.mono (sameT s4)).mono (tupL M4 e5)
      have hD5 := e5 _ _ np nl hD
      have I := far_inv Y.lines
      refine ⟨_, rfl, _, rfl, _, rfl, p, c, l, D, u, _, m, ps, ws, rfl, M5, by omega, Y.lines, Y.whole, m0, m40, np, hD5, hSt, fun H6 q bs ts M6 e6 hq hPL hLD => ?_⟩
      have S6 := (Since.refl M5 t5).extl M6 e6
      have hY6 := hY5.mono (tupL M5 e6)
      have hD6 := e6 _ _ np nl hD5
      have hSt6 := hSt.mono (tupL M5 e6)
      have tsm : ∀ t ∈ ts, t.1 < 1000 ∧ t.2 < 1000 := fun t ht => by
        have := hLD.small t ht
        omega
      have tl : ts.length ≤ 160 := by
        have e := hLD.len I m0 hSt.ok
        obtain ⟨rs, R, e'⟩ := Cn_rs I hSt.ok
        have := (rounds_small I hSt.ways R).1
        omega
      have hLk := lead_lk M6 hPL tsm tl
      have ln : (nats ws).length = m := (List.length_map _).trans hSt.len
      have M6 : ML H6 p c l (1000 * i + 900) := M6.lt (by omega) (by omega)
      refine ⟨6, rfl, by decide, by decide, ?_⟩
      refine for_range (lo := 0) (n := (6 : Int).toNat) (fun j σ H' => ∃ v8 v9 va vb : Option V, σ = [some (.ref a), some (.ref p), some (.int (0 + ((i : Nat) : Int))), some (.ref y), some (.ref D), some (.str (yd ps).shown), some (.ref u), some (.ref q), v8, v9, va, vb] ∧ ML H' p c l (1000 * i + 900 + 11 * j) ∧ ExtT p l H6 H' ∧ LamX.Tabs TT H')
        ⟨_, _, _, _, rfl, M6, ExtT.refl p l H6, S6.t⟩ ?_ ?_
      · rintro j σ H7 hj ⟨v8, v9, va, vb, rfl, M7, e7, t7⟩
        have hj : j < 6 := hj
        have tu7 : ∀ b xs, H6 b = some (.tup xs) → H7 b = some (.tup xs) := fun b xs h => by
          obtain ⟨q1, q2⟩ := tup_off M6 h
          exact e7 _ _ q1 q2 (by intro _ z; cases z) h
        refine ⟨_, rfl, _, rfl, _, rfl, u, _, rfl, .inr (SqT.of (tu7 _ _ hSt6.here)), ?_⟩
        rw [ln]
        refine ⟨p, c, l, q, _, m, refs bs, rfl, M7, by omega, m0, m40, tu7 _ _ hq, hLk.extT e7, fun H8 v d M8 e8 hda hfx => ?_⟩
        have E8 := e7.trans (ExtT.ofL e8)
        have t8 := ((Since.refl M7 t7).extl M8 e8).t
        have tu8 : ∀ b xs, H6 b = some (.tup xs) → H8 b = some (.tup xs) := fun b xs h => tupL M7 e8 _ _ (tu7 _ _ h)
        clear tu7
        refine ⟨_, rfl, _, rfl, two_le, fun tt htt => ?_⟩
        have s9 := Same.new (o := .tup [v, V.ref q]) htt
        have g9 := upd_same (H := H8) (a := tt) (o := .tup [v, V.ref q])
        generalize upd H8 tt (.tup [v, V.ref q]) = H9 at s9 g9
        have S9 := (Since.refl M8 t8).same s9
        refine ⟨tt, rfl, ⟨_, SqT.of g9⟩, for_it (walk_tup (K := K) (a := tt) (xs := [v, V.ref q])) (fun k σ H' => ∃ va : Option V, σ = [some (.ref a), some (.ref p), some (.int (0 + ((i : Nat) : Int))), some (.ref y), some (.ref D), some (.str (yd ps).shown), some (.ref u), some (.ref q), some (.int (0 + ((j : Nat) : Int))), some v, va, vb] ∧ Since TT p c l (1000 * i + 900 + 11 * j + 10) H8 H' ∧ H' tt = some (.tup [v, V.ref q])) ⟨va, rfl, S9, g9⟩ (fun k σ H' _ ⟨_, _, _, g⟩ => SqT.of g) ?_ ?_⟩
        · rintro k x σ H10 H11 hk ⟨va', rfl, S10, g10⟩ ⟨rfl, hx⟩
          have hk : k < 2 := hk
          have hx : [v, V.ref q][k]? = some x := hx
          have tu : ∀ b xs, H6 b = some (.tup xs) → H11 b = some (.tup xs) := fun b xs h => Since.tup M8 S10 _ _ (tu8 _ _ h)
          obtain ⟨d', hda', hfx'⟩ : ∃ d', Da p l H11 x d' ∧ Fx d' 4 9500 := by
            rcases (by omega : k = 0 ∨ k = 1) with rfl | rfl
            · cases hx
              exact ⟨d, Da.extT S10.e d _ hda, hfx⟩
            · cases hx
              obtain ⟨o1, o2⟩ := tup_off M6 hq
              obtain ⟨d', g, f⟩ := (hLk.extT (E8.trans S10.e)).tup (tu _ _ hq) o1 o2 (by decide)
              exact ⟨d', g, f.up (by decide) (by decide)⟩
          have hD11 := S10.e _ _ np nl (by intro _ z; cases z) (E8 _ _ np nl (by intro _ z; cases z) hD6)
          refine ⟨_, rfl, _, rfl, _, rfl, _, rfl, p, c, l, y, D, u, _, m, ps, ws, x, d', rfl, S10.M, hY6.mono tu, m40, np, hD11, hSt6.mono tu, hda', hfx', S10.t, fun H' M' e' t' => ⟨_, rfl, iteF ⟨_, rfl, ⟨S10.e.trans e', M', t'⟩, Since.tup S10.M ⟨e', M', t'⟩ _ _ g10⟩⟩⟩
        · rintro σ H11 ⟨va', rfl, S11, _⟩
          have tu : ∀ b xs, H6 b = some (.tup xs) → H11 b = some (.tup xs) := fun b xs h => Since.tup M8 S11 _ _ (tu8 _ _ h)
          have hu := tu _ _ hSt6.here
          refine ⟨fun σ H' => ∃ nv : V, σ = [some (.ref a), some (.ref p), some (.int (0 + ((i : Nat) : Int))), some (.ref y), some (.ref D), some (.str (yd ps).shown), some (.ref u), some (.ref q), some (.int (0 + ((j : Nat) : Int))), some v, va', some nv] ∧ Since TT p c l (1000 * i + 900 + 11 * j + 11) H8 H' ∧
            ∀ (Hx : Hp) (E : XK), ExtT p l H' Hx → RWrong (CL 1) E Hx [] → BadW (CL 1) nv m Hx E, ?_, ?_⟩
          · refine ⟨_, rfl, _, rfl, ?_⟩
            unfold tNoPart
            dsimp only
            refine rd_slA hu fun H12 q1 s12 g12 => ?_
            refine ⟨_, rfl, u, _, rfl, .inr (SqT.of (s12 _ _ hu)), fun q2 h2 => ?_⟩
            have s13 := Same.new (o := .lst (nats ws)) h2
            have g13 := upd_same (H := H12) (a := q2) (o := .lst (nats ws))
            have o2 := (S11.M.keep s12).apart h2
            generalize upd H12 q2 (.lst (nats ws)) = H13 at s13 g13
            refine ⟨_, rfl, (by show 1 ≤ sizeLine; decide), fun k1 hk1 => ?_⟩
            have s14 := Same.new (o := .tup [V.int 0]) hk1
            have g14 := upd_same (H := H13) (a := k1) (o := .tup [V.int 0])
            generalize upd H13 k1 (.tup [V.int 0]) = H14 at s14 g14
            have s02 := s12.trans (s13.trans s14)
            refine rd_catA (s02 _ _ hu) g14 (by rw [ln]; exact Nat.le_trans (by show m + 1 ≤ 41; omega) (by decide)) fun H15 q3 s15 g15 => ?_
            refine ⟨(by show 4 ≤ sizeLine; decide), fun L hL => ?_⟩
            have s16 := Same.new (o := .lst [V.ref q1, V.non, V.ref q2, V.ref q3]) hL
            have g16 := upd_same (H := H15) (a := L) (o := .lst [V.ref q1, V.non, V.ref q2, V.ref q3])
            have s0F := s02.trans s15
            have oL := (S11.M.keep s0F).apart hL
            generalize upd H15 L (.lst [V.ref q1, V.non, V.ref q2, V.ref q3]) = H16 at s16 g16
            have S16 := S11.same (s0F.trans s16)
            refine ⟨_, rfl, p, c, l, _, 4, rfl, S16.M, by omega, by decide, by decide, fun H17 r M17 e17 r0 r4 => ?_⟩
            have S17 := S16.extl M17 e17
            have b1 : H17 q1 = some (.tup (cutV (nats ws) (some 1) none)) := tupL S16.M e17 _ _ ((s13.trans (s14.trans (s15.trans s16))) _ _ g12)
            have b2 : H17 q2 = some (.lst (nats ws)) := e17 _ _ o2.1 o2.2 ((s14.trans (s15.trans s16)) _ _ g13)
            have b3 : H17 q3 = some (.tup (nats ws ++ [V.int 0])) := tupL S16.M e17 _ _ (s16 _ _ g15)
            have bL := e17 _ _ oL.1 oL.2 g16
            have tx : ∀ {Hx : Hp} {b : Addr} {xs : List V}, ExtT p l H17 Hx → H17 b = some (.tup xs) → Hx b = some (.tup xs) := fun {Hx b xs} e h => by
              obtain ⟨o1, o2⟩ := tup_off M17 h
              exact e _ _ o1 o2 (by intro _ z; cases z) h
            have l1 : (cutV (nats ws) (some 1) none).length = m - 1 := by
              rw [show (some (1 : Int)) = some ((1 : Nat) : Int) from rfl, cut_drop (by omega), List.length_drop, ln]
            have l3 : (nats ws ++ [V.int 0]).length = m + 1 := by
              rw [List.length_append, ln]
              rfl
            have inj : ∀ {a b : Addr}, V.ref a = V.ref b → a = b := fun h => by cases h; rfl
            rcases (by omega : r = 0 ∨ r = 1 ∨ r = 2 ∨ r = 3) with rfl | rfl | rfl | rfl
            · refine ⟨L, _, 0, _, rfl, rfl, SqL.of bL, rfl, ⟨_, rfl, S17, fun Hx E ex hx => badW_len (.tup (tx ex b1)) (fun t xs e h => ?_) hx⟩⟩
              cases inj e
              rw [tx ex b1] at h
              cases h
              rw [l1]
              omega
            · exact ⟨L, _, 1, _, rfl, rfl, SqL.of bL, rfl, ⟨_, rfl, S17, fun Hx E ex hx => badW_len .non (fun t xs e h => nomatch e) hx⟩⟩
            · refine ⟨L, _, 2, _, rfl, rfl, SqL.of bL, rfl, ⟨_, rfl, S17, fun Hx E ex hx => badW_len (.lst (ex _ _ o2.1 o2.2 (by intro _ z; cases z) b2)) (fun t xs e h => ?_) hx⟩⟩
              cases inj e
              rw [ex _ _ o2.1 o2.2 (by intro _ z; cases z) b2] at h
              cases h
            · refine ⟨L, _, 3, _, rfl, rfl, SqL.of bL, rfl, ⟨_, rfl, S17, fun Hx E ex hx => badW_len (.tup (tx ex b3)) (fun t xs e h => ?_) hx⟩⟩
              cases inj e
              rw [tx ex b3] at h
              cases h
              rw [l3]
              omega
          · rintro σ H12 ⟨nv, rfl, S12, hbw⟩
            have tw : ∀ {Hx : Hp} {N : Nat}, ML Hx p c l N → ∀ {Hy : Hp}, ExtT p l Hx Hy → ∀ b xs, Hx b = some (.tup xs) → Hy b = some (.tup xs) := fun {Hx N} M {Hy} e b xs h => by
              obtain ⟨o1, o2⟩ := tup_off M h
              exact e _ _ o1 o2 (by intro _ z; cases z) h
            have hY12 := hY6.mono fun b xs h => Since.tup (M8.lt (k := 1000 * i + 900 + 11 * j + 11) (by omega) (by omega)) S12 _ _ (tu8 _ _ h)
            refine ⟨_, rfl, _, rfl, _, rfl, p, c, l, _, 1, .ref y, nv, v, d, rfl, by decide, S12.M, Da.extT S12.e d _ hda, S12.t, fun Hx E ex hx => .inr ⟨y, m, ps, rfl, hY12.mono (tw S12.M ex), m40, hbw _ _ ex hx⟩, fun H13 M13 e13 t13 => ⟨_, rfl, iteF ?_⟩⟩
            have S13 : Since TT p c l (1000 * i + 900 + 11 * j + 11) H8 H13 := ⟨S12.e.trans e13, M13, t13⟩
            have hY13 := hY12.mono (tw S12.M e13)
            obtain ⟨_, as3, hy3, hP3⟩ := id hY13
            refine ⟨_, rfl, y, _, rfl, .inr (SqT.of hy3), fun q1 h1 => ?_⟩
            have s14 := Same.new (o := .lst (refs as3)) h1
            have g14 := upd_same (H := H13) (a := q1) (o := .lst (refs as3))
            have o1 := M13.apart h1
            generalize upd H13 q1 (.lst (refs as3)) = H14 at s14 g14
            refine ⟨_, rfl, _, rfl, ?_⟩
            unfold tNoPart
            dsimp only
            refine rd_slA (s14 _ _ hy3) fun H15 q2 s15 g15 => ?_
            refine ⟨(by show 0 ≤ sizeLine; decide), fun q3 h3 => ?_⟩
            have s16 := Same.new (o := .tup []) h3
            have g16 := upd_same (H := H15) (a := q3) (o := .tup [])
            generalize upd H15 q3 (.tup []) = H16 at s16 g16
            refine ⟨(by show 4 ≤ sizeLine; decide), fun L hL => ?_⟩
            have s17 := Same.new (o := .lst [V.ref q1, V.ref q2, V.non, V.ref q3]) hL
            have g17 := upd_same (H := H16) (a := L) (o := .lst [V.ref q1, V.ref q2, V.non, V.ref q3])
            generalize upd H16 L (.lst [V.ref q1, V.ref q2, V.non, V.ref q3]) = H17 at s17 g17
            have s67 := s16.trans s17
            have S17 := S13.same (s14.trans (s15.trans s67))
            have b1 : H17 q1 = some (.lst (refs as3)) := (s15.trans s67) _ _ g14
            have b2 := s67 _ _ g15
            have b3 := s17 _ _ g16
            have pl : (refs as3).length = 2 * m := by
              rw [show (refs as3).length = as3.length from List.length_map _, hP3.len]
              exact Y.lines.len
            have l2 : (cutV (refs as3) (some 1) none).length = 2 * m - 1 := by
              rw [show (some (1 : Int)) = some ((1 : Nat) : Int) from rfl, cut_drop (by omega), List.length_drop, pl]
            have tx : ∀ {Hx : Hp} {b : Addr} {xs : List V}, ExtT p l H17 Hx → H17 b = some (.tup xs) → Hx b = some (.tup xs) := fun {Hx b xs} e h => tw S17.M e _ _ h
            have hbw17 : ∀ (Hx : Hp) (E : XK), ExtT p l H17 Hx → ∀ zv, RWrong (CL 0) E Hx [] → BadY (CL 0) zv Hx E → BadY (CL 0) zv Hx E ∨ ∃ (y : Addr) (m : Nat) (ps : List (Nat × Nat)), zv = .ref y ∧ YAt Hx y m ps ∧ m ≤ 40 ∧ BadW (CL 1) nv m Hx E := fun _ _ _ _ _ h => .inl h
            have hda17 := Da.extT S17.e d _ hda
            have go : ∀ H', ML H' p c l (1000 * i + 900 + 11 * j + 11) → ExtT p l H17 H' → LamX.Tabs TT H' → ML H' p c l (1000 * i + 900 + 11 * (j + 1)) ∧ ExtT p l H6 H' ∧ LamX.Tabs TT H' := fun H' M' e' t' => ⟨M'.lt (by omega) (by omega), E8.trans (S17.e.trans e'), t'⟩
            refine ⟨_, rfl, _, _, rfl, rfl, (by show (0 : Int) < 4; decide), ?_⟩
            have h4 : (0 + ((j : Nat) : Int)) % 4 = 0 ∨ (0 + ((j : Nat) : Int)) % 4 = 1 ∨ (0 + ((j : Nat) : Int)) % 4 = 2 ∨ (0 + ((j : Nat) : Int)) % 4 = 3 := by omega
            rcases h4 with h4 | h4 | h4 | h4
            · refine ⟨L, _, 0, _, rfl, congrArg V.int h4, SqL.of g17, rfl, _, rfl, _, rfl, p, c, l, _, 0, _, nv, v, d, rfl, by decide, S17.M, hda17, S17.t, fun Hx E ex hx => .inl (bad_list (ex _ _ o1.1 o1.2 (by intro _ z; cases z) b1) hx), fun H' M' e' t' => ⟨_, rfl, iteF ⟨_, _, _, _, rfl, go _ M' e' t'⟩⟩⟩
            · refine ⟨L, _, 1, _, rfl, congrArg V.int h4, SqL.of g17, rfl, _, rfl, _, rfl, p, c, l, _, 0, _, nv, v, d, rfl, by decide, S17.M, hda17, S17.t, fun Hx E ex hx => .inl (bad_count (tx ex b2) ?_ hx), fun H' M' e' t' => ⟨_, rfl, iteF ⟨_, _, _, _, rfl, go _ M' e' t'⟩⟩⟩
              rw [l2]
              unfold canBe
              rw [decide_eq_false (p := ((2 * m - 1 : Nat) : Int) % 2 = 0) (by omega), Bool.and_false]
            · refine ⟨L, _, 2, _, rfl, congrArg V.int h4, SqL.of g17, rfl, _, rfl, _, rfl, p, c, l, _, 0, _, nv, v, d, rfl, by decide, S17.M, hda17, S17.t, fun Hx E ex hx => .inl (bad_other .non (by decide) hx), fun H' M' e' t' => ⟨_, rfl, iteF ⟨_, _, _, _, rfl, go _ M' e' t'⟩⟩⟩
            · refine ⟨L, _, 3, _, rfl, congrArg V.int h4, SqL.of g17, rfl, _, rfl, _, rfl, p, c, l, _, 0, _, nv, v, d, rfl, by decide, S17.M, hda17, S17.t, fun Hx E ex hx => .inl (bad_count (tx ex b3) (by decide) hx), fun H' M' e' t' => ⟨_, rfl, iteF ⟨_, _, _, _, rfl, go _ M' e' t'⟩⟩⟩
      · rintro σ H7 ⟨v8, v9, va, vb, rfl, M7, e7, t7⟩
        have tu7 : ∀ b xs, H6 b = some (.tup xs) → H7 b = some (.tup xs) := fun b xs h => by
          obtain ⟨q1, q2⟩ := tup_off M6 h
          exact e7 _ _ q1 q2 (by intro _ z; cases z) h
        obtain ⟨_, as6, ht6, hP6⟩ := id hY6
        refine ⟨_, rfl, ?_⟩
        try unfold tNil
        refine repr_yd (tu7 _ _ ht6) (hP6.mono tu7) y1 y2 ?_
        refine ⟨_, rfl, rfl, _, rfl, ?_⟩
        rw [same_ne]
        refine iteF ?_
        have hz : 1000 * i + 900 + 11 * (6 : Int).toNat ≤ 1000 * (i + 1) := by show 1000 * i + 900 + 11 * 6 ≤ _; omega
        exact ⟨_, _, _, _, _, _, _, _, _, _, rfl, M7.lt hz (by omega), t7⟩
    · rintro σ H1 ⟨v2, v3, v4, v5, v6, v7, v8, v9, va, vb, rfl, M1, t1⟩
      exact k _
end
end One
end P_LL

section P_H10
set_option linter.all false
set_option maxRecDepth 100000
set_option maxHeartbeats 8000000
namespace One
open PySem PySem.W PySem.Calls PyProof.Rows PySem.HandSPX L2
/-- a class's __init__, its first statement -/
def initOf : Stmt → Stmt
  | .ClassDef (body := b) .. => b.getD 0 (.Pass ⟨0, 0, 0, 0⟩)
  | s => s
theorem shape0 : Shape (initOf (top 2)) "place" := ⟨_, _, _, _, _, _, _, _, _, _, _, _, _, _, _, _, rfl, rfl, rfl, by decide +kernel, fun _ => rfl⟩
theorem shape1 : Shape (initOf (top 5)) "place" := ⟨_, _, _, _, _, _, _, _, _, _, _, _, _, _, _, _, rfl, rfl, rfl, by decide +kernel, fun _ => rfl⟩
theorem shape4 : Shape (initOf (top 6)) "place" := ⟨_, _, _, _, _, _, _, _, _, _, _, _, _, _, _, _, rfl, rfl, rfl, by decide +kernel, fun _ => rfl⟩
theorem shape5 : Shape (initOf (top 7)) "place" := ⟨_, _, _, _, _, _, _, _, _, _, _, _, _, _, _, _, rfl, rfl, rfl, by decide +kernel, fun _ => rfl⟩
/-- a def of the top -/
structure DefAt (K : Frag) (x : Str) (st : Stmt) (f : Addr) (fd : FuncData) : Prop where
  ns : nsIn K mainGlobals x = some (some (.ref f))
  fn : L2.Fun K x x st f fd
theorem def_at {K : Frag} {x : Str} {st : Stmt} {f : Addr} {oc kV dc pm cd ct : Value} {od an : Option Addr} {sl : Array (Option Value)} (a : nsIn K mainGlobals x = some (some (.ref f))) (l : K.lookup f = some ⟨oc, od, .func (fnOf x x (defArgs st) (defBody st) (defScope st) .none kV dc pm an cd ct), sl⟩)
    (c : codeIn K cd x = true) (k : keepIn K (.ref f) = true) : DefAt K x st f (fnOf x x (defArgs st) (defBody st) (defScope st) .none kV dc pm an cd ct) := ⟨a, fun_mk l c k⟩
theorem DefAt.cal {K : Frag} {x : Str} {st : Stmt} {f : Addr} {fd : FuncData} {h : Heap} {mg : Str → Option Value} {ps : List Str} (D : DefAt K x st f fd) (X : K.In h) (G : h.Ns mainGlobals mg)
    (hb : ∀ (kV doc pm : Value) (an : Option Addr) (cdv ct : Value) (us : List Value), us.length = ps.length → bindArgs (fnOf x x (defArgs st) (defBody st) (defScope st) .none kV doc pm an cdv ct) ⟨us, []⟩ = pure (ps.zip us)) : Cal K mg x f fd ps := ⟨mg_of X G D.ns, D.fn.kp, D.fn.binds hb⟩
/-- an own exception class: what the top has written of it -/
structure ClsAt (P : Program) (K : Frag) (x : Str) (st : Stmt) (fld : Str) (C fI : Addr) : Prop where
  ns : nsIn K mainGlobals x = some (some (.ref C))
  own : OwnTxt P K st fld C fI
  iC : findIn K (.ref C) "__init__" = some (some (.ref fI))
  tC : typeIn K (.ref fI) = some (.type "function")
  kC : keepIn K (.ref C) = true
  exC : subIn K (.ref C) (.type "BaseException") = some true
  tyC : typeIn K (.ref C) = some (.type "type")
theorem al_of {K : Frag} {nm q : Str} {RE N : Addr} {bs : List Value} {sn : List Str} {sub : List Value} {ab : Bool} {col : Option Bool} {dd : Option Addr} {m0 m1 m2 m3 m5 : Option Value} {r : Option (Option Value)} {hdct : Bool}
    (xR : K.lookup RE = some (excClassObj nm q RE N bs [.type "ValueError", .type "Exception", .type "BaseException", .type "object"] hdct sn sub ab col dd m0 m1 m2 m3 m5 "ValueError.__new__")) (fR : findIn K (.ref RE) "__init__" = r) : alongIn K "__init__" [.ref RE, .type "ValueError", .type "Exception", .type "BaseException", .type "object"] = r := by
  unfold findIn at fR
  dsimp only at fR
  rw [xR] at fR
  exact fR
theorem cls_at {P : Program} {K : Frag} {x : Str} {st : Stmt} {fld nm q : Str} {C fI N RE cda cc : Addr} {bs : List Value} {sn : List Str} {sub : List Value} {ab : Bool} {col : Option Bool} {dd od an cdd cld : Option Addr} {m0 m1 m2 m3 m5 : Option Value} {oc doc pm ct ccl cl : Value} {osl ccs csl : Array (Option Value)} {vs : Array Value} {file qual : Str} {tf : Tok}
    (ns : nsIn K mainGlobals x = some (some (.ref C))) (xL : K.lookup C = some (excClassObj nm q C N bs [.ref RE, .type "ValueError", .type "Exception", .type "BaseException", .type "object"] true sn sub ab col dd m0 m1 m2 m3 m5 "ValueError.__new__"))
    (al : alongIn K "__init__" [.ref RE, .type "ValueError", .type "Exception", .type "BaseException", .type "object"] = some (some (.builtin "ValueError.__init__"))) (sa : findIn K (.ref C) "__setattr__" = some (some (.builtin "object.__setattr__"))) (noF : findIn K (.ref C) fld = some none)
    (veB : subIn K (.ref C) (.type "ValueError") = some true) (slf : mroIn K C (.ref C) = some true) (op : nsIn K cStatics "thirdparty.any" = some none) (tp : (P.main.scope.names.lookup ("super" : Str)).isSome = false) (sh : Shape st fld)
    (iC : findIn K (.ref C) "__init__" = some (some (.ref fI))) (l1 : K.lookup fI = some ⟨oc, od, .func (ksFn "__init__" qual (defArgs st) (defBody st) (defScope st) .none .none doc pm an (.ref cda) ct cc), osl⟩) (c1 : codeIn K (.ref cda) qual = true)
    (lc : K.lookup cda = some ⟨ccl, cdd, .fields vs, ccs⟩) (hvs : vs[2]? = some (.str file tf)) (hfile : ((P.main.file : Str) == file) = true) (lcc : K.lookup cc = some ⟨cl, cld, .cell (some (.ref C)), csl⟩)
    (tC : typeIn K (.ref fI) = some (.type "function")) (kC : keepIn K (.ref C) = true) (exC : subIn K (.ref C) (.type "BaseException") = some true) (tyC : typeIn K (.ref C) = some (.type "type")) : ClsAt P K x st fld C fI :=
  ⟨ns, ⟨⟨_, _, _, _, _, _, _, _, _, _, _, _, _, _, _, xL, rfl, by rw [PySem.ESX.drop_own]; exact al⟩, sa, noF, veB, slf, op, tp, sh, ⟨_, _, _, _, _, _, _, _, _, _, _, _, _, _, _, _, _, _, _, l1, c1, lc, hvs, hfile, lcc⟩⟩, iC, tC, kC, exC, tyC⟩
theorem ClsAt.cls {P : Program} {K : Frag} {x : Str} {st : Stmt} {fld : Str} {C fI : Addr} {h : Heap} {mg : Str → Option Value} (D : ClsAt P K x st fld C fI) (X : K.In h) (G : h.Ns mainGlobals mg) : OwnCls K mg x C fI := ⟨mg_of X G D.ns, D.iC, D.tC, D.kC, D.exC, D.tyC⟩
end One
end P_H10

section P_H12
set_option linter.all false
set_option maxRecDepth 100000
set_option maxHeartbeats 8000000
namespace One
open PySem PySem.W PySem.Calls PyProof.Rows PySem.HandSPX L2
def clsS (C0 C1 C2 C3 C4 C5 C6 C7 C8 C9 C10 C11 C12 C13 C14 C15 C16 C17 C18 : Addr) : Nat → Addr := fun i => [C0, C1, C2, C3, C4, C5, C6, C7, C8, C9, C10, C11, C12, C13, C14, C15, C16, C17, C18].getD i C0
theorem said0 {K : Frag} {RE C0 C1 C2 C3 C4 C5 C6 C7 C8 C9 C10 C11 C12 C13 C14 C15 C16 C17 C18 : Addr} (hg : findIn K (.ref C0) "__getattribute__" = some (some (.builtin "BaseException.__getattribute__"))) (hk : findIn K (.ref C0) "__getattr__" = some none) (hs : subIn K (.ref C0) (.type "BaseException") = some true)
    (hd : hasDictIn K C0 = true) (ha : findIn K (.ref C0) "__class__" = some (some (.builtin "object.__class__"))) (hn : specialIn K (.builtin "object.__class__") "__get__" = some (some (.builtin "getset_descriptor.__get__"))) (ht : takesIn K (.builtin "object.__class__") = some true)
    (hm : mroIn K C0 (.type "object") = some true) (no : findIn K (.ref C0) "place" = some none)
    (q0 : kitOne K (.ref C0) (.ref C0) = some true) (q1 : kitOne K (.ref C0) (.ref C1) = some false) (q2 : kitOne K (.ref C0) (.ref C2) = some false) (q3 : kitOne K (.ref C0) (.ref C3) = some false) (q4 : kitOne K (.ref C0) (.ref C4) = some false) (q5 : kitOne K (.ref C0) (.ref C5) = some false) (q6 : kitOne K (.ref C0) (.ref C6) = some false) (q7 : kitOne K (.ref C0) (.ref C7) = some false) (q8 : kitOne K (.ref C0) (.ref C8) = some false) (q9 : kitOne K (.ref C0) (.ref C9) = some false) (q10 : kitOne K (.ref C0) (.ref C10) = some false) (q11 : kitOne K (.ref C0) (.ref C11) = some false) (q12 : kitOne K (.ref C0) (.ref C12) = some false) (q13 : kitOne K (.ref C0) (.ref C13) = some false) (q14 : kitOne K (.ref C0) (.ref C14) = some false) (q15 : kitOne K (.ref C0) (.ref C15) = some false) (q16 : kitOne K (.ref C0) (.ref C16) = some false) (q17 : kitOne K (.ref C0) (.ref C17) = some false) (q18 : kitOne K (.ref C0) (.ref C18) = some false)
    (ve : kitOne K (.ref C0) (.type "ValueError") = some true) (u1 : subIn K (.ref RE) (.type "BaseException") = some true) (u2 : hasDictIn K RE = true) (u3 : typeIn K (.ref RE) = some (.type "type")) (u4 : subIn K (.ref C0) (.ref RE) = some true) : SaidC K (clsS C0 C1 C2 C3 C4 C5 C6 C7 C8 C9 C10 C11 C12 C13 C14 C15 C16 C17 C18) RE 0 :=
  ⟨by decide, ⟨hg, hk, hs, hd, ha, hn, ht, hm⟩, ⟨hg, hk, hs, hd⟩, no, fun j hj => match j, hj with
    | 0, _ => q0
    | 1, _ => q1
    | 2, _ => q2
    | 3, _ => q3
    | 4, _ => q4
    | 5, _ => q5
    | 6, _ => q6
    | 7, _ => q7
    | 8, _ => q8
    | 9, _ => q9
    | 10, _ => q10
    | 11, _ => q11
    | 12, _ => q12
    | 13, _ => q13
    | 14, _ => q14
    | 15, _ => q15
    | 16, _ => q16
    | 17, _ => q17
    | 18, _ => q18
    | n + 19, h => absurd h (by omega), ve, exm_ref u1 u2 u3 u4⟩
theorem said1 {K : Frag} {RE C0 C1 C2 C3 C4 C5 C6 C7 C8 C9 C10 C11 C12 C13 C14 C15 C16 C17 C18 : Addr} (hg : findIn K (.ref C1) "__getattribute__" = some (some (.builtin "BaseException.__getattribute__"))) (hk : findIn K (.ref C1) "__getattr__" = some none) (hs : subIn K (.ref C1) (.type "BaseException") = some true)
    (hd : hasDictIn K C1 = true) (ha : findIn K (.ref C1) "__class__" = some (some (.builtin "object.__class__"))) (hn : specialIn K (.builtin "object.__class__") "__get__" = some (some (.builtin "getset_descriptor.__get__"))) (ht : takesIn K (.builtin "object.__class__") = some true)
    (hm : mroIn K C1 (.type "object") = some true) (no : findIn K (.ref C1) "place" = some none)
    (q0 : kitOne K (.ref C1) (.ref C0) = some false) (q1 : kitOne K (.ref C1) (.ref C1) = some true) (q2 : kitOne K (.ref C1) (.ref C2) = some false) (q3 : kitOne K (.ref C1) (.ref C3) = some false) (q4 : kitOne K (.ref C1) (.ref C4) = some false) (q5 : kitOne K (.ref C1) (.ref C5) = some false) (q6 : kitOne K (.ref C1) (.ref C6) = some false) (q7 : kitOne K (.ref C1) (.ref C7) = some false) (q8 : kitOne K (.ref C1) (.ref C8) = some false) (q9 : kitOne K (.ref C1) (.ref C9) = some false) (q10 : kitOne K (.ref C1) (.ref C10) = some false) (q11 : kitOne K (.ref C1) (.ref C11) = some false) (q12 : kitOne K (.ref C1) (.ref C12) = some false) (q13 : kitOne K (.ref C1) (.ref C13) = some false) (q14 : kitOne K (.ref C1) (.ref C14) = some false) (q15 : kitOne K (.ref C1) (.ref C15) = some false) (q16 : kitOne K (.ref C1) (.ref C16) = some false) (q17 : kitOne K (.ref C1) (.ref C17) = some false) (q18 : kitOne K (.ref C1) (.ref C18) = some false)
    (ve : kitOne K (.ref C1) (.type "ValueError") = some true) (u1 : subIn K (.ref RE) (.type "BaseException") = some true) (u2 : hasDictIn K RE = true) (u3 : typeIn K (.ref RE) = some (.type "type")) (u4 : subIn K (.ref C1) (.ref RE) = some true) : SaidC K (clsS C0 C1 C2 C3 C4 C5 C6 C7 C8 C9 C10 C11 C12 C13 C14 C15 C16 C17 C18) RE 1 :=
  ⟨by decide, ⟨hg, hk, hs, hd, ha, hn, ht, hm⟩, ⟨hg, hk, hs, hd⟩, no, fun j hj => match j, hj with
    | 0, _ => q0
    | 1, _ => q1
    | 2, _ => q2
    | 3, _ => q3
    | 4, _ => q4
    | 5, _ => q5
    | 6, _ => q6
    | 7, _ => q7
    | 8, _ => q8
    | 9, _ => q9
    | 10, _ => q10
    | 11, _ => q11
    | 12, _ => q12
    | 13, _ => q13
    | 14, _ => q14
    | 15, _ => q15
    | 16, _ => q16
    | 17, _ => q17
    | 18, _ => q18
    | n + 19, h => absurd h (by omega), ve, exm_ref u1 u2 u3 u4⟩
theorem said5 {K : Frag} {RE C0 C1 C2 C3 C4 C5 C6 C7 C8 C9 C10 C11 C12 C13 C14 C15 C16 C17 C18 : Addr} (hg : findIn K (.ref C5) "__getattribute__" = some (some (.builtin "BaseException.__getattribute__"))) (hk : findIn K (.ref C5) "__getattr__" = some none) (hs : subIn K (.ref C5) (.type "BaseException") = some true)
    (hd : hasDictIn K C5 = true) (ha : findIn K (.ref C5) "__class__" = some (some (.builtin "object.__class__"))) (hn : specialIn K (.builtin "object.__class__") "__get__" = some (some (.builtin "getset_descriptor.__get__"))) (ht : takesIn K (.builtin "object.__class__") = some true)
    (hm : mroIn K C5 (.type "object") = some true) (no : findIn K (.ref C5) "place" = some none)
    (q0 : kitOne K (.ref C5) (.ref C0) = some false) (q1 : kitOne K (.ref C5) (.ref C1) = some false) (q2 : kitOne K (.ref C5) (.ref C2) = some false) (q3 : kitOne K (.ref C5) (.ref C3) = some false) (q4 : kitOne K (.ref C5) (.ref C4) = some false) (q5 : kitOne K (.ref C5) (.ref C5) = some true) (q6 : kitOne K (.ref C5) (.ref C6) = some false) (q7 : kitOne K (.ref C5) (.ref C7) = some false) (q8 : kitOne K (.ref C5) (.ref C8) = some false) (q9 : kitOne K (.ref C5) (.ref C9) = some false) (q10 : kitOne K (.ref C5) (.ref C10) = some false) (q11 : kitOne K (.ref C5) (.ref C11) = some false) (q12 : kitOne K (.ref C5) (.ref C12) = some false) (q13 : kitOne K (.ref C5) (.ref C13) = some false) (q14 : kitOne K (.ref C5) (.ref C14) = some false) (q15 : kitOne K (.ref C5) (.ref C15) = some false) (q16 : kitOne K (.ref C5) (.ref C16) = some false) (q17 : kitOne K (.ref C5) (.ref C17) = some false) (q18 : kitOne K (.ref C5) (.ref C18) = some false)
    (ve : kitOne K (.ref C5) (.type "ValueError") = some true) (u1 : subIn K (.ref RE) (.type "BaseException") = some true) (u2 : hasDictIn K RE = true) (u3 : typeIn K (.ref RE) = some (.type "type")) (u4 : subIn K (.ref C5) (.ref RE) = some true) : SaidC K (clsS C0 C1 C2 C3 C4 C5 C6 C7 C8 C9 C10 C11 C12 C13 C14 C15 C16 C17 C18) RE 5 :=
  ⟨by decide, ⟨hg, hk, hs, hd, ha, hn, ht, hm⟩, ⟨hg, hk, hs, hd⟩, no, fun j hj => match j, hj with
    | 0, _ => q0
    | 1, _ => q1
    | 2, _ => q2
    | 3, _ => q3
    | 4, _ => q4
    | 5, _ => q5
    | 6, _ => q6
    | 7, _ => q7
    | 8, _ => q8
    | 9, _ => q9
    | 10, _ => q10
    | 11, _ => q11
    | 12, _ => q12
    | 13, _ => q13
    | 14, _ => q14
    | 15, _ => q15
    | 16, _ => q16
    | 17, _ => q17
    | 18, _ => q18
    | n + 19, h => absurd h (by omega), ve, exm_ref u1 u2 u3 u4⟩
end One
end P_H12

section P_G3
set_option linter.all false
set_option maxRecDepth 100000
set_option maxHeartbeats 4000000
namespace One
open PySem PySem.Spec PyProof.Rows L2
/-- the one call of a law that has lambdas: cs, its code objects with their tables -/
theorem law_goesT {P : Program} {w : World} {K : PySem.W.Frag} {mg mb : Str → Option Value} {CX : CXT} {k : Nat} {fa a : Addr} {cs : List (Addr × Addr)} {fd : FuncData} {x : Str} {sp : Sp} {s : Shared} {vs : List Value} {ns : List Int} (inK : K.In s.heap) (nsm : s.heap.Ns mainGlobals mg)
    (nsb : s.heap.Ns builtinsNs mb) (boot : ∀ y : Str, y ≠ "__name__" → mb y = bootBuiltins y) (nolim : s.heap.NoLimit) (nogen : s.gens = #[]) (tab : ∀ p ∈ cs, s.heap.get? p.2 = some { cls := .none, data := .fields #[] }) (ntab : ∀ p ∈ cs, K.lookup p.2 = none) (heads : ∀ p ∈ cs, PySem.W.CodeHd s.heap p.1 p.2)
    (blt : ∃ (bm : Addr) (ob : Obj), mg "__builtins__" = some (.ref bm) ∧ bm ≠ builtinsNs ∧ s.heap.get? bm = some ob ∧ ob.cls = .type "module" ∧ ob.dict = some builtinsNs ∧ ob.data = .plain) (ha : s.heap.get? a = some { cls := .type "list", data := .seq vs.toArray }) (hi : IntsAre vs ns) (hl : ns.length ≤ sizeLine)
    (hr : Room k callerA) (F : ∀ base : Heap, K.In base → base.Ns mainGlobals mg → (∀ p ∈ cs, LamX.TabB base mg p.1 p.2) → FnG P w K mg base CX k fa fd [x] sp) (bind : ∀ (s : Shared) (u : Value), BindsTo s fd ⟨[u], []⟩ [(x, u)])
    (hsp : ∀ H : Hp, (∀ p ∈ cs, H p.2 = some (.tbl #[])) → SqL K H a (ns.map V.int) → sp [.ref a] H (fun v _ => v = .bl true) fun _ _ _ => False) (none_out : ∀ H e s', CX [] H s (fun _ _ _ => False) e s' → False) :
    codeAny (model P w) callerA (.call (.ref fa) ⟨[.ref a], []⟩) (fun r s' => r = .ok (.ret (.bool true)) ∧ OldK s.heap s'.heap ∧ s'.os = s.os ∧ AllBare s'.gens) s := by
  have rv := vals_ints hi
  have hlen := hi.length
  have isT : ∀ {b : Addr}, b ∈ cs.map (·.2) → s.heap.get? b = some { cls := .none, data := .fields #[] } := fun {b} hb => by
    obtain ⟨p, hp, e⟩ := List.mem_map.mp hb
    exact e ▸ tab p hp
  have toT : ∀ {p}, p ∈ cs → p.2 ∈ cs.map (·.2) := fun {p} hp => List.mem_map.mpr ⟨p, hp, rfl⟩
  have aT : a ∉ cs.map (·.2) := fun z => Data.noConfusion (show Data.seq vs.toArray _ = Data.fields #[] from congrArg Obj.data (Option.some.inj (ha.symm.trans (isT z))))
  have main : ∀ H : Hp, (∀ b ∈ cs.map (·.2), H b = some (.tbl #[])) → (∀ b u, H b = some u → (b ∈ cs.map (·.2) ∧ u = .tbl #[]) ∨ (b = a ∧ K.lookup a = none ∧ u = .frz { cls := .type "list", data := .seq vs.toArray } (.lst (ns.map V.int)))) → SqL K H a (ns.map V.int) →
      codeAny (model P w) callerA (.call (.ref fa) ⟨[.ref a], []⟩) (fun r s' => r = .ok (.ret (.bool true)) ∧ OldK s.heap s'.heap ∧ s'.os = s.os ∧ AllBare s'.gens) s := by
    intro H hT inv hS
    have ok : HOk P w H s.heap := fun b u e => by
      rcases inv b u e with ⟨hb, rfl⟩ | ⟨rfl, _, rfl⟩
      · exact isT hb
      · exact ⟨ha, by rw [List.length_map]; exact hl, vs, _, rv, ha⟩
    have put : ∀ {b : Addr} {o : Obj}, s.heap.get? b = some o → H b = none → (hidT s.heap H).get? b = some o := fun e n => hidT_get e n
    have free : ∀ {b : Addr} {o : Obj}, s.heap.get? b = some o → (∀ us n, o.data ≠ .seq us n) → o.data ≠ .fields #[] → H b = none := fun {b o} e h1 h2 => by
      match q : H b with
      | none => rfl
      | some u =>
        rcases inv b u q with ⟨hb, _⟩ | ⟨rfl, _, _⟩
        · cases (isT hb).symm.trans e
          exact (h2 rfl).elim
        · cases ha.symm.trans e
          exact (h1 _ _ rfl).elim
    have nsH : ∀ {b : Addr} {m : Str → Option Value}, s.heap.Ns b m → (hidT s.heap H).Ns b m := fun ⟨o, es, ep, e, d, r⟩ => ⟨o, es, ep, put e (free e (fun us n z => by cases d.symm.trans z) (fun z => by cases d.symm.trans z)), d, r⟩
    have inH : K.In (hidT s.heap H) := fun b o e => put (inK b o e) (by
      match q : H b with
      | none => rfl
      | some u =>
        rcases inv b u q with ⟨hb, _⟩ | ⟨rfl, z, _⟩
        · obtain ⟨p, hp, rfl⟩ := List.mem_map.mp hb
          cases (ntab p hp).symm.trans e
        · cases z.symm.trans e)
    obtain ⟨mc, n1, n2⟩ := nolim
    have tabB : ∀ p ∈ cs, LamX.TabB (hidT s.heap H) mg p.1 p.2 := fun p hp => by
      have hTp := tab p hp
      obtain ⟨og, es, ep, eg, dg, _⟩ := nsm
      refine ⟨?_, ?_, fun z => ?_⟩
      · obtain ⟨o, us, file, tf, flags, tg, inF, text, tt, e1, r1, r2, r3, rest⟩ := heads p hp
        refine ⟨o, us, file, tf, flags, tg, inF, text, tt, put e1 (free e1 (fun vs n z => by cases r2.symm.trans z) (fun z => ?_)), r1, r2, r3, rest⟩
        have z' : us = #[] := Data.fields.inj (r2.symm.trans z)
        rw [z'] at r3
        simp at r3
      · obtain ⟨bm, ob, b1, b2, b3, b4, b5, b6⟩ := blt
        refine ⟨bm, ob, b1, b2, fun q => ?_, fun q => ?_, put b3 (free b3 (fun vs n z => by cases b6.symm.trans z) (fun z => by cases b6.symm.trans z)), b4, b5, b6⟩
        · cases (q ▸ b3 : s.heap.get? mainGlobals = some ob).symm.trans eg
          cases b6.symm.trans dg
        · cases (q ▸ b3 : s.heap.get? p.2 = some ob).symm.trans hTp
          cases b6
      · cases (z ▸ hTp : s.heap.get? mainGlobals = _).symm.trans eg
        cases dg
    have env : Env0 P w K mg (hidT s.heap H) callerA [] s H := ⟨rfl, ⟨inH, nsH nsm, ⟨mb, nsH nsb, boot⟩, ⟨mc, nsH n1, n2⟩⟩, fun b o e => of_hidT e, Nat.le_of_eq (hidT_size _ _), trivial, fun b hb => absurd (show b ∈ ([] : List Addr) from hb) List.not_mem_nil, ok, .of_eq nogen⟩
    refine codeAny_mono ((F _ inH (nsH nsm) tabB).go callerA [] s H ⟨[.ref a], []⟩ [.ref a] [.ref a] _ _ rfl hr env (bind s (.ref a)) (.cons rfl .nil) (hsp H (fun p hp => hT _ (toT hp)) hS)) fun r s' h => ?_
    match r, h with
    | .error e, h => exact (none_out H e s' h).elim
    | .ok .next, h => exact h.elim
    | .ok .brk, h => exact h.elim
    | .ok .cont, h => exact h.elim
    | .ok (.ret u), ⟨v, H', os, bare, un, ok', rel, q⟩ =>
      cases (show v = .bl true from q)
      cases (show u = Value.bool true from rel)
      have key : ∀ b o, b ∉ cs.map (·.2) → s.heap.get? b = some o → s'.heap.get? b = some o := fun b o nb e => by
        match q : H b with
        | none => exact un.keep b o e q (fun z => absurd (show b ∈ ([] : List Addr) from z) List.not_mem_nil) (fun z => absurd z List.not_mem_nil)
        | some u =>
          rcases inv b u q with ⟨hb, _⟩ | ⟨rfl, _, rfl⟩
          · exact absurd hb nb
          · obtain ⟨e2, _⟩ := ok' b _ (un.frzs b _ _ q)
            cases ha.symm.trans e
            exact e2
      have more : ∀ p ∈ cs, ∃ m : Array Value, s'.heap.get? p.2 = some { cls := .none, data := .fields m } := fun p hp => let ⟨m, z⟩ := un.tbls p.2 #[] (hT _ (toT hp)); ⟨_, ok' p.2 _ z⟩
      refine ⟨rfl, ⟨fun b o e => ?_, fun b o e => ?_⟩, os, bare⟩
      · rcases Classical.em (b ∈ cs.map (·.2)) with hb | hb
        · obtain ⟨p, hp, rfl⟩ := List.mem_map.mp hb
          obtain ⟨m, hm⟩ := more p hp
          cases (tab p hp).symm.trans e
          exact .inr (.inl ⟨((heads p hp).tab (tab p hp)).isCodeTable, rfl, #[], m, rfl, by rw [Array.empty_append]; exact hm⟩)
        · exact .inl (key b o hb e)
      · rcases Classical.em (b ∈ cs.map (·.2)) with hb | hb
        · obtain ⟨p, hp, rfl⟩ := List.mem_map.mp hb
          obtain ⟨m, hm⟩ := more p hp
          exact ⟨_, hm⟩
        · exact ⟨o, key b o hb e⟩
  match hk : K.lookup a with
  | some o =>
    cases ha.symm.trans (inK a o hk)
    refine main (fun b => if b ∈ cs.map (·.2) then some (.tbl #[]) else none) (fun b hb => if_pos hb) (fun b u z => ?_) (.inr ⟨_, vs.toArray, _, hk, rfl, rfl, rfl, by rw [List.size_toArray, hlen]; exact hl, by simpa using rv⟩)
    rcases Classical.em (b ∈ cs.map (·.2)) with hb | hb
    · exact .inl ⟨hb, (Option.some.inj ((if_pos hb).symm.trans z)).symm⟩
    · cases (if_neg hb).symm.trans z
  | none =>
    refine main (fun b => if b ∈ cs.map (·.2) then some (.tbl #[]) else if b = a then some (.frz { cls := .type "list", data := .seq vs.toArray } (.lst (ns.map V.int))) else none) (fun b hb => if_pos hb) (fun b u z => ?_) (.inl (.inr ⟨{ cls := .type "list", data := .seq vs.toArray }, (if_neg aT).trans (if_pos rfl)⟩))
    rcases Classical.em (b ∈ cs.map (·.2)) with hb | hb
    · exact .inl ⟨hb, (Option.some.inj ((if_pos hb).symm.trans z)).symm⟩
    · have z1 := (if_neg hb).symm.trans z
      rcases Classical.em (b = a) with e | e
      · exact .inr ⟨e, hk, (Option.some.inj ((if_pos e).symm.trans z1)).symm⟩
      · cases (if_neg e).symm.trans z1
/-- what is known of the law's promise behind its top -/
def LawG (l : PySem.W.OpenLaw) (w : World) (K : PySem.W.Frag) (CX : CXT) (k n : Nat) (x : Str) (mg : Str → Option Value) (fa : Addr) (h : Heap) : Prop :=
  ∃ (fd : FuncData) (cs : List (Addr × Addr)) (sp : Sp), (∀ y ∈ cs, h.get? y.2 = some { cls := .none, data := .fields #[] }) ∧ (∀ y ∈ cs, K.lookup y.2 = none) ∧ (∀ y ∈ cs, PySem.W.CodeHd h y.1 y.2) ∧ (∀ (s : Shared) (u : Value), BindsTo s fd ⟨[u], []⟩ [(x, u)]) ∧
    (∀ (H : Hp) (a : Addr) (ns : List Int), ns.length ≤ n → (∀ z ∈ ns, Builtin.Int.intBits z ≤ 1048576) → (∀ y ∈ cs, H y.2 = some (.tbl #[])) → SqL K H a (ns.map V.int) → sp [.ref a] H (fun v _ => v = .bl true) fun _ _ _ => False) ∧
    (∀ base : Heap, K.In base → base.Ns mainGlobals mg → (∀ p ∈ cs, LamX.TabB base mg p.1 p.2) → FnG l.prog w K mg base CX k fa fd [x] sp)
theorem walkGT {l : PySem.W.OpenLaw} {n k : Nat} {q : Program} {loose : List Str} {XP : (Str → Option Value) → Heap → Prop} {YP : World → Heap → Prop} {d : DefRec} {K : Params → PySem.W.Frag} {CX : World → CXT} {x : Str} (hn : l.most = some n) (small : n ≤ sizeLine) (nodef : d.params.defaults = []) (hr : Room k callerA)
    (inY : ∀ (w : World) (h : Heap), YP w h → (K w.params).In h) (F : ∀ (w : World) (mg : Str → Option Value) (fa : Addr) (h : Heap), YP w h → (K w.params).In h → h.Ns mainGlobals mg → mg d.name = some (.ref fa) → LawG l w (K w.params) (CX w) k n x mg fa h)
    (none_out : ∀ (w : World) (H : Hp) (s : Shared) (e : Value) (s' : Shared), CX w [] H s (fun _ _ _ => False) e s' → False) : PySem.W.WalkO q loose XP YP l.row.toRowW d [] (fun f vs => PySem.call f vs) := by
  refine Att.attach_callB hn nodef fun w s0 s1 mg mb fa o pm cd doc a vs ns G Y ho hd hcd hmg hobj hints hlen hbits hg => ?_
  obtain ⟨fd, cs, sp, hT, nT, C, hb, hsp, hF⟩ := F w mg fa _ Y (inY w _ Y) G.T.g hmg
  exact law_goesT (inY w _ Y) G.T.g G.T.b G.T.builtins G.T.nolimit hg hT nT C G.T.bmain hobj hints (Nat.le_trans hlen small) hr hF hb (fun H hH hS => hsp H a ns hlen hbits hH hS) fun H e s' => none_out w H s1 e s'
end One
end P_G3

section P_H13
set_option linter.all false
set_option maxRecDepth 100000
set_option maxHeartbeats 8000000
namespace One
open PySem PySem.W PySem.Calls PyProof.Rows PySem.HandSPX L2
theorem tab_mkX {K : Frag} {x : Str} {f c Pt : Addr} {oc oc2 : Value} {od od2 : Option Addr} {fd : FuncData} {sl sl2 : Array (Option Value)} {vs : Array Value} (a : nsIn K mainGlobals x = some (some (.ref f))) (l : K.lookup f = some ⟨oc, od, .func fd, sl⟩) (hc : fd.code = .ref c)
    (lc : K.lookup c = some ⟨oc2, od2, .fields vs, sl2⟩) (hv : (vs[11]? : Option Value) = some (.ref Pt)) : tabIn K x = some (c, Pt) := by
  unfold tabIn
  rw [a]
  simp only [l, hc, lc, hv]
theorem walkGX {l : OpenLaw} {n k : Nat} {q : Program} {loose : List Str} {XP : (Str → Option Value) → Heap → Prop} {YP : World → Heap → Prop} {d : DefRec} {K : Params → Frag} {CX : World → CXT} {x : Str} (hn : l.most = some n) (small : n ≤ sizeLine) (nodef : d.params.defaults = []) (hr : Room k callerA)
    (inY : ∀ (w : World) (h : Heap), YP w h → (K w.params).In h)
    (F : ∀ (w : World) (mg : Str → Option Value) (fa : Addr) (h : Heap), YP w h → (K w.params).In h → h.Ns mainGlobals mg → mg d.name = some (.ref fa) →
      (∀ {x : Str} {dL : DefRec}, (recsOf q).find? (fun e => e.name == x) = some dL → ∀ {c P : Addr}, tabIn (K w.params) x = some (c, P) → CodeHd h c P ∧ h.get? P = some { cls := .none, data := .fields #[] }) → LawG l w (K w.params) (CX w) k n x mg fa h)
    (none_out : ∀ (w : World) (H : Hp) (s : Shared) (e : Value) (s' : Shared), CX w [] H s (fun _ _ _ => False) e s' → False) : WalkO q loose XP YP l.row.toRowW d [] (fun f vs => PySem.call f vs) := by
  refine Att.attach_callB hn nodef fun w s0 s1 mg mb fa o pm cd doc a vs ns G Y ho hd hcd hmg hobj hints hlen hbits hg => ?_
  have X := inY w _ Y
  obtain ⟨fd, cs, sp, hT, nT, C, hb, hsp, hF⟩ := F w mg fa _ Y X G.T.g hmg (@fun _ _ hrec _ _ ht => tab_of G.T X hrec ht)
  exact law_goesT X G.T.g G.T.b G.T.builtins G.T.nolimit hg hT nT C G.T.bmain hobj hints (Nat.le_trans hlen small) hr hF hb (fun H hH hS => hsp H a ns hlen hbits hH hS) fun H e s' => none_out w H s1 e s'
end One
end P_H13

section P_H11
set_option linter.all false
set_option maxRecDepth 100000
set_option maxHeartbeats 16000000
namespace One
open PySem PySem.W PySem.Calls PyProof.Rows PySem.HandSPX L2
theorem all_mk {l : OpenLaw} {w : World} {K : Frag} {h : Heap} {mg : Str → Option Value} {fa RE C0 C1 C2 C3 C4 C5 C6 C7 C8 C9 C10 C11 C12 C13 C14 C15 C16 C17 C18 i0 i1 i4 i5 : Addr} {f_law c_law : Addr} {t0 t1 t2 : Tok} {f_is_number f_is_below f_reached f_need_yard f_yard_fault f_can_be_many_lines f_is_line f_is_whole f_crossings_beside f_crossings f_fars_of_lines f_mate f_need_setting f_ways_fault f_with_way f_rounds_of f_rounds_by_fars f_round_from f_end_after f_many_rounds f_need_turn f_turn_fault f_turned f_with_turns f_change f_first_lead f_check_lead f_law_mixed f_law_begin f_law_draw f_law_order f_law_across f_law_yard f_law_size f_law_far f_law_outer f_law_setting f_law_count f_law_said f_law_done f_law_lead f_law_is_turn f_law_due f_law_odd f_law_bent f_law_judged f_law_refused : Addr} {e_is_number e_is_below e_reached e_need_yard e_yard_fault e_can_be_many_lines e_is_line e_is_whole e_crossings_beside e_crossings e_fars_of_lines e_mate e_need_setting e_ways_fault e_with_way e_rounds_of e_rounds_by_fars e_round_from e_end_after e_many_rounds e_need_turn e_turn_fault e_turned e_with_turns e_change e_first_lead e_check_lead e_law_mixed e_law_begin e_law_draw e_law_order e_law_across e_law_yard e_law_size e_law_far e_law_outer e_law_setting e_law_count e_law_said e_law_done e_law_lead e_law_is_turn e_law_due e_law_odd e_law_bent : FuncData} {oc kV doc pm ct : Value} {od an : Option Addr} {sl : Array (Option Value)}
    {co_law_judged P_law_judged : Addr} {oc_law_judged kV_law_judged doc_law_judged pm_law_judged ct_law_judged : Value} {od_law_judged an_law_judged : Option Addr} {sl_law_judged : Array (Option Value)}
    {co_law_refused P_law_refused : Addr} {oc_law_refused kV_law_refused doc_law_refused pm_law_refused ct_law_refused : Value} {od_law_refused an_law_refused : Option Addr} {sl_law_refused : Array (Option Value)}
    (X : K.In h) (G : h.Ns mainGlobals mg) (hfa : mg "law" = some (.ref fa))
    (tabs_law_judged : ∀ {c P : Addr}, tabIn K "_law_judged" = some (c, P) → CodeHd h c P ∧ h.get? P = some { cls := .none, data := .fields #[] })
    (tabs_law_refused : ∀ {c P : Addr}, tabIn K "_law_refused" = some (c, P) → CodeHd h c P ∧ h.get? P = some { cls := .none, data := .fields #[] })
    (z_len : nsIn K mainGlobals "len" = some none)
    (z_range : nsIn K mainGlobals "range" = some none)
    (z_tuple : nsIn K mainGlobals "tuple" = some none)
    (z_list : nsIn K mainGlobals "list" = some none)
    (z_sorted : nsIn K mainGlobals "sorted" = some none)
    (z_enumerate : nsIn K mainGlobals "enumerate" = some none)
    (z_isinstance : nsIn K mainGlobals "isinstance" = some none)
    (z_int : nsIn K mainGlobals "int" = some none)
    (z_bool : nsIn K mainGlobals "bool" = some none)
    (z_repr : nsIn K mainGlobals "repr" = some none)
    (z_all : nsIn K mainGlobals "all" = some none)
    (z_super : nsIn K mainGlobals "super" = some none)
    (z_ValueError : nsIn K mainGlobals "ValueError" = some none)
    (z_min : nsIn K mainGlobals "min" = some none)
    (z_max : nsIn K mainGlobals "max" = some none)
    (k_MOST_CROSSINGS : nsIn K mainGlobals "MOST_CROSSINGS" = some (some (.int 40 t0)))
    (k_PLACES : nsIn K mainGlobals "PLACES" = some (some (.int 4 t1)))
    (k_MANY_WAYS : nsIn K mainGlobals "MANY_WAYS" = some (some (.int 3 t2)))
    (d_is_number : DefAt K "is_number" (top 22) f_is_number e_is_number)
    (d_is_below : DefAt K "is_below" (top 23) f_is_below e_is_below)
    (d_reached : DefAt K "reached" (top 25) f_reached e_reached)
    (d_need_yard : DefAt K "need_yard" (top 30) f_need_yard e_need_yard)
    (d_yard_fault : DefAt K "yard_fault" (top 31) f_yard_fault e_yard_fault)
    (d_can_be_many_lines : DefAt K "can_be_many_lines" (top 32) f_can_be_many_lines e_can_be_many_lines)
    (d_is_line : DefAt K "is_line" (top 33) f_is_line e_is_line)
    (d_is_whole : DefAt K "is_whole" (top 34) f_is_whole e_is_whole)
    (d_crossings_beside : DefAt K "crossings_beside" (top 35) f_crossings_beside e_crossings_beside)
    (d_crossings : DefAt K "crossings" (top 36) f_crossings e_crossings)
    (d_fars_of_lines : DefAt K "fars_of_lines" (top 37) f_fars_of_lines e_fars_of_lines)
    (d_mate : DefAt K "mate" (top 38) f_mate e_mate)
    (d_need_setting : DefAt K "need_setting" (top 40) f_need_setting e_need_setting)
    (d_ways_fault : DefAt K "ways_fault" (top 41) f_ways_fault e_ways_fault)
    (d_with_way : DefAt K "with_way" (top 42) f_with_way e_with_way)
    (d_rounds_of : DefAt K "rounds_of" (top 43) f_rounds_of e_rounds_of)
    (d_rounds_by_fars : DefAt K "rounds_by_fars" (top 44) f_rounds_by_fars e_rounds_by_fars)
    (d_round_from : DefAt K "round_from" (top 45) f_round_from e_round_from)
    (d_end_after : DefAt K "end_after" (top 46) f_end_after e_end_after)
    (d_many_rounds : DefAt K "many_rounds" (top 47) f_many_rounds e_many_rounds)
    (d_need_turn : DefAt K "need_turn" (top 51) f_need_turn e_need_turn)
    (d_turn_fault : DefAt K "turn_fault" (top 52) f_turn_fault e_turn_fault)
    (d_turned : DefAt K "turned" (top 53) f_turned e_turned)
    (d_with_turns : DefAt K "with_turns" (top 54) f_with_turns e_with_turns)
    (d_change : DefAt K "change" (top 55) f_change e_change)
    (d_first_lead : DefAt K "first_lead" (top 56) f_first_lead e_first_lead)
    (d_check_lead : DefAt K "check_lead" (top 58) f_check_lead e_check_lead)
    (d_law_mixed : DefAt K "_law_mixed" (top 60) f_law_mixed e_law_mixed)
    (d_law_begin : DefAt K "_law_begin" (top 61) f_law_begin e_law_begin)
    (d_law_draw : DefAt K "_law_draw" (top 62) f_law_draw e_law_draw)
    (d_law_order : DefAt K "_law_order" (top 63) f_law_order e_law_order)
    (d_law_across : DefAt K "_law_across" (top 64) f_law_across e_law_across)
    (d_law_yard : DefAt K "_law_yard" (top 65) f_law_yard e_law_yard)
    (d_law_size : DefAt K "_law_size" (top 66) f_law_size e_law_size)
    (d_law_far : DefAt K "_law_far" (top 67) f_law_far e_law_far)
    (d_law_outer : DefAt K "_law_outer" (top 68) f_law_outer e_law_outer)
    (d_law_setting : DefAt K "_law_setting" (top 69) f_law_setting e_law_setting)
    (d_law_count : DefAt K "_law_count" (top 70) f_law_count e_law_count)
    (d_law_said : DefAt K "_law_said" (top 71) f_law_said e_law_said)
    (d_law_done : DefAt K "_law_done" (top 72) f_law_done e_law_done)
    (d_law_lead : DefAt K "_law_lead" (top 73) f_law_lead e_law_lead)
    (d_law_is_turn : DefAt K "_law_is_turn" (top 74) f_law_is_turn e_law_is_turn)
    (d_law_due : DefAt K "_law_due" (top 75) f_law_due e_law_due)
    (d_law_odd : DefAt K "_law_odd" (top 76) f_law_odd e_law_odd)
    (d_law_bent : DefAt K "_law_bent" (top 77) f_law_bent e_law_bent)
    (ns_law_judged : nsIn K mainGlobals "_law_judged" = some (some (.ref f_law_judged))) (lk_law_judged : K.lookup f_law_judged = some ⟨oc_law_judged, od_law_judged, .func (fnOf "_law_judged" "_law_judged" (defArgs (top 78)) (defBody (top 78)) (defScope (top 78)) .none kV_law_judged doc_law_judged pm_law_judged an_law_judged (.ref co_law_judged) ct_law_judged), sl_law_judged⟩) (cd_law_judged : codeIn K (.ref co_law_judged) "_law_judged" = true) (kp_law_judged : keepIn K (.ref f_law_judged) = true)
    (ns_law_refused : nsIn K mainGlobals "_law_refused" = some (some (.ref f_law_refused))) (lk_law_refused : K.lookup f_law_refused = some ⟨oc_law_refused, od_law_refused, .func (fnOf "_law_refused" "_law_refused" (defArgs (top 79)) (defBody (top 79)) (defScope (top 79)) .none kV_law_refused doc_law_refused pm_law_refused an_law_refused (.ref co_law_refused) ct_law_refused), sl_law_refused⟩) (cd_law_refused : codeIn K (.ref co_law_refused) "_law_refused" = true) (kp_law_refused : keepIn K (.ref f_law_refused) = true)
    (nRE : nsIn K mainGlobals "RoundError" = some (some (.ref RE))) (k0 : ClsAt l.prog K "BadYard" (initOf (top 2)) "place" C0 i0) (k1 : ClsAt l.prog K "BadSetting" (initOf (top 5)) "place" C1 i1) (n2 : nsIn K mainGlobals "BadEnd" = some (some (.ref C2))) (n3 : nsIn K mainGlobals "OutOfPlace" = some (some (.ref C3))) (k4 : ClsAt l.prog K "BadTurn" (initOf (top 6)) "place" C4 i4) (k5 : ClsAt l.prog K "BadLead" (initOf (top 7)) "place" C5 i5) (n6 : nsIn K mainGlobals "BadDraft" = some (some (.ref C6))) (n7 : nsIn K mainGlobals "BadNames" = some (some (.ref C7))) (n8 : nsIn K mainGlobals "BadSplit" = some (some (.ref C8))) (n9 : nsIn K mainGlobals "BadText" = some (some (.ref C9))) (n10 : nsIn K mainGlobals "BadTwins" = some (some (.ref C10))) (n11 : nsIn K mainGlobals "BadWorths" = some (some (.ref C11))) (n12 : nsIn K mainGlobals "BadDeed" = some (some (.ref C12))) (n13 : nsIn K mainGlobals "BadPaper" = some (some (.ref C13))) (n14 : nsIn K mainGlobals "BadTable" = some (some (.ref C14))) (n15 : nsIn K mainGlobals "Barred" = some (some (.ref C15))) (n16 : nsIn K mainGlobals "ManyRounds" = some (some (.ref C16))) (n17 : nsIn K mainGlobals "NeverOne" = some (some (.ref C17))) (n18 : nsIn K mainGlobals "TooMany" = some (some (.ref C18)))
    (r0 : SaidC K (clsS C0 C1 C2 C3 C4 C5 C6 C7 C8 C9 C10 C11 C12 C13 C14 C15 C16 C17 C18) RE 0) (r1 : SaidC K (clsS C0 C1 C2 C3 C4 C5 C6 C7 C8 C9 C10 C11 C12 C13 C14 C15 C16 C17 C18) RE 1) (r5 : SaidC K (clsS C0 C1 C2 C3 C4 C5 C6 C7 C8 C9 C10 C11 C12 C13 C14 C15 C16 C17 C18) RE 5)
    (lawNs : nsIn K mainGlobals "law" = some (some (.ref f_law))) (lawLk : K.lookup f_law = some ⟨oc, od, .func (fnOf "law" "law" (defArgs sLaw) (defBody sLaw) (defScope sLaw) .none kV doc pm an (.ref c_law) ct), sl⟩) (lawCd : codeIn K (.ref c_law) "law" = true) (lawKp : keepIn K (.ref f_law) = true)
    (tab_law_judged : tabIn K "_law_judged" = some (co_law_judged, P_law_judged)) (ntab_law_judged : K.lookup P_law_judged = none)    (tab_law_refused : tabIn K "_law_refused" = some (co_law_refused, P_law_refused)) (ntab_law_refused : K.lookup P_law_refused = none) (npf : P_law_judged ≠ P_law_refused) : LawG l w K CX0 15 63 "script" mg fa h := by
  have e := hfa.symm.trans (mg_of X G lawNs)
  cases e
  obtain ⟨hd_law_judged, ht_law_judged⟩ := tabs_law_judged tab_law_judged
  obtain ⟨hd_law_refused, ht_law_refused⟩ := tabs_law_refused tab_law_refused
  have memC : ∀ p ∈ [(co_law_judged, P_law_judged), (co_law_refused, P_law_refused)], p ∈ [(co_law_judged, P_law_judged), (co_law_refused, P_law_refused)] := fun p hp => hp
  refine ⟨fnOf "law" "law" (defArgs sLaw) (defBody sLaw) (defScope sLaw) .none kV doc pm an (.ref c_law) ct, [(co_law_judged, P_law_judged), (co_law_refused, P_law_refused)], spLaw K P_law_judged P_law_refused, (List.forall_mem_cons.mpr ⟨ht_law_judged, (List.forall_mem_cons.mpr ⟨ht_law_refused, (fun p hp => absurd hp List.not_mem_nil)⟩)⟩), (List.forall_mem_cons.mpr ⟨ntab_law_judged, (List.forall_mem_cons.mpr ⟨ntab_law_refused, (fun p hp => absurd hp List.not_mem_nil)⟩)⟩), (List.forall_mem_cons.mpr ⟨hd_law_judged, (List.forall_mem_cons.mpr ⟨hd_law_refused, (fun p hp => absurd hp List.not_mem_nil)⟩)⟩), fun s u => .of_eq rfl, fun H a ns hl _ hT hS => ⟨a, ns, rfl, hS, hl, hT _ (memC (co_law_judged, P_law_judged) (by simp)), hT _ (memC (co_law_refused, P_law_refused) (by simp)), fun _ => rfl⟩, fun base inB nsB tB => ?_⟩
  have no : ∀ {x : Str}, nsIn K mainGlobals x = some none → mg x = none := fun z => mg_none_of X G z
  have T : TB mg := ⟨no z_len, no z_range, no z_tuple, no z_list, no z_sorted, no z_enumerate, no z_isinstance, no z_int, no z_bool, no z_repr, no z_all⟩
  have TCo : TC mg := ⟨⟨_, mg_of X G k_MOST_CROSSINGS⟩, ⟨_, mg_of X G k_PLACES⟩⟩
  have noS : mg "super" = none := no z_super
  have tB_law_judged := tB _ (memC (co_law_judged, P_law_judged) (by simp))
  have tB_law_refused := tB _ (memC (co_law_refused, P_law_refused) (by simp))
  have c_is_number := d_is_number.cal (ps := ["thing"]) X G fun _ _ _ _ _ _ us hl => match us, hl with | [_], _ => rfl
  have c_is_below := d_is_below.cal (ps := ["thing", "many"]) X G fun _ _ _ _ _ _ us hl => match us, hl with | [_, _], _ => rfl
  have c_reached := d_reached.cal (ps := ["beside", "start"]) X G fun _ _ _ _ _ _ us hl => match us, hl with | [_, _], _ => rfl
  have c_need_yard := d_need_yard.cal (ps := ["thing"]) X G fun _ _ _ _ _ _ us hl => match us, hl with | [_], _ => rfl
  have c_yard_fault := d_yard_fault.cal (ps := ["thing"]) X G fun _ _ _ _ _ _ us hl => match us, hl with | [_], _ => rfl
  have c_can_be_many_lines := d_can_be_many_lines.cal (ps := ["many"]) X G fun _ _ _ _ _ _ us hl => match us, hl with | [_], _ => rfl
  have c_is_line := d_is_line.cal (ps := ["thing", "many_ends"]) X G fun _ _ _ _ _ _ us hl => match us, hl with | [_, _], _ => rfl
  have c_is_whole := d_is_whole.cal (ps := ["lines"]) X G fun _ _ _ _ _ _ us hl => match us, hl with | [_], _ => rfl
  have c_crossings_beside := d_crossings_beside.cal (ps := ["lines", "many"]) X G fun _ _ _ _ _ _ us hl => match us, hl with | [_, _], _ => rfl
  have c_crossings := d_crossings.cal (ps := ["yard"]) X G fun _ _ _ _ _ _ us hl => match us, hl with | [_], _ => rfl
  have c_fars_of_lines := d_fars_of_lines.cal (ps := ["lines"]) X G fun _ _ _ _ _ _ us hl => match us, hl with | [_], _ => rfl
  have c_mate := d_mate.cal (ps := ["end", "way"]) X G fun _ _ _ _ _ _ us hl => match us, hl with | [_, _], _ => rfl
  have c_need_setting := d_need_setting.cal (ps := ["yard", "thing"]) X G fun _ _ _ _ _ _ us hl => match us, hl with | [_, _], _ => rfl
  have c_ways_fault := d_ways_fault.cal (ps := ["thing", "many", "is_draft"]) X G fun _ _ _ _ _ _ us hl => match us, hl with | [_, _, _], _ => rfl
  have c_with_way := d_with_way.cal (ps := ["ways", "crossing", "way"]) X G fun _ _ _ _ _ _ us hl => match us, hl with | [_, _, _], _ => rfl
  have c_rounds_of := d_rounds_of.cal (ps := ["yard", "setting"]) X G fun _ _ _ _ _ _ us hl => match us, hl with | [_, _], _ => rfl
  have c_rounds_by_fars := d_rounds_by_fars.cal (ps := ["fars", "setting"]) X G fun _ _ _ _ _ _ us hl => match us, hl with | [_, _], _ => rfl
  have c_round_from := d_round_from.cal (ps := ["fars", "setting", "start"]) X G fun _ _ _ _ _ _ us hl => match us, hl with | [_, _, _], _ => rfl
  have c_end_after := d_end_after.cal (ps := ["fars", "setting", "end"]) X G fun _ _ _ _ _ _ us hl => match us, hl with | [_, _, _], _ => rfl
  have c_many_rounds := d_many_rounds.cal (ps := ["yard", "setting"]) X G fun _ _ _ _ _ _ us hl => match us, hl with | [_, _], _ => rfl
  have c_need_turn := d_need_turn.cal (ps := ["yard", "thing"]) X G fun _ _ _ _ _ _ us hl => match us, hl with | [_, _], _ => rfl
  have c_turn_fault := d_turn_fault.cal (ps := ["thing", "many"]) X G fun _ _ _ _ _ _ us hl => match us, hl with | [_, _], _ => rfl
  have c_turned := d_turned.cal (ps := ["yard", "setting", "turn"]) X G fun _ _ _ _ _ _ us hl => match us, hl with | [_, _, _], _ => rfl
  have c_with_turns := d_with_turns.cal (ps := ["setting", "turns"]) X G fun _ _ _ _ _ _ us hl => match us, hl with | [_, _], _ => rfl
  have c_change := d_change.cal (ps := ["yard", "setting", "turn"]) X G fun _ _ _ _ _ _ us hl => match us, hl with | [_, _, _], _ => rfl
  have c_first_lead := d_first_lead.cal (ps := ["yard", "setting"]) X G fun _ _ _ _ _ _ us hl => match us, hl with | [_, _], _ => rfl
  have c_check_lead := d_check_lead.cal (ps := ["yard", "setting", "lead"]) X G fun _ _ _ _ _ _ us hl => match us, hl with | [_, _, _], _ => rfl
  have c_law_mixed := d_law_mixed.cal (ps := ["cell", "k"]) X G fun _ _ _ _ _ _ us hl => match us, hl with | [_, _], _ => rfl
  have c_law_begin := d_law_begin.cal (ps := ["script"]) X G fun _ _ _ _ _ _ us hl => match us, hl with | [_], _ => rfl
  have c_law_draw := d_law_draw.cal (ps := ["state", "many"]) X G fun _ _ _ _ _ _ us hl => match us, hl with | [_, _], _ => rfl
  have c_law_order := d_law_order.cal (ps := ["state", "size"]) X G fun _ _ _ _ _ _ us hl => match us, hl with | [_, _], _ => rfl
  have c_law_across := d_law_across.cal (ps := ["lines", "many", "one", "other"]) X G fun _ _ _ _ _ _ us hl => match us, hl with | [_, _, _, _], _ => rfl
  have c_law_yard := d_law_yard.cal (ps := ["state", "many"]) X G fun _ _ _ _ _ _ us hl => match us, hl with | [_, _], _ => rfl
  have c_law_size := d_law_size.cal (ps := ["state", "most"]) X G fun _ _ _ _ _ _ us hl => match us, hl with | [_, _], _ => rfl
  have c_law_far := d_law_far.cal (ps := ["yard"]) X G fun _ _ _ _ _ _ us hl => match us, hl with | [_], _ => rfl
  have c_law_outer := d_law_outer.cal (ps := ["fars", "setting", "crossing"]) X G fun _ _ _ _ _ _ us hl => match us, hl with | [_, _, _], _ => rfl
  have c_law_setting := d_law_setting.cal (ps := ["state", "fars"]) X G fun _ _ _ _ _ _ us hl => match us, hl with | [_, _], _ => rfl
  have c_law_count := d_law_count.cal (ps := ["fars", "setting"]) X G fun _ _ _ _ _ _ us hl => match us, hl with | [_, _], _ => rfl
  have c_law_said := d_law_said.cal (ps := ["deed"]) X G fun _ _ _ _ _ _ us hl => match us, hl with | [_], _ => rfl
  have c_law_done := d_law_done.cal (ps := ["setting", "turn"]) X G fun _ _ _ _ _ _ us hl => match us, hl with | [_, _], _ => rfl
  have c_law_lead := d_law_lead.cal (ps := ["state", "fars", "setting"]) X G fun _ _ _ _ _ _ us hl => match us, hl with | [_, _, _], _ => rfl
  have c_law_is_turn := d_law_is_turn.cal (ps := ["many", "thing"]) X G fun _ _ _ _ _ _ us hl => match us, hl with | [_, _], _ => rfl
  have c_law_due := d_law_due.cal (ps := ["fars", "setting", "thing"]) X G fun _ _ _ _ _ _ us hl => match us, hl with | [_, _, _], _ => rfl
  have c_law_odd := d_law_odd.cal (ps := ["state", "many"]) X G fun _ _ _ _ _ _ us hl => match us, hl with | [_, _], _ => rfl
  have c_law_bent := d_law_bent.cal (ps := ["state", "lead", "many"]) X G fun _ _ _ _ _ _ us hl => match us, hl with | [_, _, _], _ => rfl
  have fn_law_judged : FunC K "_law_judged" "_law_judged" (top 78) f_law_judged _ co_law_judged := ⟨_, _, _, _, _, _, _, _, rfl, lk_law_judged, cd_law_judged⟩
  have d_law_judged := def_at (st := top 78) ns_law_judged lk_law_judged cd_law_judged kp_law_judged
  have c_law_judged := d_law_judged.cal (ps := ["yard", "fars", "setting", "thing"]) X G fun _ _ _ _ _ _ us hl => match us, hl with | [_, _, _, _], _ => rfl
  have fn_law_refused : FunC K "_law_refused" "_law_refused" (top 79) f_law_refused _ co_law_refused := ⟨_, _, _, _, _, _, _, _, rfl, lk_law_refused, cd_law_refused⟩
  have d_law_refused := def_at (st := top 79) ns_law_refused lk_law_refused cd_law_refused kp_law_refused
  have c_law_refused := d_law_refused.cal (ps := ["yard", "setting", "thing", "word"]) X G fun _ _ _ _ _ _ us hl => match us, hl with | [_, _, _, _], _ => rfl
  have Nm : SaidN mg (clsS C0 C1 C2 C3 C4 C5 C6 C7 C8 C9 C10 C11 C12 C13 C14 C15 C16 C17 C18) RE := ⟨mg_of X G nRE, mg_of X G k0.ns, mg_of X G k1.ns, mg_of X G n2, mg_of X G n3, mg_of X G k4.ns, mg_of X G k5.ns, mg_of X G n6, mg_of X G n7, mg_of X G n8, mg_of X G n9, mg_of X G n10, mg_of X G n11, mg_of X G n12, mg_of X G n13, mg_of X G n14, mg_of X G n15, mg_of X G n16, mg_of X G n17, mg_of X G n18, no z_ValueError⟩
  have G_is_number := ok_isnum (P := l.prog) (w := w) (base := base) d_is_number.fn T
  have G_is_below := ok_isbelow d_is_below.fn c_is_number G_is_number
  have G_can := ok_canbe (P := l.prog) (w := w) (base := base) d_can_be_many_lines.fn T TCo
  have G_is_line := ok_isline d_is_line.fn T c_is_below G_is_below
  have G_reached := ok_reached (P := l.prog) (w := w) (base := base) d_reached.fn T
  have G_beside := ok_besideX (P := l.prog) (w := w) (base := base) d_crossings_beside.fn T TCo
  have G_whole := ok_iswhole d_is_whole.fn T c_reached G_reached c_crossings_beside G_beside
  have G_fault := ok_fault d_yard_fault.fn T c_can_be_many_lines G_can c_is_line G_is_line c_is_whole G_whole
  have G_need := ok_need d_need_yard.fn k0.own (k0.cls X G) noS c_yard_fault G_fault
  have G_cross := ok_cross d_crossings.fn T c_need_yard G_need
  have G_fars := ok_fars (P := l.prog) (w := w) (base := base) d_fars_of_lines.fn T
  have G_mate := ok_mate (P := l.prog) (w := w) (mg := mg) (base := base) d_mate.fn
  have G_ea := ok_ea d_end_after.fn TCo c_mate G_mate
  have G_rf := ok_rf d_round_from.fn T c_end_after G_ea
  have G_rb := ok_rb d_rounds_by_fars.fn T c_round_from G_rf
  have G_ways := ok_ways d_ways_fault.fn T ⟨_, mg_of X G k_MANY_WAYS⟩ c_is_below G_is_below
  have G_ns := ok_ns d_need_setting.fn k1.own (k1.cls X G) noS c_ways_fault G_ways c_crossings G_cross
  have G_ns2 := ok_ns2 d_need_setting.fn k1.own (k1.cls X G) noS c_ways_fault G_ways c_crossings G_cross
  have G_ro := ok_ro d_rounds_of.fn c_need_setting G_ns c_rounds_by_fars G_rb c_fars_of_lines G_fars
  have G_ww := ok_ww (P := l.prog) (w := w) (mg := mg) (base := base) d_with_way.fn
  have G_mr := ok_mr d_many_rounds.fn T c_rounds_of G_ro
  have G_tf := ok_tf d_turn_fault.fn T ⟨_, mg_of X G k_MANY_WAYS⟩ c_is_below G_is_below
  have G_nt := ok_nt d_need_turn.fn k4.own (k4.cls X G) noS c_turn_fault G_tf c_crossings G_cross
  have G_wt := ok_wt d_with_turns.fn c_with_way G_ww
  have G_tu := ok_tu d_turned.fn c_need_setting G_ns2 c_with_turns G_wt c_need_turn G_nt
  have G_ch := ok_ch d_change.fn c_turned G_tu c_many_rounds G_mr
  have G_mixed := ok_mixed (P := l.prog) (w := w) (mg := mg) (base := base) d_law_mixed.fn
  have G_begin := ok_begin (P := l.prog) (w := w) (base := base) d_law_begin.fn T
  have G_draw := ok_draw d_law_draw.fn T c_law_mixed G_mixed
  have G_order := ok_order d_law_order.fn T c_law_draw G_draw
  have G_across := ok_across (P := l.prog) (w := w) (base := base) d_law_across.fn T
  have G_yard := ok_yard d_law_yard.fn T (no z_min) (no z_max) c_law_draw G_draw c_law_order G_order c_law_across G_across
  have G_size := ok_size d_law_size.fn (no z_min) c_law_draw G_draw
  have G_far := ok_far (P := l.prog) (w := w) (mg := mg) (base := base) d_law_far.fn
  have G_outer := ok_outer (P := l.prog) (w := w) (mg := mg) (base := base) d_law_outer.fn
  have G_setting := ok_setting d_law_setting.fn T c_law_draw G_draw c_law_order G_order c_law_outer G_outer
  have G_lc := ok_lc (P := l.prog) (w := w) (mg := mg) (base := base) d_law_count.fn
  have G_ro2 := ok_ro2 d_rounds_of.fn c_need_setting G_ns2 c_rounds_by_fars G_rb c_fars_of_lines G_fars
  have G_mr2 := ok_mr2 d_many_rounds.fn T c_rounds_of G_ro2
  have G_fr := ok_fr d_first_lead.fn c_need_setting G_ns2
  have G_ck := ok_ck2 d_check_lead.fn T k5.own (k5.cls X G) noS c_many_rounds G_mr2 c_turn_fault G_tf c_change G_ch c_turned G_tu
  have G_do := ok_do (P := l.prog) (w := w) (mg := mg) (base := base) d_law_done.fn
  have G_ll := ok_ll d_law_lead.fn T c_law_count G_lc c_law_done G_do c_law_order G_order c_law_draw G_draw
  have G_it := ok_it (P := l.prog) (w := w) (base := base) d_law_is_turn.fn T
  have G_ld := ok_ld d_law_due.fn T c_law_count G_lc c_law_is_turn G_it c_law_done G_do
  have G_od := ok_od d_law_odd.fn T c_law_draw G_draw
  have G_be := ok_be d_law_bent.fn T c_law_draw G_draw c_law_odd G_od
  have G_ju := ok_ju (CL := clsS C0 C1 C2 C3 C4 C5 C6 C7 C8 C9 C10 C11 C12 C13 C14 C15 C16 C17 C18) fn_law_judged T tB_law_judged npf Nm r5 d_law_said.fn c_law_said c_law_due G_ld c_check_lead G_ck
  have G_rfd := ok_rfd (CL := clsS C0 C1 C2 C3 C4 C5 C6 C7 C8 C9 C10 C11 C12 C13 C14 C15 C16 C17 C18) fn_law_refused T tB_law_refused npf Nm r0 r1 d_law_said.fn c_law_said c_first_lead G_fr c_check_lead G_ck
  exact ok_law rfl (fun_mk lawLk lawCd lawKp) T c_law_begin G_begin c_law_yard G_yard c_law_size G_size c_law_far G_far c_law_setting G_setting c_law_lead G_ll c_law_bent G_be c_law_draw G_draw c_law_judged G_ju c_law_refused G_rfd
end One
end P_H11

open PySem PySem.W PyProof.Rows in
set_option maxRecDepth 100000 in
set_option maxHeartbeats 0 in
theorem PySem.Challenge.cw_oneround_k15_leads_judged_holds : PySem.Challenge.rw_oneround_k15_leads_judged.Holds := by
  w_on; o_law; k_head; (case hw => w_witness2)
  k_fill
  refine One.walkGX (l := PySem.Challenge.rw_oneround_k15_leads_judged) (n := 63) (k := 15) (CX := fun _ => L2.CX0) (x := "script") rfl (by decide) rfl ⟨rfl, by decide, by decide⟩ (fun w h Y => PySem.W.km_in_of Y) ?F (fun _ _ _ _ _ z => z)
  case F =>
    intro w mg fa h Y KX G hmg tabs
    refine' One.all_mk KX G hmg (tabs (x := "_law_judged") (by rfl)) (tabs (x := "_law_refused") (by rfl)) ?z_len ?z_range ?z_tuple ?z_list ?z_sorted ?z_enumerate ?z_isinstance ?z_int ?z_bool ?z_repr ?z_all ?z_super ?z_ValueError ?z_min ?z_max ?k_MOST_CROSSINGS ?k_PLACES ?k_MANY_WAYS ?d_is_number ?d_is_below ?d_reached ?d_need_yard ?d_yard_fault ?d_can_be_many_lines ?d_is_line ?d_is_whole ?d_crossings_beside ?d_crossings ?d_fars_of_lines ?d_mate ?d_need_setting ?d_ways_fault ?d_with_way ?d_rounds_of ?d_rounds_by_fars ?d_round_from ?d_end_after ?d_many_rounds ?d_need_turn ?d_turn_fault ?d_turned ?d_with_turns ?d_change ?d_first_lead ?d_check_lead ?d_law_mixed ?d_law_begin ?d_law_draw ?d_law_order ?d_law_across ?d_law_yard ?d_law_size ?d_law_far ?d_law_outer ?d_law_setting ?d_law_count ?d_law_said ?d_law_done ?d_law_lead ?d_law_is_turn ?d_law_due ?d_law_odd ?d_law_bent ?ns_law_judged ?lk_law_judged ?cd_law_judged ?kp_law_judged ?ns_law_refused ?lk_law_refused ?cd_law_refused ?kp_law_refused ?nRE ?k0 ?k1 ?n2 ?n3 ?k4 ?k5 ?n6 ?n7 ?n8 ?n9 ?n10 ?n11 ?n12 ?n13 ?n14 ?n15 ?n16 ?n17 ?n18 ?r0 ?r1 ?r5 ?lawNs ?lawLk ?lawCd ?lawKp ?tab_law_judged ?ntab_law_judged ?tab_law_refused ?ntab_law_refused ?npf
    (case z_len => k_is)
    (case z_range => k_is)
    (case z_tuple => k_is)
    (case z_list => k_is)
    (case z_sorted => k_is)
    (case z_enumerate => k_is)
    (case z_isinstance => k_is)
    (case z_int => k_is)
    (case z_bool => k_is)
    (case z_repr => k_is)
    (case z_all => k_is)
    (case z_super => k_is)
    (case z_ValueError => k_is)
    (case z_min => k_is)
    (case z_max => k_is)
    (case k_MOST_CROSSINGS => k_is)
    (case k_PLACES => k_is)
    (case k_MANY_WAYS => k_is)
    (case d_is_number => refine' One.def_at ?a ?l ?c ?k; (case a => k_is); (case l => k_is); (case c => k_is); (case k => k_is))
    (case d_is_below => refine' One.def_at ?a ?l ?c ?k; (case a => k_is); (case l => k_is); (case c => k_is); (case k => k_is))
    (case d_reached => refine' One.def_at ?a ?l ?c ?k; (case a => k_is); (case l => k_is); (case c => k_is); (case k => k_is))
    (case d_need_yard => refine' One.def_at ?a ?l ?c ?k; (case a => k_is); (case l => k_is); (case c => k_is); (case k => k_is))
    (case d_yard_fault => refine' One.def_at ?a ?l ?c ?k; (case a => k_is); (case l => k_is); (case c => k_is); (case k => k_is))
    (case d_can_be_many_lines => refine' One.def_at ?a ?l ?c ?k; (case a => k_is); (case l => k_is); (case c => k_is); (case k => k_is))
    (case d_is_line => refine' One.def_at ?a ?l ?c ?k; (case a => k_is); (case l => k_is); (case c => k_is); (case k => k_is))
    (case d_is_whole => refine' One.def_at ?a ?l ?c ?k; (case a => k_is); (case l => k_is); (case c => k_is); (case k => k_is))
    (case d_crossings_beside => refine' One.def_at ?a ?l ?c ?k; (case a => k_is); (case l => k_is); (case c => k_is); (case k => k_is))
    (case d_crossings => refine' One.def_at ?a ?l ?c ?k; (case a => k_is); (case l => k_is); (case c => k_is); (case k => k_is))
    (case d_fars_of_lines => refine' One.def_at ?a ?l ?c ?k; (case a => k_is); (case l => k_is); (case c => k_is); (case k => k_is))
    (case d_mate => refine' One.def_at ?a ?l ?c ?k; (case a => k_is); (case l => k_is); (case c => k_is); (case k => k_is))
    (case d_need_setting => refine' One.def_at ?a ?l ?c ?k; (case a => k_is); (case l => k_is); (case c => k_is); (case k => k_is))
    (case d_ways_fault => refine' One.def_at ?a ?l ?c ?k; (case a => k_is); (case l => k_is); (case c => k_is); (case k => k_is))
    (case d_with_way => refine' One.def_at ?a ?l ?c ?k; (case a => k_is); (case l => k_is); (case c => k_is); (case k => k_is))
    (case d_rounds_of => refine' One.def_at ?a ?l ?c ?k; (case a => k_is); (case l => k_is); (case c => k_is); (case k => k_is))
    (case d_rounds_by_fars => refine' One.def_at ?a ?l ?c ?k; (case a => k_is); (case l => k_is); (case c => k_is); (case k => k_is))
    (case d_round_from => refine' One.def_at ?a ?l ?c ?k; (case a => k_is); (case l => k_is); (case c => k_is); (case k => k_is))
    (case d_end_after => refine' One.def_at ?a ?l ?c ?k; (case a => k_is); (case l => k_is); (case c => k_is); (case k => k_is))
    (case d_many_rounds => refine' One.def_at ?a ?l ?c ?k; (case a => k_is); (case l => k_is); (case c => k_is); (case k => k_is))
    (case d_need_turn => refine' One.def_at ?a ?l ?c ?k; (case a => k_is); (case l => k_is); (case c => k_is); (case k => k_is))
    (case d_turn_fault => refine' One.def_at ?a ?l ?c ?k; (case a => k_is); (case l => k_is); (case c => k_is); (case k => k_is))
    (case d_turned => refine' One.def_at ?a ?l ?c ?k; (case a => k_is); (case l => k_is); (case c => k_is); (case k => k_is))
    (case d_with_turns => refine' One.def_at ?a ?l ?c ?k; (case a => k_is); (case l => k_is); (case c => k_is); (case k => k_is))
    (case d_change => refine' One.def_at ?a ?l ?c ?k; (case a => k_is); (case l => k_is); (case c => k_is); (case k => k_is))
    (case d_first_lead => refine' One.def_at ?a ?l ?c ?k; (case a => k_is); (case l => k_is); (case c => k_is); (case k => k_is))
    (case d_check_lead => refine' One.def_at ?a ?l ?c ?k; (case a => k_is); (case l => k_is); (case c => k_is); (case k => k_is))
    (case d_law_mixed => refine' One.def_at ?a ?l ?c ?k; (case a => k_is); (case l => k_is); (case c => k_is); (case k => k_is))
    (case d_law_begin => refine' One.def_at ?a ?l ?c ?k; (case a => k_is); (case l => k_is); (case c => k_is); (case k => k_is))
    (case d_law_draw => refine' One.def_at ?a ?l ?c ?k; (case a => k_is); (case l => k_is); (case c => k_is); (case k => k_is))
    (case d_law_order => refine' One.def_at ?a ?l ?c ?k; (case a => k_is); (case l => k_is); (case c => k_is); (case k => k_is))
    (case d_law_across => refine' One.def_at ?a ?l ?c ?k; (case a => k_is); (case l => k_is); (case c => k_is); (case k => k_is))
    (case d_law_yard => refine' One.def_at ?a ?l ?c ?k; (case a => k_is); (case l => k_is); (case c => k_is); (case k => k_is))
    (case d_law_size => refine' One.def_at ?a ?l ?c ?k; (case a => k_is); (case l => k_is); (case c => k_is); (case k => k_is))
    (case d_law_far => refine' One.def_at ?a ?l ?c ?k; (case a => k_is); (case l => k_is); (case c => k_is); (case k => k_is))
    (case d_law_outer => refine' One.def_at ?a ?l ?c ?k; (case a => k_is); (case l => k_is); (case c => k_is); (case k => k_is))
    (case d_law_setting => refine' One.def_at ?a ?l ?c ?k; (case a => k_is); (case l => k_is); (case c => k_is); (case k => k_is))
    (case d_law_count => refine' One.def_at ?a ?l ?c ?k; (case a => k_is); (case l => k_is); (case c => k_is); (case k => k_is))
    (case d_law_said => refine' One.def_at ?a ?l ?c ?k; (case a => k_is); (case l => k_is); (case c => k_is); (case k => k_is))
    (case d_law_done => refine' One.def_at ?a ?l ?c ?k; (case a => k_is); (case l => k_is); (case c => k_is); (case k => k_is))
    (case d_law_lead => refine' One.def_at ?a ?l ?c ?k; (case a => k_is); (case l => k_is); (case c => k_is); (case k => k_is))
    (case d_law_is_turn => refine' One.def_at ?a ?l ?c ?k; (case a => k_is); (case l => k_is); (case c => k_is); (case k => k_is))
    (case d_law_due => refine' One.def_at ?a ?l ?c ?k; (case a => k_is); (case l => k_is); (case c => k_is); (case k => k_is))
    (case d_law_odd => refine' One.def_at ?a ?l ?c ?k; (case a => k_is); (case l => k_is); (case c => k_is); (case k => k_is))
    (case d_law_bent => refine' One.def_at ?a ?l ?c ?k; (case a => k_is); (case l => k_is); (case c => k_is); (case k => k_is))
    (case ns_law_judged => k_is)
    (case lk_law_judged => k_is)
    (case cd_law_judged => k_is)
    (case kp_law_judged => k_is)
    (case ns_law_refused => k_is)
    (case lk_law_refused => k_is)
    (case cd_law_refused => k_is)
    (case kp_law_refused => k_is)
    (case nRE => k_is)
    (case k0 => refine' One.cls_at ?ns ?xL ?al ?sa ?noF ?veB ?slf ?op ?tp ?sh ?iC ?l1 ?c1 ?lc ?hvs ?hfile ?lcc ?tC ?kC ?exC ?tyC; (case ns => k_is); (case xL => k_is); (case al => refine' One.al_of ?xR ?fR; (case xR => k_is); (case fR => k_is)); (case sa => k_is); (case noF => k_is); (case veB => k_is); (case slf => k_is); (case op => k_is); (case tp => rfl); (case sh => exact One.shape0); (case iC => k_is); (case l1 => k_is); (case c1 => k_is); (case lc => k_is); (case hvs => first | rfl | k_is); (case hfile => first | rfl | decide +kernel | k_is); (case lcc => k_is); (case tC => k_is); (case kC => k_is); (case exC => k_is); (case tyC => k_is))
    (case k1 => refine' One.cls_at ?ns ?xL ?al ?sa ?noF ?veB ?slf ?op ?tp ?sh ?iC ?l1 ?c1 ?lc ?hvs ?hfile ?lcc ?tC ?kC ?exC ?tyC; (case ns => k_is); (case xL => k_is); (case al => refine' One.al_of ?xR ?fR; (case xR => k_is); (case fR => k_is)); (case sa => k_is); (case noF => k_is); (case veB => k_is); (case slf => k_is); (case op => k_is); (case tp => rfl); (case sh => exact One.shape1); (case iC => k_is); (case l1 => k_is); (case c1 => k_is); (case lc => k_is); (case hvs => first | rfl | k_is); (case hfile => first | rfl | decide +kernel | k_is); (case lcc => k_is); (case tC => k_is); (case kC => k_is); (case exC => k_is); (case tyC => k_is))
    (case n2 => k_is)
    (case n3 => k_is)
    (case k4 => refine' One.cls_at ?ns ?xL ?al ?sa ?noF ?veB ?slf ?op ?tp ?sh ?iC ?l1 ?c1 ?lc ?hvs ?hfile ?lcc ?tC ?kC ?exC ?tyC; (case ns => k_is); (case xL => k_is); (case al => refine' One.al_of ?xR ?fR; (case xR => k_is); (case fR => k_is)); (case sa => k_is); (case noF => k_is); (case veB => k_is); (case slf => k_is); (case op => k_is); (case tp => rfl); (case sh => exact One.shape4); (case iC => k_is); (case l1 => k_is); (case c1 => k_is); (case lc => k_is); (case hvs => first | rfl | k_is); (case hfile => first | rfl | decide +kernel | k_is); (case lcc => k_is); (case tC => k_is); (case kC => k_is); (case exC => k_is); (case tyC => k_is))
    (case k5 => refine' One.cls_at ?ns ?xL ?al ?sa ?noF ?veB ?slf ?op ?tp ?sh ?iC ?l1 ?c1 ?lc ?hvs ?hfile ?lcc ?tC ?kC ?exC ?tyC; (case ns => k_is); (case xL => k_is); (case al => refine' One.al_of ?xR ?fR; (case xR => k_is); (case fR => k_is)); (case sa => k_is); (case noF => k_is); (case veB => k_is); (case slf => k_is); (case op => k_is); (case tp => rfl); (case sh => exact One.shape5); (case iC => k_is); (case l1 => k_is); (case c1 => k_is); (case lc => k_is); (case hvs => first | rfl | k_is); (case hfile => first | rfl | decide +kernel | k_is); (case lcc => k_is); (case tC => k_is); (case kC => k_is); (case exC => k_is); (case tyC => k_is))
    (case n6 => k_is)
    (case n7 => k_is)
    (case n8 => k_is)
    (case n9 => k_is)
    (case n10 => k_is)
    (case n11 => k_is)
    (case n12 => k_is)
    (case n13 => k_is)
    (case n14 => k_is)
    (case n15 => k_is)
    (case n16 => k_is)
    (case n17 => k_is)
    (case n18 => k_is)
    (case r0 => refine' One.said0 ?hg ?hk ?hs ?hd ?ha ?hn ?ht ?hm ?no ?q0 ?q1 ?q2 ?q3 ?q4 ?q5 ?q6 ?q7 ?q8 ?q9 ?q10 ?q11 ?q12 ?q13 ?q14 ?q15 ?q16 ?q17 ?q18 ?ve ?u1 ?u2 ?u3 ?u4; (case hg => k_is); (case hk => k_is); (case hs => k_is); (case hd => k_is); (case ha => k_is); (case hn => k_is); (case ht => k_is); (case hm => k_is); (case no => k_is); (case q0 => first | k_is | kit_is); (case q1 => first | k_is | kit_is); (case q2 => first | k_is | kit_is); (case q3 => first | k_is | kit_is); (case q4 => first | k_is | kit_is); (case q5 => first | k_is | kit_is); (case q6 => first | k_is | kit_is); (case q7 => first | k_is | kit_is); (case q8 => first | k_is | kit_is); (case q9 => first | k_is | kit_is); (case q10 => first | k_is | kit_is); (case q11 => first | k_is | kit_is); (case q12 => first | k_is | kit_is); (case q13 => first | k_is | kit_is); (case q14 => first | k_is | kit_is); (case q15 => first | k_is | kit_is); (case q16 => first | k_is | kit_is); (case q17 => first | k_is | kit_is); (case q18 => first | k_is | kit_is); (case ve => first | k_is | kit_is); (case u1 => k_is); (case u2 => k_is); (case u3 => k_is); (case u4 => k_is))
    (case r1 => refine' One.said1 ?hg ?hk ?hs ?hd ?ha ?hn ?ht ?hm ?no ?q0 ?q1 ?q2 ?q3 ?q4 ?q5 ?q6 ?q7 ?q8 ?q9 ?q10 ?q11 ?q12 ?q13 ?q14 ?q15 ?q16 ?q17 ?q18 ?ve ?u1 ?u2 ?u3 ?u4; (case hg => k_is); (case hk => k_is); (case hs => k_is); (case hd => k_is); (case ha => k_is); (case hn => k_is); (case ht => k_is); (case hm => k_is); (case no => k_is); (case q0 => first | k_is | kit_is); (case q1 => first | k_is | kit_is); (case q2 => first | k_is | kit_is); (case q3 => first | k_is | kit_is); (case q4 => first | k_is | kit_is); (case q5 => first | k_is | kit_is); (case q6 => first | k_is | kit_is); (case q7 => first | k_is | kit_is); (case q8 => first | k_is | kit_is); (case q9 => first | k_is | kit_is); (case q10 => first | k_is | kit_is); (case q11 => first | k_is | kit_is); (case q12 => first | k_is | kit_is); (case q13 => first | k_is | kit_is); (case q14 => first | k_is | kit_is); (case q15 => first | k_is | kit_is); (case q16 => first | k_is | kit_is); (case q17 => first | k_is | kit_is); (case q18 => first | k_is | kit_is); (case ve => first | k_is | kit_is); (case u1 => k_is); (case u2 => k_is); (case u3 => k_is); (case u4 => k_is))
    (case r5 => refine' One.said5 ?hg ?hk ?hs ?hd ?ha ?hn ?ht ?hm ?no ?q0 ?q1 ?q2 ?q3 ?q4 ?q5 ?q6 ?q7 ?q8 ?q9 ?q10 ?q11 ?q12 ?q13 ?q14 ?q15 ?q16 ?q17 ?q18 ?ve ?u1 ?u2 ?u3 ?u4; (case hg => k_is); (case hk => k_is); (case hs => k_is); (case hd => k_is); (case ha => k_is); (case hn => k_is); (case ht => k_is); (case hm => k_is); (case no => k_is); (case q0 => first | k_is | kit_is); (case q1 => first | k_is | kit_is); (case q2 => first | k_is | kit_is); (case q3 => first | k_is | kit_is); (case q4 => first | k_is | kit_is); (case q5 => first | k_is | kit_is); (case q6 => first | k_is | kit_is); (case q7 => first | k_is | kit_is); (case q8 => first | k_is | kit_is); (case q9 => first | k_is | kit_is); (case q10 => first | k_is | kit_is); (case q11 => first | k_is | kit_is); (case q12 => first | k_is | kit_is); (case q13 => first | k_is | kit_is); (case q14 => first | k_is | kit_is); (case q15 => first | k_is | kit_is); (case q16 => first | k_is | kit_is); (case q17 => first | k_is | kit_is); (case q18 => first | k_is | kit_is); (case ve => first | k_is | kit_is); (case u1 => k_is); (case u2 => k_is); (case u3 => k_is); (case u4 => k_is))
    (case lawNs => k_is)
    (case lawLk => k_is)
    (case lawCd => k_is)
    (case lawKp => k_is)
    (case tab_law_judged => refine' One.tab_mkX ?ta ?tl ?tc ?tf ?tv; (case ta => k_is); (case tl => k_is); (case tc => rfl); (case tf => k_is); (case tv => rfl))
    (case ntab_law_judged => first | rfl | kernel_rfl | decide +kernel)
    (case tab_law_refused => refine' One.tab_mkX ?ta ?tl ?tc ?tf ?tv; (case ta => k_is); (case tl => k_is); (case tc => rfl); (case tf => k_is); (case tv => rfl))
    (case ntab_law_refused => first | rfl | kernel_rfl | decide +kernel)
    (case npf => first | decide +kernel | (intro e; cases e))
