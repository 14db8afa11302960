import PyProof.Rows.All
import Wide.All
import OpenK.AllK
import Wide.FinOn
import HandS.ForMost
import HandS.Wide
import HandS.Codes
import HandS.Flow
import HandS.SortRule
import HandS.IsInst
import HandS.Conv
import HandS.TupLe
import KE.GoesMore
import HandS.Lambda
import HandS.ExcInit
import HandS.ExcIs
import HandS.ExcField
import HandS.ExcValue
import HandS.RaiseMore
import KE.KExcSuper
import HandS.WordsExc
import PyProof.ReprRoads
import PySem.Challenge.RW_oneround_k03_yards_of_pairs
import HandS.Walk
import HandS.Ends
import HandS.FStrTup
import KE.KExcIs
import HandS.Style
import HandS.TupAny
import KE.SortData
import HandS.SetFor
import KE.LtData
import KE.DataCmp
import HandS.EndTab
import HandS.ExcSuper
set_option Elab.async false

section P_D0
set_option maxRecDepth 100000
set_option maxHeartbeats 4000000
namespace One
open PySem L2
def top (i : Nat) : Stmt := PySem.Challenge.pw_oneround_k03_yards_of_pairs.main.body.getD i (.Pass ⟨0, 0, 0, 0⟩)
abbrev sBegun : Stmt := top 29
abbrev sDraw : Stmt := top 30
theorem scBegun : FnScope ["script"] ["script"] (defScope sBegun) := ⟨rfl, rfl, rfl, by decide +kernel, rfl, by decide +kernel, by decide +kernel⟩
end One
end P_D0

section P_D1
set_option maxRecDepth 100000
set_option maxHeartbeats 4000000
/-! The draws: what the top's first two helpers of a law promise. -/
namespace One
open PySem PySem.Spec PyProof.Rows L2
/-! ### a list that is only read, with a list behind it -/
theorem add_read (l : Addr) (items : Array Value) (n : Nat) (sl : Array (Option Value)) (b : Addr) (items2 : Array Value) (n2 : Nat) (hc0 : items.size + items2.size ≤ sizeLine) :
    Meets (Builtin.«list.__add__» ⟨[.ref l, .ref b], []⟩) (fun _ R s => s.heap.get? l = some ⟨.type "list", none, .seq items n, sl⟩ ∧ s.heap.get? b = some ⟨.type "list", none, .seq items2 n2, #[]⟩ ∧
      R (.ok (.ret (Value.ref s.heap.objs.size))) { s with heap := s.heap.push { cls := Value.type "list", data := Data.seq (items ++ items2) }, toks := s.toks }) :=
  .of_wp fun prog w A R s h => by
    obtain ⟨hp, g, d, tk, os⟩ := s
    obtain ⟨hl, hb, h⟩ := h
    have f1 := PySem.AutoSeq1.idx_int
    have f3 := PySem.AutoSeq1.sub_list_list
    wp_walk using PySem.AutoSeq1.wpAny_loadPart' hl, PySem.AutoSeq1.wpAny_loadPart' hb
    exact ⟨_, rfl, h⟩
section
variable {X : Cx}
def rCatS (K : PySem.W.Frag) : R2 := fun x y H Q => ∃ l b xs zs, x = .ref l ∧ y = .ref b ∧ SqL K H l xs ∧ H b = some (.lst zs) ∧ xs.length + zs.length ≤ sizeLine ∧ ∀ p, H p = none → Q (.ref p) (upd H p (.lst (xs ++ zs)))
theorem op_catS : OpR X (binaryOp .Add) (rCatS X.K) := by
  intro pins s σ H x y v u Q I rx ry h
  obtain ⟨l, b, xs, zs, rfl, rfl, hS, hB, hz, q⟩ := h
  cases rx
  cases ry
  obtain ⟨its, r, ⟨⟨oc, od, oda, osl⟩, n, e, ec, ed, edd⟩, hl⟩ := I.list hS
  dsimp only at ec ed edd
  subst ec ed edd
  obtain ⟨z2, its2, n2, r2, hl2, e2⟩ := I.lstM hB
  have ha : s.TypeIs (.ref l) "list" := ⟨_, e, rfl⟩
  have hb : s.TypeIs (.ref b) "list" := ⟨_, e2, rfl⟩
  have hsz : its.toArray.size + its2.toArray.size ≤ sizeLine := by
    rw [List.size_toArray, List.size_toArray, ← r.length, ← r2.length]
    exact hz
  refine PySem.concat_meets ha hb PySem.noFill_list_add PySem.seq_list_add F.slot_list_add F.entry_list_add (F.args_list_add_2 _ _) (add_read l its.toArray n osl b its2.toArray n2 hsz) ⟨e, e2, ?_⟩
  have ea : its.toArray ++ its2.toArray = (its ++ its2).toArray := by simp
  rw [ea]
  exact ⟨.ref _, _, I.lnew (t' := s.toks) (r.append r2) (by rw [List.length_append]; exact hz), rfl, q _ I.fresh⟩
end
end One
end P_D1

section P_D2
set_option maxRecDepth 100000
set_option maxHeartbeats 4000000
namespace One
open PySem PySem.Spec PyProof.Rows L2
/-! ### the dict of the draws -/
abbrev kC : Key := Sum.inr ("cells" : Str)
abbrev kA : Key := Sum.inr ("at" : Str)
abbrev kL : Key := Sum.inr ("left" : Str)
abbrev kM : Key := Sum.inr ("mixed" : Str)
def mkv (c : Addr) (a l x : Int) : List (Key × V) := [(kC, .ref c), (kA, .int a), (kL, .int l), (kM, .int x)]
theorem nCA : ¬ (kC = kA) := by decide +kernel
theorem nCL : ¬ (kC = kL) := by decide +kernel
theorem nCM : ¬ (kC = kM) := by decide +kernel
theorem nAL : ¬ (kA = kL) := by decide +kernel
theorem nAM : ¬ (kA = kM) := by decide +kernel
theorem nLM : ¬ (kL = kM) := by decide +kernel
section
variable (c : Addr) (a l x : Int)
theorem mkv_C : valV (mkv c a l x) kC = some (.ref c) := valV_pos rfl
theorem mkv_A : valV (mkv c a l x) kA = some (.int a) := (valV_neg nCA).trans (valV_pos rfl)
theorem mkv_L : valV (mkv c a l x) kL = some (.int l) := (valV_neg nCL).trans ((valV_neg nAL).trans (valV_pos rfl))
theorem mkv_M : valV (mkv c a l x) kM = some (.int x) := (valV_neg nCM).trans ((valV_neg nAM).trans ((valV_neg nLM).trans (valV_pos rfl)))
theorem put_at (p : List (Key × V)) (k : Key) (v : V) (h : (p.any fun kv => decide (kv.1 = k)) = true) : putK p k v = p.map (fun kv => if kv.1 = k then (kv.1, v) else kv) := by
  unfold putK
  rw [if_pos h]
theorem mkv_putA (b : Int) : putK (mkv c a l x) kA (.int b) = mkv c b l x := by
  rw [put_at _ _ _ (by rw [valV_any, mkv_A]; rfl)]
  simp only [mkv, List.map_cons, List.map_nil, if_neg nCA, if_neg (Ne.symm nAL), if_neg (Ne.symm nAM), if_true]
theorem mkv_putL (b : Int) : putK (mkv c a l x) kL (.int b) = mkv c a b x := by
  rw [put_at _ _ _ (by rw [valV_any, mkv_L]; rfl)]
  simp only [mkv, List.map_cons, List.map_nil, if_neg nCL, if_neg nAL, if_neg (Ne.symm nLM), if_true]
theorem mkv_putM (b : Int) : putK (mkv c a l x) kM (.int b) = mkv c a l b := by
  rw [put_at _ _ _ (by rw [valV_any, mkv_M]; rfl)]
  simp only [mkv, List.map_cons, List.map_nil, if_neg nCM, if_neg nAM, if_neg nLM, if_true]
theorem mkv_make : mergeK [] [(kC, V.ref c), (kA, .int a), (kL, .int l), (kM, .int x)] = mkv c a l x := by
  have e1 : putK ([] : List (Key × V)) kC (.ref c) = [(kC, .ref c)] := putK_new _ valV_nil
  have e2 : putK [(kC, V.ref c)] kA (.int a) = [(kC, .ref c), (kA, .int a)] := putK_new _ (by rw [valV_neg nCA]; rfl)
  have e3 : putK [(kC, V.ref c), (kA, V.int a)] kL (.int l) = [(kC, .ref c), (kA, .int a), (kL, .int l)] := putK_new _ (by rw [valV_neg nCL, valV_neg nAL]; rfl)
  have e4 : putK [(kC, V.ref c), (kA, V.int a), (kL, V.int l)] kM (.int x) = [(kC, .ref c), (kA, .int a), (kL, .int l), (kM, .int x)] := putK_new _ (by rw [valV_neg nCM, valV_neg nAM, valV_neg nLM]; rfl)
  simp only [mergeK, List.foldl_cons, List.foldl_nil]
  rw [e1, e2, e3, e4]
  rfl
end
/-- the draws' dict at p, its cells at c, with at most n mixed draws so far -/
structure MS (H : Hp) (p c : Addr) (n : Nat) : Prop where
  ex : ∃ (cells : List Int) (a l x : Int), H p = some (.dK (mkv c a l x)) ∧ H c = some (.lst (cells.map V.int)) ∧ 0 < cells.length ∧ cells.length ≤ 64 ∧ 0 ≤ a ∧ 0 ≤ l ∧ 0 ≤ x ∧ x ≤ (n : Int)
  nn : n ≤ 1000000
/-- all but p stands as it stood -/
def But (p : Addr) (H H' : Hp) : Prop := ∀ b, b ≠ p → H' b = H b
/-- all that stood but p stands as it stood -/
def Ext (p : Addr) (H H' : Hp) : Prop := ∀ b o, b ≠ p → H b = some o → H' b = some o
theorem But.ext {p : Addr} {H H' : Hp} (h : But p H H') : Ext p H H' := fun b o hb e => (h b hb).trans e
theorem But.trans {p : Addr} {H H1 H2 : Hp} (h : But p H H1) (k : But p H1 H2) : But p H H2 := fun b hb => (k b hb).trans (h b hb)
theorem Ext.refl (p : Addr) (H : Hp) : Ext p H H := fun _ _ _ e => e
theorem Ext.trans {p : Addr} {H H1 H2 : Hp} (h : Ext p H H1) (k : Ext p H1 H2) : Ext p H H2 := fun b o hb e => k b o hb (h b o hb e)
theorem Ext.same {p : Addr} {H H1 : Hp} (h : Same H H1) : Ext p H H1 := fun b o _ e => h b o e
theorem Ext.new {p q : Addr} {H : Hp} {o : HO} (h : H q = none) : Ext p H (upd H q o) := fun b u _ e => by
  rw [upd_ne (ne_of_none e h)]
  exact e
theorem MS.lt {H : Hp} {p c : Addr} {n k : Nat} (M : MS H p c n) (h : n ≤ k) (hk : k ≤ 1000000) : MS H p c k := by
  obtain ⟨cells, a, l, x, h1, h2, h3, h4, h5, h6, h7, h8⟩ := M.ex
  exact ⟨⟨cells, a, l, x, h1, h2, h3, h4, h5, h6, h7, by omega⟩, hk⟩
theorem MS.ne {H : Hp} {p c : Addr} {n : Nat} (M : MS H p c n) : p ≠ c := by
  obtain ⟨cells, a, l, x, h1, h2, _⟩ := M.ex
  exact ne_of h1 h2 (by intro z; cases z)
theorem MS.there {H : Hp} {p c : Addr} {n : Nat} (M : MS H p c n) : ∃ o, H p = some o := by
  obtain ⟨cells, a, l, x, h1, _⟩ := M.ex
  exact ⟨_, h1⟩
/-- kept where what stood at both places stands -/
theorem MS.keep {H H' : Hp} {p c : Addr} {n : Nat} (M : MS H p c n) (k : Same H H') : MS H' p c n := by
  obtain ⟨cells, a, l, x, h1, h2, r⟩ := M.ex
  exact ⟨⟨cells, a, l, x, k _ _ h1, k _ _ h2, r⟩, M.nn⟩
theorem MS.new {H : Hp} {p c q : Addr} {n : Nat} {o : HO} (M : MS H p c n) (h : H q = none) : MS (upd H q o) p c n :=
  M.keep fun b u e => by
    rw [upd_ne (ne_of_none e h)]
    exact e
end One
end P_D2

section P_D3
set_option linter.all false
set_option maxRecDepth 100000
set_option maxHeartbeats 4000000
namespace One
open PySem PySem.Spec PyProof.Rows L2
/-- the names that the program's top leaves to the built-ins -/
structure TB (mg : Str → Option Value) : Prop where
  len : mg "len" = none
  range : mg "range" = none
  tuple : mg "tuple" = none
  list : mg "list" = none
  sorted : mg "sorted" = none
  enumerate : mg "enumerate" = none
  isinstance : mg "isinstance" = none
  int : mg "int" = none
  bool : mg "bool" = none
  repr : mg "repr" = none
  all : mg "all" = none
def spBegun (K : PySem.W.Frag) : Sp := fun vs H Q _ => ∃ (a : Addr) (ns : List Int), vs = [.ref a] ∧ SqL K H a (ns.map V.int) ∧ ns.length ≤ 63 ∧
  ∀ (H' : Hp) (p c : Addr), Same H H' → H p = none → MS H' p c 0 → Q (.ref p) H'
def spDraw : Sp := fun vs H Q _ => ∃ (p c : Addr) (n : Nat) (many : Int), vs = [.ref p, .int many] ∧ MS H p c n ∧ n < 1000000 ∧ 0 < many ∧ many < 1073741824 ∧
  ∀ (H' : Hp) (f : Int), MS H' p c (n + 1) → But p H H' → 0 ≤ f → f < many → Q (.int f) H'
section
variable {P : Program} {w : World} {K : PySem.W.Frag} {mg : Str → Option Value} {base : Heap}
theorem ok_begun {f : Addr} {fd : FuncData} (F : Fun K "_law_begun" "_law_begun" sBegun f fd) (T : TB mg) : FnOk P w K mg base CX0 1 f fd ["script"] (spBegun K) := by
  refine F.ok scBegun (fun vs H Q E h => ?_) (fun cdv A outer s H vs Q E hr h => ?_)
  · obtain ⟨a, ns, rfl, _⟩ := h
    rfl
  · obtain ⟨a, ns, rfl, hS, hl, k⟩ := h
    refine ⟨_, pss_one (ps_ret (pe_disp (pps_cons pe_str (pe_op op_catS (pv 0) (pe_lst (pa_cons (pe_callB call_len_seq (by rfl) T.len PySem.boot_len (pa_cons (pv 0) pa_nil)) pa_nil)))
      (pps_cons pe_str pe_int (pps_cons pe_str pe_int (pps_cons pe_str pe_int pps_nil)))) (by rfl) (by rfl) (fun z => by cases z) (by decide))), ?_⟩
    intro p hp
    have s0 : Same H (upd H p (.dK [])) := fun b o e => by
      rw [upd_ne (ne_of_none e hp)]
      exact e
    refine ⟨_, rfl, _, rfl, a, _, rfl, .inl (s0.seq hS), ?_⟩
    refine ⟨by show 1 ≤ sizeLine; decide, fun l hl1 => ?_⟩
    have hpl : p ≠ l := fun z => by
      rw [← z, upd_same] at hl1
      cases hl1
    have hl0 : H l = none := s0.free hl1
    have s1 : Same (upd H p (.dK [])) (upd (upd H p (.dK [])) l (.lst [V.int ((ns.map V.int).length : Nat)])) := fun b o e => by
      rw [upd_ne (ne_of_none e hl1)]
      exact e
    refine ⟨a, l, _, _, rfl, rfl, s1.seq (s0.seq hS), upd_same, by rw [List.length_map]; show ns.length + 1 ≤ sizeLine; exact Nat.le_of_lt (small1000 (by omega)), fun c hc => ?_⟩
    have s2 : Same (upd (upd H p (.dK [])) l (.lst [V.int ((ns.map V.int).length : Nat)])) (upd (upd (upd H p (.dK [])) l (.lst [V.int ((ns.map V.int).length : Nat)])) c (.lst (ns.map V.int ++ [V.int ((ns.map V.int).length : Nat)]))) := fun b o e => by
      rw [upd_ne (ne_of_none e hc)]
      exact e
    have hp2 := s2 _ _ (s1 _ _ upd_same)
    have hpc : p ≠ c := ne_of_none (s1 _ _ upd_same) hc
    refine ⟨hp2, [(kC, .ref c), (kA, .int 0), (kL, .int 0), (kM, .int 0)], rfl, by show 4 ≤ 15; decide, ?_⟩
    refine k _ p c (fun b o e => ?_) hp ⟨⟨ns ++ [(ns.length : Int)], 0, 0, 0, ?_, ?_, ?_, ?_, Int.le_refl _, Int.le_refl _, Int.le_refl _, by decide⟩, by decide⟩
    · rw [upd_ne (ne_of_none e hp)]
      exact s2 _ _ (s1 _ _ (s0 _ _ e))
    · rw [upd_same, mkv_make]
    · rw [upd_ne (Ne.symm hpc), upd_same, List.map_append, List.length_map]
      rfl
    · rw [List.length_append]
      exact Nat.succ_pos _
    · rw [List.length_append]
      show ns.length + 1 ≤ 64
      omega
end
end One
end P_D3

section P_D4
set_option linter.all false
set_option maxRecDepth 100000
set_option maxHeartbeats 4000000
namespace One
open PySem PySem.Spec PyProof.Rows L2
theorem scDraw : FnScope ["m", "many", "cell", "k", "number", "found"] ["m", "many"] (defScope sDraw) := ⟨rfl, rfl, rfl, by decide +kernel, rfl, by decide +kernel, by decide +kernel⟩
theorem get_cell {cells : List Int} {i : Int} (h0 : 0 ≤ i) (h1 : i < (cells.length : Int)) : ∃ z, atI (cells.map V.int) i = some (V.int z) := by
  have hlt : i.toNat < cells.length := by omega
  refine ⟨cells[i.toNat], at_of (j := i.toNat) (by omega) ?_⟩
  rw [List.getElem?_map, List.getElem?_eq_getElem hlt]
  rfl
theorem gC {H : Hp} {p c : Addr} {a l x : Int} (h : H p = some (.dK (mkv c a l x))) : DGet H p (.str ("cells" : Str)) (some (.ref c)) := by
  have q := DGet.k (k := kC) h
  rw [mkv_C] at q
  exact q
theorem gA {H : Hp} {p c : Addr} {a l x : Int} (h : H p = some (.dK (mkv c a l x))) : DGet H p (.str ("at" : Str)) (some (.int a)) := by
  have q := DGet.k (k := kA) h
  rw [mkv_A] at q
  exact q
theorem gL {H : Hp} {p c : Addr} {a l x : Int} (h : H p = some (.dK (mkv c a l x))) : DGet H p (.str ("left" : Str)) (some (.int l)) := by
  have q := DGet.k (k := kL) h
  rw [mkv_L] at q
  exact q
theorem gM {H : Hp} {p c : Addr} {a l x : Int} (h : H p = some (.dK (mkv c a l x))) : DGet H p (.str ("mixed" : Str)) (some (.int x)) := by
  have q := DGet.k (k := kM) h
  rw [mkv_M] at q
  exact q
theorem len4 (c : Addr) (a l x : Int) : (mkv c a l x).length < sizeLine := by
  show 4 < sizeLine
  decide
theorem pA {H : Hp} {p c : Addr} {a l x b : Int} (h : H p = some (.dK (mkv c a l x))) : DPut H p (.str ("at" : Str)) (.int b) (upd H p (.dK (mkv c b l x))) := by
  have q := DPut.k (k := kA) (v := .int b) h (len4 _ _ _ _)
  rw [mkv_putA] at q
  exact q
theorem pL {H : Hp} {p c : Addr} {a l x b : Int} (h : H p = some (.dK (mkv c a l x))) : DPut H p (.str ("left" : Str)) (.int b) (upd H p (.dK (mkv c a b x))) := by
  have q := DPut.k (k := kL) (v := .int b) h (len4 _ _ _ _)
  rw [mkv_putL] at q
  exact q
theorem pM {H : Hp} {p c : Addr} {a l x b : Int} (h : H p = some (.dK (mkv c a l x))) : DPut H p (.str ("mixed" : Str)) (.int b) (upd H p (.dK (mkv c a l b))) := by
  have q := DPut.k (k := kM) (v := .int b) h (len4 _ _ _ _)
  rw [mkv_putM] at q
  exact q
theorem But.upd {p : Addr} {H H' : Hp} {o : HO} (h : But p H H') : But p H (upd H' p o) := fun b hb => (upd_ne hb).trans (h b hb)
/-- the number of a mixed draw -/
theorem mix_bound {z k : Int} (h0 : 0 ≤ k) (h1 : k ≤ 1000001) : -(2 ^ 64) < z % 2147483629 + 104729 * k ∧ z % 2147483629 + 104729 * k < 2 ^ 64 := by
  have a := Int.emod_nonneg z (b := 2147483629) (by decide)
  have b := Int.emod_lt_of_pos z (b := 2147483629) (by decide)
  constructor <;> omega
/-- a test, then what comes of it, with a word between them -/
def tMid (t : TT) : TT := fun σ H Q => ∃ M : Bool → Hp → Prop, t σ H M ∧ ∀ b H', M b H' → Q b H'
theorem pt_mid {X : Cx} {e : Expr} {t : TT} (h : PT X e t) : PT X e (tMid t) := ⟨fun pins s σ H Q I ⟨M, h1, h2⟩ =>
  thn (h.run pins s σ H M I h1) fun b s' ⟨H', I', q⟩ => ⟨H', I', h2 b H' q⟩⟩
/-- an expression, then what comes of it, with a word between them -/
def tMidE (t : TE) : TE := fun σ H Q => ∃ M : V → Hp → Prop, t σ H M ∧ ∀ v H', M v H' → Q v H'
theorem pe_mid {X : Cx} {e : Expr} {t : TE} (h : PE X e t) : PE X e (tMidE t) := ⟨fun pins s σ H Q I ⟨M, h1, h2⟩ =>
  thn (h.run pins s σ H M I h1) fun u s' ⟨v, H', I', r, q⟩ => ⟨v, H', I', r, h2 v H' q⟩⟩
section
variable {P : Program} {w : World} {K : PySem.W.Frag} {mg : Str → Option Value} {base : Heap}
theorem ok_draw {f : Addr} {fd : FuncData} (F : Fun K "_law_draw" "_law_draw" sDraw f fd) (T : TB mg) : FnOk P w K mg base CX0 1 f fd ["m", "many"] spDraw := by
  refine F.ok scDraw (fun vs H Q E h => ?_) (fun cdv A outer s H vs Q E hr h => ?_)
  · obtain ⟨p, c, n, many, rfl, _⟩ := h
    rfl
  · obtain ⟨p, c, n, many, rfl, M, hn, h0, h1, k⟩ := h
    obtain ⟨cells, a, l, x, hm, hc, hne, h64, ha, hl, hx, hxn⟩ := M.ex
    have hu := hu_of hr
    have npc : p ≠ c := M.ne
    refine ⟨_, C8.pss_cut
      (ps_if (pt_cmpR op_eq (pe_dget hu (pv 0) pe_str (fun _ _ => rfl)) pe_int (nomark _))
        (pss_cons (ps_set (i := 2) scDraw.nd rfl (Or.inl rfl) (pe_ix ix_list (pe_dget hu (pv 0) pe_str (fun _ _ => rfl)) (pe_op op_mod (pe_dget hu (pv 0) pe_str (fun _ _ => rfl)) (pe_callB call_len_seq (by rfl) T.len PySem.boot_len (pa_cons (pe_dget hu (pv 0) pe_str (fun _ _ => rfl)) pa_nil))) (fun _ _ => rfl)))
        (pss_cons (ps_dput hu (pv 0) pe_str (pe_op op_add (pe_dget hu (pv 0) pe_str (fun _ _ => rfl)) pe_int) rfl)
        (pss_one (ps_if (pt_mid (PW.pt (pw_and (pt_cmpR op_ge (pv 2) (pe_op op_pow pe_int pe_int) (nomark _)) (pw_and1 (pt_cmpR op_le (pe_dget hu (pv 0) pe_str (fun _ _ => rfl)) (pe_callB call_len_seq (by rfl) T.len PySem.boot_len (pa_cons (pe_dget hu (pv 0) pe_str (fun _ _ => rfl)) pa_nil)) (nomark _))))))
          (pss_one (ps_dput hu (pv 0) pe_str (pv 2) rfl))
          (pss_cons (ps_set (i := 3) scDraw.nd rfl (Or.inl rfl) (pe_op op_add (pe_dget hu (pv 0) pe_str (fun _ _ => rfl)) pe_int))
          (pss_cons (ps_dput hu (pv 0) pe_str (pv 3) rfl)
          (pss_cons (ps_set (i := 4) scDraw.nd rfl (Or.inl rfl) (pe_mid (pe_op op_mod (pe_op op_mul (pe_op op_add (pe_op op_mod (pv 2) pe_int) (pe_op op_mul pe_int (pv 3))) (pe_op op_add (pe_op op_mul (pv 3) (pv 3)) pe_int)) pe_int)))
          (pss_cons (ps_dput hu (pv 0) pe_str (pe_op op_mul (pe_op op_mod (pe_op op_mul (pv 4) pe_int) pe_int) pe_int) rfl)
          (pss_one (ps_dput hu (pv 0) pe_str (pe_op op_add (pe_op op_add (pe_dget hu (pv 0) pe_str (fun _ _ => rfl)) (pe_op op_mod (pe_op op_mul (pv 4) (pv 4)) pe_int)) pe_int) rfl))))))))))
        pss_nil)
      (pss_cons (ps_set (i := 5) scDraw.nd rfl (Or.inl rfl) (pe_op op_mod (pe_dget hu (pv 0) pe_str (fun _ _ => rfl)) (pv 1)))
      (pss_cons (ps_dput hu (pv 0) pe_str (pe_op op_fdiv (pe_dget hu (pv 0) pe_str (fun _ _ => rfl)) (pv 1)) rfl)
      (pss_one (ps_ret (pv 5))))), ?_⟩
    refine ⟨fun σ H2 => ∃ (a' l' x' : Int) (v2 v3 v4 : Option V), σ = [some (.ref p), some (.int many), v2, v3, v4, none] ∧ H2 p = some (.dK (mkv c a' l' x')) ∧ But p H H2 ∧ 0 ≤ a' ∧ 0 ≤ l' ∧ 0 ≤ x' ∧ x' ≤ (n : Int) + 1, ?_, ?_⟩
    · refine ⟨_, rfl, p, _, rfl, gL hm, rfl, _, rfl, ?_⟩
      refine ite2 (fun _ => ?_) (fun _ => ?_)
      · have hmod0 : 0 ≤ a % (cells.length : Int) := Int.emod_nonneg _ (by omega)
        have hmod1 : a % (cells.length : Int) < (cells.length : Int) := Int.emod_lt_of_pos _ (by omega)
        obtain ⟨z, hz⟩ := get_cell (cells := cells) hmod0 hmod1
        -- cell
        refine ⟨_, rfl, p, _, rfl, gC hm, _, rfl, p, _, rfl, gA hm, _, rfl, p, _, rfl, gC hm, c, _, rfl, .inl (SqL.of hc), _, _, rfl, rfl, (by rw [List.length_map]; omega), ?_⟩
        refine ⟨c, _, _, _, rfl, rfl, SqL.of hc, (by rw [List.length_map]; exact hz), ?_⟩
        -- m['at'] = m['at'] + 1
        refine ⟨_, rfl, p, _, rfl, gA hm, _, _, rfl, rfl, _, rfl, p, _, rfl, pA hm, ?_⟩
        have hm1 : (upd H p (.dK (mkv c (a + 1) l x))) p = some (.dK (mkv c (a + 1) l x)) := upd_same
        have b1 : But p H (upd H p (.dK (mkv c (a + 1) l x))) := But.upd fun _ _ => rfl
        have hc1 : (upd H p (.dK (mkv c (a + 1) l x))) c = some (.lst (cells.map V.int)) := (b1 c (Ne.symm npc)).trans hc
        -- if cell >= 10 ** 18 and ..
        refine ⟨fun b H3 => H3 = upd H p (.dK (mkv c (a + 1) l x)) ∧ (b = true → 10 ^ 18 ≤ z), ?_, ?_⟩
        · refine ⟨_, rfl, _, _, rfl, rfl, ⟨by decide, by decide, by decide⟩, _, _, rfl, rfl, _, rfl, ?_⟩
          refine ite2 (fun hc18 => ?_) (fun _ => ⟨rfl, fun z => nomatch z⟩)
          exact ⟨_, rfl, p, _, rfl, gA hm1, _, rfl, p, _, rfl, gC hm1, c, _, rfl, .inl (SqL.of hc1), _, _, rfl, rfl, _, rfl, rfl, fun _ => of_decide_eq_true hc18⟩
        · rintro b H3 ⟨rfl, hb⟩
          refine ite2 (fun e => ?_) (fun _ => ?_)
          · have hz18 : 0 ≤ z := Int.le_trans (by decide) (hb e)
            exact ⟨_, rfl, _, rfl, p, _, rfl, pL hm1, a + 1, z, x, _, _, _, rfl, upd_same, b1.upd, by omega, hz18, hx, by omega⟩
          · refine ⟨_, rfl, p, _, rfl, gM hm1, _, _, rfl, rfl, ?_⟩
            refine ⟨_, rfl, _, rfl, p, _, rfl, pM hm1, ?_⟩
            have hm2 : (upd (upd H p (.dK (mkv c (a + 1) l x))) p (.dK (mkv c (a + 1) l (x + 1)))) p = some (.dK (mkv c (a + 1) l (x + 1))) := upd_same
            have b2 := b1.upd (o := .dK (mkv c (a + 1) l (x + 1)))
            have hnn := M.nn
            have hk0 : 0 ≤ x + 1 := by omega
            have hk1 : x + 1 ≤ 1000001 := by omega
            refine ⟨fun v H3 => H3 = _ ∧ ∃ N : Int, v = .int N ∧ 0 ≤ N ∧ N < 2147483647, ⟨_, rfl, _, _, rfl, rfl, (by show (0 : Int) < 2147483629; decide), _, rfl, _, _, rfl, rfl, .inl ⟨by decide, by decide⟩, _, _, rfl, rfl, _, rfl, _, rfl, _, _, rfl, rfl, .inl ⟨by omega, by omega⟩, _, _, rfl, rfl, _, _, rfl, rfl, .inl (mix_bound hk0 hk1), _, _, rfl, rfl, (by show (0 : Int) < 2147483647; decide),
              rfl, _, rfl, Int.emod_nonneg _ (by decide), Int.emod_lt_of_pos _ (by decide)⟩, ?_⟩
            rintro v H3 ⟨rfl, N, rfl, hN0, hN1⟩
            have hr0 := Int.emod_nonneg (N * 1000003) (b := 2147483587) (by decide)
            have hr1 := Int.emod_lt_of_pos (N * 1000003) (b := 2147483587) (by decide)
            have hs0 := Int.emod_nonneg (N * N) (b := 2147483563) (by decide)
            refine ⟨_, rfl, _, _, rfl, rfl, .inr ⟨by decide, by decide⟩, _, _, rfl, rfl, (by show (0 : Int) < 2147483587; decide), _, _, rfl, rfl, .inr ⟨by decide, by decide⟩, _, rfl, p, _, rfl, pL hm2, ?_⟩
            have hm3 : (upd (upd (upd H p (.dK (mkv c (a + 1) l x))) p (.dK (mkv c (a + 1) l (x + 1)))) p (.dK (mkv c (a + 1) (N * 1000003 % 2147483587 * 2147483647) (x + 1)))) p = some (.dK (mkv c (a + 1) (N * 1000003 % 2147483587 * 2147483647) (x + 1))) := upd_same
            have b3 := b2.upd (o := .dK (mkv c (a + 1) (N * 1000003 % 2147483587 * 2147483647) (x + 1)))
            refine ⟨_, rfl, p, _, rfl, gL hm3, _, rfl, _, rfl, _, _, rfl, rfl, .inl ⟨by omega, by omega⟩, _, _, rfl, rfl, (by show (0 : Int) < 2147483563; decide), _, _, rfl, rfl, _, _, rfl, rfl, _, rfl, p, _, rfl, pL hm3, ?_⟩
            exact ⟨a + 1, _, x + 1, _, _, _, rfl, upd_same, b3.upd, by omega, by omega, by omega, by omega⟩
      · exact ⟨a, l, x, none, none, none, rfl, hm, fun _ _ => rfl, ha, hl, hx, by omega⟩
    · rintro σ H2 ⟨a', l', x', v2, v3, v4, rfl, hm2, b2, ha', hl', hx', hxn'⟩
      refine ⟨_, rfl, p, _, rfl, gL hm2, _, rfl, _, _, rfl, rfl, h0, ?_⟩
      refine ⟨_, rfl, p, _, rfl, gL hm2, _, rfl, _, _, rfl, rfl, ⟨h0, h1⟩, _, rfl, p, _, rfl, pL hm2, ?_⟩
      refine ⟨_, rfl, ?_⟩
      refine k _ _ ⟨⟨cells, a', l' / many, x', upd_same, ?_, hne, h64, ha', Int.ediv_nonneg hl' (Int.le_of_lt h0), hx', by omega⟩, by omega⟩ b2.upd (Int.emod_nonneg _ (by omega)) (Int.emod_lt_of_pos _ h0)
      exact (upd_ne (Ne.symm npc)).trans ((b2 c (Ne.symm npc)).trans hc)
end
end One
end P_D4

section P_M1
set_option linter.all false
/-! Lines, yards: the mathematics of what a law's own growing and calling makes. -/
namespace One
/-- the ends of lines -/
def ends : List (Nat × Nat) → List Nat
  | [] => []
  | p :: r => p.1 :: p.2 :: ends r
/-- the items whose place, counted from k, is let by p -/
def keepIx {α : Type} (p : Nat → Bool) : Nat → List α → List α
  | _, [] => []
  | k, x :: r => if p k then x :: keepIx p (k + 1) r else keepIx p (k + 1) r
theorem ends_append : ∀ (a b : List (Nat × Nat)), ends (a ++ b) = ends a ++ ends b
  | [], _ => rfl
  | p :: r, b => by simp [ends, ends_append r b]
theorem ends_perm {a b : List (Nat × Nat)} (h : a.Perm b) : (ends a).Perm (ends b) := by
  induction h with
  | nil => exact .refl _
  | cons x _ ih => exact .cons _ (.cons _ ih)
  | swap x y l => 
    show (y.1 :: y.2 :: x.1 :: x.2 :: ends l).Perm (x.1 :: x.2 :: y.1 :: y.2 :: ends l)
    have : ([y.1, y.2] ++ ([x.1, x.2] ++ ends l)).Perm ([x.1, x.2] ++ ([y.1, y.2] ++ ends l)) := by
      rw [← List.append_assoc, ← List.append_assoc]
      exact List.Perm.append_right _ List.perm_append_comm
    exact this
  | trans _ _ i j => exact i.trans j
theorem ends_length : ∀ a : List (Nat × Nat), (ends a).length = 2 * a.length
  | [] => rfl
  | p :: r => by simp [ends, ends_length r]; omega
theorem mem_ends : ∀ {a : List (Nat × Nat)} {e : Nat}, e ∈ ends a ↔ ∃ p ∈ a, e = p.1 ∨ e = p.2
  | [], e => by simp [ends]
  | p :: r, e => by
    simp only [ends, List.mem_cons, mem_ends (a := r)]
    constructor
    · rintro (h | h | ⟨q, hq, h⟩)
      · exact ⟨p, .inl rfl, .inl h⟩
      · exact ⟨p, .inl rfl, .inr h⟩
      · exact ⟨q, .inr hq, h⟩
    · rintro ⟨q, rfl | hq, h⟩
      · rcases h with h | h
        · exact .inl h
        · exact .inr (.inl h)
      · exact .inr (.inr ⟨q, hq, h⟩)
theorem keepIx_length_le {α : Type} (p : Nat → Bool) : ∀ (k : Nat) (l : List α), (keepIx p k l).length ≤ l.length
  | _, [] => Nat.le_refl _
  | k, x :: r => by
    unfold keepIx
    have := keepIx_length_le p (k + 1) r
    split <;> simp <;> omega
theorem keepIx_snoc {α : Type} (p : Nat → Bool) : ∀ (k : Nat) (l : List α) (x : α), keepIx p k (l ++ [x]) = keepIx p k l ++ (if p (k + l.length) then [x] else [])
  | k, [], x => by simp [keepIx]
  | k, y :: r, x => by
    simp only [List.cons_append, keepIx, keepIx_snoc p (k + 1) r x, List.length_cons]
    have : k + 1 + r.length = k + (r.length + 1) := by omega
    rw [this]
    split <;> simp
theorem keepIx_congr {α : Type} {p q : Nat → Bool} : ∀ (k : Nat) (l : List α), (∀ m, k ≤ m → p m = q m) → keepIx p k l = keepIx q k l
  | _, [], _ => rfl
  | k, x :: r, h => by
    unfold keepIx
    rw [h k (Nat.le_refl _), keepIx_congr (k + 1) r (fun m hm => h m (by omega))]
theorem keepIx_out {α : Type} (p : Nat → Bool) : ∀ (k i : Nat) (l : List α) (x : α), l[i]? = some x → p (k + i) = true → (keepIx p k l).Perm (x :: keepIx (fun m => p m && !decide (m = k + i)) k l)
  | k, _, [], x, h, _ => by simp at h
  | k, 0, y :: r, x, h, hp => by
    have e : y = x := Option.some.inj h
    subst e
    have hp' : p k = true := hp
    simp only [keepIx, hp', Nat.add_zero, decide_true, Bool.not_true, Bool.and_false, if_true]
    refine .cons _ ?_
    have e : keepIx (fun m => p m && !decide (m = k)) (k + 1) r = keepIx p (k + 1) r := keepIx_congr (k + 1) r fun m hm => by
      have : ¬ m = k := by omega
      simp [this]
    simp [e]
  | k, i + 1, y :: r, x, h, hp => by
    have ih := keepIx_out p (k + 1) i r x (by simpa using h) (by rw [show k + 1 + i = k + (i + 1) by omega]; exact hp)
    have hk : ¬ k = k + (i + 1) := by omega
    simp only [keepIx, hk, decide_false, Bool.not_false, Bool.and_true]
    rw [show (fun m => p m && !decide (m = k + (i + 1))) = (fun m => p m && !decide (m = k + 1 + i)) by funext m; rw [show k + (i + 1) = k + 1 + i by omega]]
    split
    · exact (List.Perm.cons _ ih).trans (.swap _ _ _)
    · exact ih
theorem keepIx_all {α : Type} : ∀ (k : Nat) (l : List α), keepIx (fun _ => true) k l = l
  | _, [] => rfl
  | k, x :: r => by simp [keepIx, keepIx_all (k + 1) r]
/-- lines of n crossings: each end in just one of them -/
structure Lines (n : Nat) (ps : List (Nat × Nat)) : Prop where
  len : ps.length = 2 * n
  nd : (ends ps).Nodup
  lt : ∀ e ∈ ends ps, e < 4 * n
/-- all hangs together: what is closed under lines and has crossing 0 has all -/
def Whole (n : Nat) (ps : List (Nat × Nat)) : Prop := ∀ P : Nat → Prop, (∀ p ∈ ps, P (p.1 / 4) ↔ P (p.2 / 4)) → P 0 → ∀ c, c < n → P c
theorem Whole.from {n : Nat} {ps : List (Nat × Nat)} (w : Whole n ps) {P : Nat → Prop} (h : ∀ p ∈ ps, P (p.1 / 4) ↔ P (p.2 / 4)) {a : Nat} (ha : a < n) (hp : P a) {c : Nat} (hc : c < n) : P c := by
  by_cases h0 : P 0
  · exact w P h h0 c hc
  · exact absurd hp (w (fun x => ¬ P x) (fun p m => not_congr (h p m)) h0 a ha)
theorem Whole.perm {n : Nat} {ps qs : List (Nat × Nat)} (w : Whole n ps) (h : ps.Perm qs) : Whole n qs := fun P hP h0 c hc => w P (fun p m => hP p (h.mem_iff.mp m)) h0 c hc
theorem Lines.perm {n : Nat} {ps qs : List (Nat × Nat)} (w : Lines n ps) (h : ps.Perm qs) : Lines n qs :=
  ⟨h.length_eq ▸ w.len, (ends_perm h).nodup_iff.mp w.nd, fun e m => w.lt e ((ends_perm h).mem_iff.mpr m)⟩
/-- the fresh lines of crossing n put across two lines, or twice across one -/
def fresh (n : Nat) (i j : Nat) (a b : Nat × Nat) : List (Nat × Nat) :=
  if i = j then [(a.1, 4 * n), (4 * n + 1, 4 * n + 2), (a.2, 4 * n + 3)] else [(a.1, 4 * n), (a.2, 4 * n + 2), (b.1, 4 * n + 1), (b.2, 4 * n + 3)]
/-- the places but two -/
def notIJ (i j : Nat) : Nat → Bool := fun m => !decide (m = i) && !decide (m = j)
def putOn (n : Nat) (ps : List (Nat × Nat)) (i j : Nat) (a b : Nat × Nat) : List (Nat × Nat) := keepIx (notIJ i j) 0 ps ++ fresh n i j a b
theorem keep_one {α : Type} {ps : List α} {i : Nat} {a : α} (ha : ps[i]? = some a) : ps.Perm (a :: keepIx (notIJ i i) 0 ps) := by
  have h := keepIx_out (fun _ => true) 0 i ps a ha rfl
  rw [keepIx_all] at h
  refine h.trans ?_
  rw [keepIx_congr (q := notIJ i i) 0 ps fun m _ => by simp [notIJ]]
theorem keep_two {α : Type} {ps : List α} {i j : Nat} {a b : α} (hij : i ≠ j) (ha : ps[i]? = some a) (hb : ps[j]? = some b) : ps.Perm (a :: b :: keepIx (notIJ i j) 0 ps) := by
  have h := keepIx_out (fun _ => true) 0 i ps a ha rfl
  rw [keepIx_all] at h
  refine h.trans (.cons _ ?_)
  have h2 := keepIx_out (fun m => true && !decide (m = 0 + i)) 0 j ps b hb (by simp; omega)
  refine h2.trans ?_
  rw [keepIx_congr (q := notIJ i j) 0 ps fun m _ => by simp [notIJ]]
theorem mem_keep {α : Type} (p : Nat → Bool) : ∀ (k : Nat) (l : List α) (x : α), x ∈ keepIx p k l → x ∈ l
  | _, [], _, h => h
  | k, y :: r, x, h => by
    unfold keepIx at h
    split at h
    · rcases List.mem_cons.mp h with e | h
      · exact List.mem_cons.mpr (.inl e)
      · exact List.mem_cons.mpr (.inr (mem_keep p (k + 1) r x h))
    · exact List.mem_cons.mpr (.inr (mem_keep p (k + 1) r x h))
theorem put_ends {n : Nat} {ps : List (Nat × Nat)} {i j : Nat} {a b : Nat × Nat} (ha : ps[i]? = some a) (hb : ps[j]? = some b) :
    (ends (putOn n ps i j a b)).Perm (ends ps ++ [4 * n, 4 * n + 1, 4 * n + 2, 4 * n + 3]) := by
  unfold putOn
  rw [ends_append]
  unfold fresh
  by_cases hij : i = j
  · subst hij
    rw [if_pos rfl]
    have h := ends_perm (keep_one ha)
    refine List.Perm.trans ?_ (List.Perm.append_right _ h.symm)
    show (ends (keepIx (notIJ i i) 0 ps) ++ [a.1, 4 * n, 4 * n + 1, 4 * n + 2, a.2, 4 * n + 3]).Perm ((a.1 :: a.2 :: ends (keepIx (notIJ i i) 0 ps)) ++ [4 * n, 4 * n + 1, 4 * n + 2, 4 * n + 3])
    refine List.perm_iff_count.mpr fun x => ?_
    simp only [List.count_append, List.count_cons, List.count_nil]
    omega
  · rw [if_neg hij]
    have h := ends_perm (keep_two hij ha hb)
    refine List.Perm.trans ?_ (List.Perm.append_right _ h.symm)
    show (ends (keepIx (notIJ i j) 0 ps) ++ [a.1, 4 * n, a.2, 4 * n + 2, b.1, 4 * n + 1, b.2, 4 * n + 3]).Perm ((a.1 :: a.2 :: b.1 :: b.2 :: ends (keepIx (notIJ i j) 0 ps)) ++ [4 * n, 4 * n + 1, 4 * n + 2, 4 * n + 3])
    refine List.perm_iff_count.mpr fun x => ?_
    simp only [List.count_append, List.count_cons, List.count_nil]
    omega
theorem put_len {n : Nat} {ps : List (Nat × Nat)} {i j : Nat} {a b : Nat × Nat} (ha : ps[i]? = some a) (hb : ps[j]? = some b) : (putOn n ps i j a b).length = ps.length + 2 := by
  have h := (put_ends (n := n) ha hb).length_eq
  rw [List.length_append, ends_length, ends_length] at h
  simp at h
  omega
theorem put_lines {n : Nat} {ps : List (Nat × Nat)} {i j : Nat} {a b : Nat × Nat} (L : Lines n ps) (ha : ps[i]? = some a) (hb : ps[j]? = some b) : Lines (n + 1) (putOn n ps i j a b) := by
  have hp := put_ends (n := n) ha hb
  refine ⟨by rw [put_len ha hb, L.len]; omega, hp.nodup_iff.mpr (List.nodup_append.mpr ⟨L.nd, ?_, fun x hx y hy => ?_⟩), fun e he => ?_⟩
  · simp
  · have := L.lt x hx
    simp at hy
    omega
  · rcases List.mem_append.mp (hp.mem_iff.mp he) with h | h
    · have := L.lt e h
      omega
    · simp at h
      omega
theorem put_whole {n : Nat} {ps : List (Nat × Nat)} {i j : Nat} {a b : Nat × Nat} (hn : 0 < n) (L : Lines n ps) (w : Whole n ps) (ha : ps[i]? = some a) (hb : ps[j]? = some b) : Whole (n + 1) (putOn n ps i j a b) := by
  intro P hP h0
  have old : ∀ p ∈ keepIx (notIJ i j) 0 ps, P (p.1 / 4) ↔ P (p.2 / 4) := fun p m => hP p (List.mem_append.mpr (.inl m))
  have d0 : 4 * n / 4 = n := by omega
  have d1 : (4 * n + 1) / 4 = n := by omega
  have d2 : (4 * n + 2) / 4 = n := by omega
  have d3 : (4 * n + 3) / 4 = n := by omega
  have new : ∀ p ∈ fresh n i j a b, P (p.1 / 4) ↔ P (p.2 / 4) := fun p m => hP p (List.mem_append.mpr (.inr m))
  have hA : (P (a.1 / 4) ↔ P n) ∧ (P (a.2 / 4) ↔ P n) ∧ (i ≠ j → (P (b.1 / 4) ↔ P n) ∧ (P (b.2 / 4) ↔ P n)) := by
    unfold fresh at new
    by_cases hij : i = j
    · rw [if_pos hij] at new
      have q1 := new (a.1, 4 * n) (by simp)
      have q2 := new (a.2, 4 * n + 3) (by simp)
      simp only [d0, d3] at q1 q2
      exact ⟨q1, q2, fun z => absurd hij z⟩
    · rw [if_neg hij] at new
      have q1 := new (a.1, 4 * n) (by simp)
      have q2 := new (a.2, 4 * n + 2) (by simp)
      have q3 := new (b.1, 4 * n + 1) (by simp)
      have q4 := new (b.2, 4 * n + 3) (by simp)
      simp only [d0, d1, d2, d3] at q1 q2 q3 q4
      exact ⟨q1, q2, fun _ => ⟨q3, q4⟩⟩
  have clo : ∀ p ∈ ps, P (p.1 / 4) ↔ P (p.2 / 4) := by
    intro p m
    by_cases hij : i = j
    · subst hij
      rcases List.mem_cons.mp ((keep_one ha).mem_iff.mp m) with e | m
      · subst e
        exact hA.1.trans hA.2.1.symm
      · exact old p m
    · rcases List.mem_cons.mp ((keep_two hij ha hb).mem_iff.mp m) with e | m
      · subst e
        exact hA.1.trans hA.2.1.symm
      · rcases List.mem_cons.mp m with e | m
        · subst e
          exact (hA.2.2 hij).1.trans (hA.2.2 hij).2.symm
        · exact old p m
  have all := w P clo h0
  intro c hc
  by_cases h : c < n
  · exact all c h
  · have e : c = n := by omega
    subst e
    have am : a.1 ∈ ends ps := mem_ends.mpr ⟨a, List.mem_of_getElem? ha, .inl rfl⟩
    have := L.lt _ am
    exact hA.1.mp (all _ (by omega))
end One
end P_M1

section P_M2
set_option linter.all false
namespace One
/-- what a law's own growing makes -/
structure Grown (n : Nat) (ps : List (Nat × Nat)) : Prop where
  pos : 0 < n
  lines : Lines n ps
  whole : Whole n ps
theorem grown_one {a b c d : Nat} (h : [a, b, c, d].Perm [0, 1, 2, 3]) : Grown 1 [(a, b), (c, d)] := by
  refine ⟨by decide, ⟨rfl, h.nodup_iff.mpr (by decide), fun e he => ?_⟩, fun P _ h0 x hx => ?_⟩
  · have := h.mem_iff.mp he
    simp at this
    omega
  · have e : x = 0 := by omega
    subst e
    exact h0
theorem Grown.put {n : Nat} {ps : List (Nat × Nat)} {i j : Nat} {a b : Nat × Nat} (g : Grown n ps) (ha : ps[i]? = some a) (hb : ps[j]? = some b) : Grown (n + 1) (putOn n ps i j a b) :=
  ⟨by omega, put_lines g.lines ha hb, put_whole g.pos g.lines g.whole ha hb⟩
/-- how ends are called otherwise, crossing by crossing -/
structure Called (n : Nat) (ns : List Nat) : Prop where
  perm : ns.Perm (List.range (4 * n))
  blk : ∀ i j, i < 4 * n → j < 4 * n → i / 4 = j / 4 → ns.getD i 0 / 4 = ns.getD j 0 / 4
theorem Called.len {n : Nat} {ns : List Nat} (c : Called n ns) : ns.length = 4 * n := by rw [c.perm.length_eq, List.length_range]
theorem Called.lt {n : Nat} {ns : List Nat} (c : Called n ns) {i : Nat} (hi : i < 4 * n) : ns.getD i 0 < 4 * n := by
  have h : i < ns.length := by rw [c.len]; exact hi
  rw [List.getD_eq_getElem?_getD, List.getElem?_eq_getElem h, Option.getD_some]
  exact List.mem_range.mp (c.perm.mem_iff.mp (List.getElem_mem h))
theorem Called.inj {n : Nat} {ns : List Nat} (c : Called n ns) {i j : Nat} (hi : i < 4 * n) (hj : j < 4 * n) (e : ns.getD i 0 = ns.getD j 0) : i = j := by
  have h1 : i < ns.length := by rw [c.len]; exact hi
  have h2 : j < ns.length := by rw [c.len]; exact hj
  rw [List.getD_eq_getElem?_getD, List.getElem?_eq_getElem h1, Option.getD_some, List.getD_eq_getElem?_getD, List.getElem?_eq_getElem h2, Option.getD_some] at e
  exact (List.getElem_inj (c.perm.nodup_iff.mpr List.nodup_range)).mp e
theorem Called.onto {n : Nat} {ns : List Nat} (c : Called n ns) {x : Nat} (hx : x < 4 * n) : ∃ i, i < 4 * n ∧ ns.getD i 0 = x := by
  have h := c.perm.mem_iff.mpr (List.mem_range.mpr hx)
  obtain ⟨i, hi, e⟩ := List.mem_iff_getElem.mp h
  refine ⟨i, by rw [← c.len]; exact hi, ?_⟩
  rw [List.getD_eq_getElem?_getD, List.getElem?_eq_getElem hi, Option.getD_some, e]
/-- a line, the lesser end ahead -/
def low (x y : Nat) : Nat × Nat := if y < x then (y, x) else (x, y)
def callL (ns : List Nat) (p : Nat × Nat) : Nat × Nat := low (ns.getD p.1 0) (ns.getD p.2 0)
theorem low_mem (x y : Nat) : ∀ e, (e = (low x y).1 ∨ e = (low x y).2) ↔ (e = x ∨ e = y) := by
  intro e
  unfold low
  split
  · exact Or.comm
  · exact Iff.rfl
theorem ends_map (ns : List Nat) : ∀ ps : List (Nat × Nat), (ends (ps.map (callL ns))).Perm ((ends ps).map fun e => ns.getD e 0)
  | [] => .refl _
  | p :: r => by
    have ih := ends_map ns r
    show ((callL ns p).1 :: (callL ns p).2 :: ends (r.map (callL ns))).Perm (ns.getD p.1 0 :: ns.getD p.2 0 :: (ends r).map fun e => ns.getD e 0)
    unfold callL low
    split
    · exact (List.Perm.swap _ _ _).trans (.cons _ (.cons _ ih))
    · exact .cons _ (.cons _ ih)
theorem nodup_map_on {α β : Type} {f : α → β} : ∀ {l : List α}, (∀ x ∈ l, ∀ y ∈ l, f x = f y → x = y) → l.Nodup → (l.map f).Nodup
  | [], _, _ => List.nodup_nil
  | a :: r, h, hn => by
    obtain ⟨h1, h2⟩ := List.nodup_cons.mp hn
    refine List.nodup_cons.mpr ⟨fun m => ?_, nodup_map_on (fun x hx y hy => h x (List.mem_cons.mpr (.inr hx)) y (List.mem_cons.mpr (.inr hy))) h2⟩
    obtain ⟨y, hy, e⟩ := List.mem_map.mp m
    have := h y (List.mem_cons.mpr (.inr hy)) a (List.mem_cons.mpr (.inl rfl)) e
    exact h1 (this ▸ hy)
theorem called_lines {n : Nat} {ps : List (Nat × Nat)} {ns : List Nat} (L : Lines n ps) (c : Called n ns) : Lines n (ps.map (callL ns)) := by
  have hp := ends_map ns ps
  refine ⟨by rw [List.length_map]; exact L.len, hp.nodup_iff.mpr (nodup_map_on (fun x hx y hy e => c.inj (L.lt x hx) (L.lt y hy) e) L.nd), fun e he => ?_⟩
  obtain ⟨x, hx, rfl⟩ := List.mem_map.mp (hp.mem_iff.mp he)
  exact c.lt (L.lt x hx)
theorem called_whole {n : Nat} {ps : List (Nat × Nat)} {ns : List Nat} (hn : 0 < n) (L : Lines n ps) (w : Whole n ps) (c : Called n ns) : Whole n (ps.map (callL ns)) := by
  intro P hP h0 x hx
  have clo : ∀ p ∈ ps, P (ns.getD (4 * (p.1 / 4)) 0 / 4) ↔ P (ns.getD (4 * (p.2 / 4)) 0 / 4) := by
    intro p m
    have l1 := L.lt p.1 (mem_ends.mpr ⟨p, m, .inl rfl⟩)
    have l2 := L.lt p.2 (mem_ends.mpr ⟨p, m, .inr rfl⟩)
    rw [c.blk (4 * (p.1 / 4)) p.1 (by omega) l1 (by omega), c.blk (4 * (p.2 / 4)) p.2 (by omega) l2 (by omega)]
    have q := hP (callL ns p) (List.mem_map.mpr ⟨p, m, rfl⟩)
    unfold callL low at q
    split at q
    · exact q.symm
    · exact q
  obtain ⟨i, hi, ei⟩ := c.onto (x := 0) (by omega)
  obtain ⟨j, hj, ej⟩ := c.onto (x := 4 * x) (by omega)
  have start : P (ns.getD (4 * (i / 4)) 0 / 4) := by
    rw [c.blk (4 * (i / 4)) i (by omega) hi (by omega), ei]
    exact h0
  have all := w.from (P := fun k => P (ns.getD (4 * k) 0 / 4)) clo (a := i / 4) (by omega) start (c := j / 4) (by omega)
  have all : P (ns.getD (4 * (j / 4)) 0 / 4) := all
  rw [c.blk (4 * (j / 4)) j (by omega) hj (by omega), ej] at all
  rw [show 4 * x / 4 = x by omega] at all
  exact all
/-- pairs in order -/
def ltP (p q : Nat × Nat) : Prop := p.1 < q.1 ∨ (p.1 = q.1 ∧ p.2 < q.2)
def leP (p q : Nat × Nat) : Prop := p.1 < q.1 ∨ (p.1 = q.1 ∧ p.2 ≤ q.2)
/-- a yard of n crossings -/
structure Yard (n : Nat) (L : List (Nat × Nat)) : Prop where
  pos : 0 < n
  lines : Lines n L
  whole : Whole n L
  up : L.Pairwise ltP
  low : ∀ p ∈ L, p.1 < p.2
theorem nodup_firsts : ∀ {L : List (Nat × Nat)}, (ends L).Nodup → L.Pairwise fun p q => p.1 ≠ q.1 ∧ p.1 ≠ q.2 ∧ p.2 ≠ q.1 ∧ p.2 ≠ q.2
  | [], _ => .nil
  | p :: r, h => by
    have h : (p.1 :: p.2 :: ends r).Nodup := h
    obtain ⟨h1, h2⟩ := List.nodup_cons.mp h
    obtain ⟨h3, h4⟩ := List.nodup_cons.mp h2
    refine List.pairwise_cons.mpr ⟨fun q hq => ?_, nodup_firsts h4⟩
    have m1 : q.1 ∈ ends r := mem_ends.mpr ⟨q, hq, .inl rfl⟩
    have m2 : q.2 ∈ ends r := mem_ends.mpr ⟨q, hq, .inr rfl⟩
    exact ⟨fun e => h1 (List.mem_cons.mpr (.inr (e ▸ m1))), fun e => h1 (List.mem_cons.mpr (.inr (e ▸ m2))), fun e => h3 (e ▸ m1), fun e => h3 (e ▸ m2)⟩
theorem nodup_pair : ∀ {L : List (Nat × Nat)}, (ends L).Nodup → ∀ p ∈ L, p.1 ≠ p.2
  | p :: r, h, q, m => by
    have h : (p.1 :: p.2 :: ends r).Nodup := h
    obtain ⟨h1, h2⟩ := List.nodup_cons.mp h
    rcases List.mem_cons.mp m with e | m
    · subst e
      exact fun e => h1 (List.mem_cons.mpr (.inl e))
    · exact nodup_pair (List.nodup_cons.mp h2).2 q m
/-- lines with the lesser ends ahead, sorted, are a yard -/
theorem yard_of_sorted {n : Nat} {L M : List (Nat × Nat)} (hn : 0 < n) (hL : Lines n L) (w : Whole n L) (hl : ∀ p ∈ L, p.1 ≤ p.2) (hp : M.Perm L) (hs : M.Pairwise leP) : Yard n M := by
  have hM := hL.perm hp.symm
  refine ⟨hn, hM, w.perm hp.symm, ?_, fun p m => ?_⟩
  · refine (hs.and (nodup_firsts hM.nd)).imp ?_
    rintro p q ⟨h1, h2, _⟩
    rcases h1 with h1 | ⟨h1, _⟩
    · exact .inl h1
    · exact absurd h1 h2
  · have h1 := hl p (hp.mem_iff.mp m)
    have h2 := nodup_pair hM.nd p m
    omega
theorem low_le (x y : Nat) : (low x y).1 ≤ (low x y).2 := by
  unfold low
  split <;> simp <;> omega
theorem called_yard {n : Nat} {ps M : List (Nat × Nat)} {ns : List Nat} (g : Grown n ps) (c : Called n ns) (hp : M.Perm (ps.map (callL ns))) (hs : M.Pairwise leP) : Yard n M :=
  yard_of_sorted g.pos (called_lines g.lines c) (called_whole g.pos g.lines g.whole c) (fun p m => by
    obtain ⟨q, _, rfl⟩ := List.mem_map.mp m
    exact low_le _ _) hp hs
/-! ### the calling, block by block -/
def blocks : List (Nat × List Nat) → List Nat
  | [] => []
  | b :: r => b.2.map (fun p => 4 * b.1 + p) ++ blocks r
theorem blocks_snoc : ∀ (l : List (Nat × List Nat)) (b : Nat × List Nat), blocks (l ++ [b]) = blocks l ++ b.2.map (fun p => 4 * b.1 + p)
  | [], b => by simp [blocks]
  | a :: r, b => by simp [blocks, blocks_snoc r b]
theorem blocks_len : ∀ {l : List (Nat × List Nat)}, (∀ b ∈ l, b.2.length = 4) → (blocks l).length = 4 * l.length
  | [], _ => rfl
  | a :: r, h => by
    have h1 := h a (List.mem_cons.mpr (.inl rfl))
    have h2 := blocks_len (l := r) fun b hb => h b (List.mem_cons.mpr (.inr hb))
    simp [blocks, h1, h2]
    omega
theorem blocks_get : ∀ {l : List (Nat × List Nat)}, (∀ b ∈ l, b.2.Perm [0, 1, 2, 3]) → ∀ i, i < 4 * l.length → ∃ b ∈ l, l[i / 4]? = some b ∧ (blocks l).getD i 0 / 4 = b.1
  | [], _, i, hi => by simp at hi
  | a :: r, h, i, hi => by
    have ha := h a (List.mem_cons.mpr (.inl rfl))
    have hlen : (a.2.map (fun p => 4 * a.1 + p)).length = 4 := by rw [List.length_map, ha.length_eq]; rfl
    by_cases hi4 : i < 4
    · refine ⟨a, List.mem_cons.mpr (.inl rfl), by rw [show i / 4 = 0 by omega]; rfl, ?_⟩
      have hx : i < a.2.length := by rw [ha.length_eq]; exact hi4
      have hm := ha.mem_iff.mp (List.getElem_mem hx)
      have e : (blocks (a :: r)).getD i 0 = 4 * a.1 + a.2[i] := by
        show (a.2.map (fun p => 4 * a.1 + p) ++ blocks r).getD i 0 = _
        rw [List.getD_eq_getElem?_getD, List.getElem?_append_left (by rw [hlen]; exact hi4), List.getElem?_map, List.getElem?_eq_getElem hx]
        rfl
      rw [e]
      simp at hm
      omega
    · have hi' : i - 4 < 4 * r.length := by simp at hi; omega
      obtain ⟨b, hb, h1, h2⟩ := blocks_get (l := r) (fun b hb => h b (List.mem_cons.mpr (.inr hb))) (i - 4) hi'
      refine ⟨b, List.mem_cons.mpr (.inr hb), ?_, ?_⟩
      · rw [show i / 4 = (i - 4) / 4 + 1 by omega]
        exact h1
      · have e : (blocks (a :: r)).getD i 0 = (blocks r).getD (i - 4) 0 := by
          show (a.2.map (fun p => 4 * a.1 + p) ++ blocks r).getD i 0 = _
          rw [List.getD_eq_getElem?_getD, List.getElem?_append_right (by rw [hlen]; omega), hlen, List.getD_eq_getElem?_getD]
        rw [e]
        exact h2
theorem blocks_perm : ∀ {l m : List (Nat × List Nat)}, l.Perm m → (blocks l).Perm (blocks m) := fun h => by
  induction h with
  | nil => exact .refl _
  | cons x _ ih => exact List.Perm.append_left _ ih
  | swap x y l =>
    show (y.2.map (fun p => 4 * y.1 + p) ++ (x.2.map (fun p => 4 * x.1 + p) ++ blocks l)).Perm (x.2.map (fun p => 4 * x.1 + p) ++ (y.2.map (fun p => 4 * y.1 + p) ++ blocks l))
    rw [← List.append_assoc, ← List.append_assoc]
    exact List.Perm.append_right _ List.perm_append_comm
  | trans _ _ i j => exact i.trans j
theorem blocks_std : ∀ (l : List (Nat × List Nat)), (∀ b ∈ l, b.2.Perm [0, 1, 2, 3]) → (blocks l).Perm (blocks (l.map fun b => (b.1, [0, 1, 2, 3])))
  | [], _ => .refl _
  | a :: r, h => List.Perm.append (List.Perm.map _ (h a (List.mem_cons.mpr (.inl rfl)))) (blocks_std r fun b hb => h b (List.mem_cons.mpr (.inr hb)))
theorem blocks_range : ∀ n : Nat, blocks ((List.range n).map fun c => (c, [0, 1, 2, 3])) = List.range (4 * n)
  | 0 => rfl
  | n + 1 => by
    rw [List.range_succ, List.map_append, List.map_cons, List.map_nil, blocks_snoc, blocks_range n, show 4 * (n + 1) = 4 * n + 4 by omega]
    rw [show 4 * n + 4 = (4 * n + 3) + 1 by omega, List.range_succ, show 4 * n + 3 = (4 * n + 2) + 1 by omega, List.range_succ, show 4 * n + 2 = (4 * n + 1) + 1 by omega, List.range_succ, List.range_succ]
    simp
theorem called_of_blocks {n : Nat} {l : List (Nat × List Nat)} (hp : (l.map Prod.fst).Perm (List.range n)) (hb : ∀ b ∈ l, b.2.Perm [0, 1, 2, 3]) : Called n (blocks l) := by
  have hlen : l.length = n := by rw [← List.length_map (f := Prod.fst) (as := l), hp.length_eq, List.length_range]
  refine ⟨?_, fun i j hi hj e => ?_⟩
  · refine (blocks_std l hb).trans ?_
    rw [← blocks_range n]
    refine blocks_perm ?_
    rw [show (fun b : Nat × List Nat => (b.1, [0, 1, 2, 3])) = (fun c => (c, [0, 1, 2, 3])) ∘ Prod.fst from rfl, ← List.map_map]
    exact List.Perm.map _ hp
  · obtain ⟨b, _, h1, h2⟩ := blocks_get hb i (by rw [hlen]; exact hi)
    obtain ⟨d, _, h3, h4⟩ := blocks_get hb j (by rw [hlen]; exact hj)
    rw [e, h3] at h1
    cases h1
    rw [h2, h4]
end One
end P_M2

section P_D5
set_option linter.all false
set_option maxRecDepth 100000
set_option maxHeartbeats 4000000
namespace One
open PySem PySem.Spec PyProof.Rows L2
/-- a def that is called by its name -/
structure Cal (K : PySem.W.Frag) (mg : Str → Option Value) (x : Str) (f : Addr) (fd : FuncData) (ps : List Str) : Prop where
  g : mg x = some (.ref f)
  kp : PySem.W.keepIn K (.ref f) = true
  b : Binds K fd ps []
/-- at a stands the pair p -/
def PAt (H : Hp) (a : Addr) (p : Nat × Nat) : Prop := H a = some (.tup [.int (p.1 : Nat), .int (p.2 : Nat)])
/-- at these addresses stand these pairs -/
inductive PL (H : Hp) : List Addr → List (Nat × Nat) → Prop
  | nil : PL H [] []
  | cons {a p as ps} : PAt H a p → PL H as ps → PL H (a :: as) (p :: ps)
theorem PL.len {H : Hp} {as : List Addr} {ps : List (Nat × Nat)} (h : PL H as ps) : as.length = ps.length := by
  induction h with
  | nil => rfl
  | cons _ _ ih => simp [ih]
theorem PL.get {H : Hp} {as : List Addr} {ps : List (Nat × Nat)} (h : PL H as ps) : ∀ {i : Nat} {p : Nat × Nat}, ps[i]? = some p → ∃ a, as[i]? = some a ∧ PAt H a p := by
  induction h with
  | nil => intro i p e; simp at e
  | cons h1 _ ih =>
    intro i p e
    cases i with
    | zero =>
      have e := Option.some.inj e
      subst e
      exact ⟨_, rfl, h1⟩
    | succ i => exact ih (i := i) (by simpa using e)
theorem PL.got {H : Hp} {as : List Addr} {ps : List (Nat × Nat)} (h : PL H as ps) : ∀ {i : Nat} {a : Addr}, as[i]? = some a → ∃ p, ps[i]? = some p ∧ PAt H a p := by
  induction h with
  | nil => intro i p e; simp at e
  | cons h1 _ ih =>
    intro i p e
    cases i with
    | zero =>
      have e := Option.some.inj e
      subst e
      exact ⟨_, rfl, h1⟩
    | succ i => exact ih (i := i) (by simpa using e)
theorem PL.app {H : Hp} {as bs : List Addr} {ps qs : List (Nat × Nat)} (h : PL H as ps) (k : PL H bs qs) : PL H (as ++ bs) (ps ++ qs) := by
  induction h with
  | nil => exact k
  | cons h1 _ ih => exact .cons h1 ih
theorem PL.mono {H H' : Hp} {as : List Addr} {ps : List (Nat × Nat)} (h : PL H as ps) (k : ∀ b xs, H b = some (.tup xs) → H' b = some (.tup xs)) : PL H' as ps := by
  induction h with
  | nil => exact .nil
  | cons h1 _ ih => exact .cons (k _ _ h1) ih
theorem PL.keep {H : Hp} {as : List Addr} {ps : List (Nat × Nat)} (h : PL H as ps) (f : Nat → Bool) : ∀ k, PL H (keepIx f k as) (keepIx f k ps) := by
  induction h with
  | nil => intro k; exact .nil
  | cons h1 _ ih =>
    intro k
    unfold keepIx
    split
    · exact .cons h1 (ih _)
    · exact ih _
theorem tupK {p c : Addr} {H H' : Hp} {n : Nat} (M : MS H p c n) (e : Ext p H H') : ∀ b xs, H b = some (.tup xs) → H' b = some (.tup xs) := fun b xs h => by
  obtain ⟨cells, a, l, x, h1, _⟩ := M.ex
  exact e b _ (ne_of h h1 (by intro z; cases z)) h
theorem sameT {H H' : Hp} (e : Same H H') : ∀ b xs, H b = some (.tup xs) → H' b = some (.tup xs) := fun b xs h => e b _ h
theorem Same.new {H : Hp} {q : Addr} {o : HO} (h : H q = none) : Same H (upd H q o) := fun b u e => by
  rw [upd_ne (ne_of_none e h)]
  exact e
abbrev refs (as : List Addr) : List V := as.map V.ref
/-- a display of two pairs of written numbers -/
theorem rd_two {a b c d : Int} {σ : L2.St} {H : Hp} {Q : VK} (h : ∀ (H' : Hp) (l t1 t2 : Addr), Same H H' → H' l = some (.lst [.ref t1, .ref t2]) → H' t1 = some (.tup [.int a, .int b]) → H' t2 = some (.tup [.int c, .int d]) → Q (.ref l) H') :
    tLst (tCons (tTup (tCons (tC (.int a)) (tCons (tC (.int b)) tNil))) (tCons (tTup (tCons (tC (.int c)) (tCons (tC (.int d)) tNil))) tNil)) σ H Q := by
  refine ⟨by show 2 ≤ sizeLine; decide, fun t1 h1 => ⟨by show 2 ≤ sizeLine; decide, fun t2 h2 => ⟨by show 2 ≤ sizeLine; decide, fun l hl => ?_⟩⟩⟩
  have s1 := Same.new (o := .tup [.int a, .int b]) h1
  have s2 := Same.new (o := .tup [.int c, .int d]) h2
  have s3 := Same.new (o := .lst [.ref t1, .ref t2]) hl
  exact h _ l t1 t2 (s1.trans (s2.trans s3)) upd_same (s3 _ _ (s2 _ _ upd_same)) (s3 _ _ upd_same)
end One
end P_D5

section P_D6
set_option linter.all false
set_option maxRecDepth 100000
set_option maxHeartbeats 4000000
namespace One
open PySem PySem.Spec PyProof.Rows L2
abbrev sGrown : Stmt := top 31
abbrev nGrown : List Str := ["m", "many", "found", "crossing", "one", "other", "first", "begin", "end", "fresh", "start", "stop", "k", "line"]
theorem scGrown : FnScope nGrown ["m", "many"] (defScope sGrown) := ⟨rfl, rfl, rfl, by decide +kernel, rfl, by decide +kernel, by decide +kernel⟩
def spGrown : Sp := fun vs H Q _ => ∃ (p c : Addr) (n many : Nat), vs = [.ref p, .int (many : Nat)] ∧ MS H p c n ∧ n ≤ 900000 ∧ 0 < many ∧ many ≤ 40 ∧
  ∀ (H' : Hp) (L : Addr) (as : List Addr) (ps : List (Nat × Nat)), MS H' p c (n + 2 * many) → Ext p H H' → H' L = some (.lst (refs as)) → PL H' as ps → Grown many ps → Q (.ref L) H'
theorem two_le : 2 ≤ sizeLine := by decide
/-- two tuples and a list of both, made one behind another -/
theorem made_two {H : Hp} {t1 t2 l : Addr} {x y : List V} {zs : List V} (h1 : H t1 = none) (h2 : upd H t1 (.tup x) t2 = none) (h3 : upd (upd H t1 (.tup x)) t2 (.tup y) l = none) :
    ∃ H', H' = upd (upd (upd H t1 (.tup x)) t2 (.tup y)) l (.lst zs) ∧ Same H H' ∧ H' l = some (.lst zs) ∧ H' t1 = some (.tup x) ∧ H' t2 = some (.tup y) := by
  have s1 := Same.new (o := .tup x) h1
  have s2 := Same.new (o := .tup y) h2
  have s3 := Same.new (o := .lst zs) h3
  exact ⟨_, rfl, s1.trans (s2.trans s3), upd_same, s3 _ _ (s2 _ _ upd_same), s3 _ _ upd_same⟩
theorem PAt.of {H : Hp} {t : Addr} {x y : Int} {a b : Nat} (h : H t = some (.tup [.int x, .int y])) (hx : x = (a : Nat)) (hy : y = (b : Nat)) : PAt H t (a, b) := by
  subst hx hy
  exact h
theorem refs_app (a b : List Addr) : refs (a ++ b) = refs a ++ refs b := List.map_append
theorem in_two (j j1 j2 : Nat) : (!inV (V.int (j : Nat)) [V.int (j1 : Nat), V.int (j2 : Nat)]) = notIJ j1 j2 j := by
  unfold inV notIJ
  simp only [List.any_cons, List.any_nil, Bool.or_false]
  have e : ∀ k : Nat, eqV (V.int (k : Nat)) (V.int (j : Nat)) = decide (j = k) := by
    intro k
    show ((k : Int) == (j : Int)) = decide (j = k)
    by_cases q : j = k
    · subst q
      simp
    · have q' : ¬ (k : Int) = (j : Int) := by omega
      simp [q, q']
  rw [e, e, Bool.not_or]
theorem MS.neL {H : Hp} {p c L : Addr} {n : Nat} {xs : List V} (M : MS H p c n) (h : H L = some (.lst xs)) : L ≠ p := fun z => by
  obtain ⟨cells, a, l, x, q, _⟩ := M.ex
  rw [z, q] at h
  cases h
theorem ref_at {as : List Addr} {i : Nat} {a : Addr} (h : as[i]? = some a) : atI (refs as) (i : Nat) = some (.ref a) := at_of (j := i) rfl (by rw [List.getElem?_map, h]; rfl)
section
variable {P : Program} {w : World} {K : PySem.W.Frag} {mg : Str → Option Value} {base : Heap}
theorem ok_grown {f fD : Addr} {fd fdD : FuncData} (F : Fun K "_law_grown" "_law_grown" sGrown f fd) (T : TB mg) (D : Cal K mg "_law_draw" fD fdD ["m", "many"])
    (GD : FnOk P w K mg base CX0 1 fD fdD ["m", "many"] spDraw) : FnOk P w K mg base CX0 2 f fd ["m", "many"] spGrown := by
  refine F.ok scGrown (fun vs H Q E h => ?_) (fun cdv A outer s H vs Q E hr h => ?_)
  · obtain ⟨p, c, n, many, rfl, _⟩ := h
    rfl
  · obtain ⟨p, c, n, many, rfl, M, hn, h0, h40, k⟩ := h
    have hu := hu_of hr
    have nd := scGrown.nd
    refine ⟨_, pss_cons (ps_set (i := 2) nd rfl (Or.inl rfl) (pe_mid (pe_ix ix_list (pe_lst (pa_cons (pe_lst (pa_cons (pe_tup (pa_cons pe_int (pa_cons pe_int pa_nil))) (pa_cons (pe_tup (pa_cons pe_int (pa_cons pe_int pa_nil))) pa_nil)))
        (pa_cons (pe_lst (pa_cons (pe_tup (pa_cons pe_int (pa_cons pe_int pa_nil))) (pa_cons (pe_tup (pa_cons pe_int (pa_cons pe_int pa_nil))) pa_nil)))
        (pa_cons (pe_lst (pa_cons (pe_tup (pa_cons pe_int (pa_cons pe_int pa_nil))) (pa_cons (pe_tup (pa_cons pe_int (pa_cons pe_int pa_nil))) pa_nil))) pa_nil))))
        (pe_call GD hr rfl D.g D.kp D.b .nil pass0 (pa_cons (pv 0) (pa_cons pe_int pa_nil))) (fun _ _ => rfl))))
      (pss_cons (ps_for PassesOwn.never rfl (pi_range2 (by rfl) T.range (pa_cons pe_int (pa_cons (pv 1) pa_nil))) (pg_name (i := 3) nd rfl (Or.inl rfl))
        (pss_cons (ps_asg (pe_tup (pa_cons (pe_call GD hr rfl D.g D.kp D.b .nil pass0 (pa_cons (pv 0) (pa_cons (pe_callB call_len_seq (by rfl) T.len PySem.boot_len (pa_cons (pv 2) pa_nil)) pa_nil)))
            (pa_cons (pe_call GD hr rfl D.g D.kp D.b .nil pass0 (pa_cons (pv 0) (pa_cons (pe_callB call_len_seq (by rfl) T.len PySem.boot_len (pa_cons (pv 2) pa_nil)) pa_nil)))
            (pa_cons (pe_op op_mul pe_int (pv 3)) pa_nil)))) (pg_tup rfl (pgs_cons (pg_name (i := 4) nd rfl (Or.inr rfl)) (pgs_cons (pg_name (i := 5) nd rfl (Or.inr rfl)) (pgs_cons (pg_name (i := 6) nd rfl (Or.inl rfl)) pgs_nil)))))
        (pss_cons (ps_asg (pe_ix ix_list (pv 2) (pv 4) (fun _ _ => rfl)) (pg_tup rfl (pgs_cons (pg_name (i := 7) nd rfl (Or.inl rfl)) (pgs_cons (pg_name (i := 8) nd rfl (Or.inl rfl)) pgs_nil))))
        (pss_cons (ps_set (i := 9) nd rfl (Or.inl rfl) (pe_lst (pa_cons (pe_tup (pa_cons (pv 7) (pa_cons (pv 6) pa_nil))) (pa_cons (pe_tup (pa_cons (pe_op op_add (pv 6) pe_int) (pa_cons (pe_op op_add (pv 6) pe_int) pa_nil))) (pa_cons (pe_tup (pa_cons (pv 8) (pa_cons (pe_op op_add (pv 6) pe_int) pa_nil))) pa_nil)))))
        (C8.pss_cut (ps_if (pt_cmpR op_ne (pv 4) (pv 5) (nomark _))
            (pss_cons (ps_asg (pe_ix ix_list (pv 2) (pv 5) (fun _ _ => rfl)) (pg_tup rfl (pgs_cons (pg_name (i := 10) nd rfl (Or.inl rfl)) (pgs_cons (pg_name (i := 11) nd rfl (Or.inl rfl)) pgs_nil))))
              (pss_one (ps_set (i := 9) nd rfl (Or.inl rfl) (pe_lst (pa_cons (pe_tup (pa_cons (pv 7) (pa_cons (pv 6) pa_nil))) (pa_cons (pe_tup (pa_cons (pv 8) (pa_cons (pe_op op_add (pv 6) pe_int) pa_nil))) (pa_cons (pe_tup (pa_cons (pv 10) (pa_cons (pe_op op_add (pv 6) pe_int) pa_nil))) (pa_cons (pe_tup (pa_cons (pv 11) (pa_cons (pe_op op_add (pv 6) pe_int) pa_nil))) pa_nil))))))))
            pss_nil)
        (pss_one (ps_set (i := 2) nd rfl (Or.inl rfl) (pe_op op_cat (pe_lc (own := [("k", 12), ("line", 13)]) (g := gTup K 2 (gCons (gName 12) (gCons (gName 13) gNil))) (tt := tTest (tOp (rIn K true) (tVar 12) (tTup (tCons (tVar 4) (tCons (tVar 5) tNil))))) rfl nd (pi_enum (by rfl) T.enumerate (pa_cons (pv 2) pa_nil)) (blkOk_by (N := nGrown) (sc := defScope sGrown) (by decide +kernel))
            (fun _ _ _ _ _ => pg_tup rfl (pgs_cons (pg_name (i := 12) nd rfl (Or.inl rfl)) (pgs_cons (pg_name (i := 13) nd rfl (Or.inl rfl)) pgs_nil)))
            (fun _ _ _ _ _ => pts_one (pt_cmpR op_notIn_seq (pv 12) (pe_tup (pa_cons (pv 4) (pa_cons (pv 5) pa_nil))) (by rfl))) (fun _ _ _ _ _ => pv 13)) (pv 9)))))))))
      (pss_one (ps_ret (pv 2)))), ?_⟩
    refine ⟨fun v H1 => ∃ (L : Addr) (as : List Addr) (ps : List (Nat × Nat)), v = .ref L ∧ MS H1 p c (n + 1) ∧ Ext p H H1 ∧ H1 L = some (.lst (refs as)) ∧ PL H1 as ps ∧ Grown 1 ps, ?_, ?_⟩
    · refine ⟨two_le, fun t1 ht1 => ⟨two_le, fun u1 hu1 => ⟨two_le, fun l1 hl1 => ?_⟩⟩⟩
      obtain ⟨H1, eH1, s1, a1, b1, c1⟩ := made_two ht1 hu1 hl1
      rw [← eH1]
      refine ⟨two_le, fun t2 ht2 => ⟨two_le, fun u2 hu2 => ⟨two_le, fun l2 hl2 => ?_⟩⟩⟩
      obtain ⟨H2, eH2, s2, a2, b2, c2⟩ := made_two ht2 hu2 hl2
      rw [← eH2]
      refine ⟨two_le, fun t3 ht3 => ⟨two_le, fun u3 hu3 => ⟨two_le, fun l3 hl3 => ?_⟩⟩⟩
      obtain ⟨H3, eH3, s3, a3, b3, c3⟩ := made_two ht3 hu3 hl3
      rw [← eH3]
      refine ⟨by show 3 ≤ sizeLine; decide, fun l hl => ?_⟩
      have s4 := Same.new (o := .lst [.ref l1, .ref l2, .ref l3]) hl
      have M4 := M.keep (s1.trans (s2.trans (s3.trans s4)))
      refine ⟨_, rfl, p, c, n, 3, rfl, M4, by omega, by decide, by decide, fun H' r M' B r0 r3 => ?_⟩
      have npl : l ≠ p := fun z => by
        obtain ⟨o, ho⟩ := M.there
        have := (s1.trans (s2.trans s3)) _ _ ho
        rw [← z, hl] at this
        cases this
      have e' : Ext p H H' := (Ext.same (s1.trans (s2.trans (s3.trans s4)))).trans B.ext
      have hL' : H' l = some (.lst [.ref l1, .ref l2, .ref l3]) := (B l npl).trans upd_same
      have keepT : ∀ b xs, H3 b = some (.tup xs) → H' b = some (.tup xs) := fun b xs h => tupK M4 B.ext b xs (s4 _ _ h)
      have keepL : ∀ b xs, H3 b = some (.lst xs) → H' b = some (.lst xs) := fun b xs h => (B b fun z => by
        obtain ⟨cells, a, l0, x, q, _⟩ := (M.keep (s1.trans (s2.trans s3))).ex
        rw [z, q] at h
        cases h).trans (s4 _ _ h)
      have r012 : r = 0 ∨ r = 1 ∨ r = 2 := by omega
      rcases r012 with rfl | rfl | rfl
      · exact ⟨l, _, _, _, rfl, rfl, SqL.of hL', rfl, l1, [t1, u1], [(0, 1), (2, 3)], rfl, M', e', keepL _ _ (s3 _ _ (s2 _ _ a1)), .cons (keepT _ _ (s3 _ _ (s2 _ _ b1))) (.cons (keepT _ _ (s3 _ _ (s2 _ _ c1))) .nil), grown_one (by decide)⟩
      · exact ⟨l, _, _, _, rfl, rfl, SqL.of hL', rfl, l2, [t2, u2], [(0, 2), (1, 3)], rfl, M', e', keepL _ _ (s3 _ _ a2), .cons (keepT _ _ (s3 _ _ b2)) (.cons (keepT _ _ (s3 _ _ c2)) .nil), grown_one (by decide)⟩
      · exact ⟨l, _, _, _, rfl, rfl, SqL.of hL', rfl, l3, [t3, u3], [(0, 3), (1, 2)], rfl, M', e', keepL _ _ a3, .cons (keepT _ _ b3) (.cons (keepT _ _ c3) .nil), grown_one (by decide)⟩
    · rintro v H1 ⟨L, as, ps, rfl, M1, e1, hL, hP, G⟩
      refine ⟨_, rfl, 1, many, rfl, ⟨by decide, by decide, by omega, by omega⟩, ?_⟩
      refine for_range (lo := 1) (n := ((many : Int) - 1).toNat) (fun i σ H' => ∃ (L : Addr) (as : List Addr) (ps : List (Nat × Nat)) (v3 v4 v5 v6 v7 v8 v9 v10 v11 : Option V), σ = [some (.ref p), some (.int (many : Nat)), some (.ref L), v3, v4, v5, v6, v7, v8, v9, v10, v11, none, none] ∧
        MS H' p c (n + 1 + 2 * i) ∧ Ext p H H' ∧ H' L = some (.lst (refs as)) ∧ PL H' as ps ∧ Grown (1 + i) ps)
        ⟨L, as, ps, none, none, none, none, none, none, none, none, none, rfl, M1, e1, hL, hP, G⟩ ?_ ?_
      · rintro i σ H' hi ⟨L, as, ps, v3, v4, v5, v6, v7, v8, v9, v10, v11, rfl, M', e', hL', hP', G'⟩
        have hlen : as.length = 2 * (1 + i) := by rw [hP'.len, G'.lines.len]
        have hrl : ((refs as).length : Nat) = 2 * (1 + i) := by rw [List.length_map, hlen]
        have nLp := M'.neL hL'
        refine ⟨_, rfl, _, rfl, L, _, rfl, .inl (SqL.of hL'), p, c, _, _, rfl, M', by omega, by omega, by omega, fun H1 r1 M1 B1 r10 r11 => ?_⟩
        have hL1 : H1 L = some (.lst (refs as)) := (B1 L nLp).trans hL'
        refine ⟨_, rfl, _, rfl, L, _, rfl, .inl (SqL.of hL1), p, c, _, _, rfl, M1, by omega, by omega, by omega, fun H2 r2 M2 B2 r20 r21 => ?_⟩
        have hL2 : H2 L = some (.lst (refs as)) := (B2 L nLp).trans hL1
        have hP2 : PL H2 as ps := hP'.mono fun b xs h => tupK M1 B2.ext b xs (tupK M' B1.ext b xs h)
        have e2 : Ext p H H2 := e'.trans (B1.ext.trans B2.ext)
        obtain ⟨j1, rfl⟩ : ∃ j : Nat, r1 = (j : Nat) := ⟨r1.toNat, by omega⟩
        obtain ⟨j2, rfl⟩ : ∃ j : Nat, r2 = (j : Nat) := ⟨r2.toNat, by omega⟩
        refine ⟨_, rfl, _, _, rfl, rfl, .inl ⟨by decide, by decide⟩, (by show 3 ≤ sizeLine; decide), fun t ht => ?_⟩
        have s3 := Same.new (o := .tup [V.int (j1 : Nat), V.int (j2 : Nat), V.int (4 * (1 + (i : Nat)))]) ht
        have M3 := M2.keep s3
        have hL3 := s3 _ _ hL2
        have hP3 := hP2.mono (sameT s3)
        have h1 : j1 < ps.length := by rw [← hP'.len]; omega
        have h2 : j2 < ps.length := by rw [← hP'.len]; omega
        obtain ⟨A1, hA1⟩ : ∃ a, ps[j1]? = some a := ⟨_, List.getElem?_eq_getElem h1⟩
        obtain ⟨B1', hB1⟩ : ∃ a, ps[j2]? = some a := ⟨_, List.getElem?_eq_getElem h2⟩
        obtain ⟨a1, ha1, pa1⟩ := hP3.get hA1
        refine ⟨t, _, rfl, SqT.of upd_same, rfl, _, _, rfl, _, _, rfl, _, _, rfl, rfl, ?_⟩
        refine ⟨_, rfl, _, rfl, L, _, _, _, rfl, rfl, SqL.of hL3, ref_at ha1, a1, _, rfl, SqT.of pa1, rfl, _, _, rfl, _, _, rfl, rfl, ?_⟩
        refine ⟨_, rfl, _, rfl, two_le, fun t1 ht1 => ⟨_, rfl, _, _, rfl, rfl, _, rfl, _, _, rfl, rfl, two_le, fun t2 ht2 => ⟨_, rfl, _, rfl, _, _, rfl, rfl, two_le, fun t3 ht3 => ⟨(by show 3 ≤ sizeLine; decide), fun l9 hl9 => ?_⟩⟩⟩⟩
        have u1 := Same.new (o := .tup [V.int (A1.1 : Nat), V.int (4 * (1 + (i : Nat)))]) ht1
        have u2 := Same.new (o := .tup [V.int (4 * (1 + (i : Nat)) + 1), V.int (4 * (1 + (i : Nat)) + 2)]) ht2
        have u3 := Same.new (o := .tup [V.int (A1.2 : Nat), V.int (4 * (1 + (i : Nat)) + 3)]) ht3
        have u9 := Same.new (o := .lst [V.ref t1, V.ref t2, V.ref t3]) hl9
        have uA := u1.trans (u2.trans (u3.trans u9))
        refine ⟨fun σ H5 => ∃ (l : Addr) (fa : List Addr) (v10 v11 : Option V), σ = [some (.ref p), some (.int (many : Nat)), some (.ref L), some (.int (1 + (i : Nat))), some (.int (j1 : Nat)), some (.int (j2 : Nat)), some (.int (4 * (1 + (i : Nat)))), some (.int (A1.1 : Nat)), some (.int (A1.2 : Nat)), some (.ref l), v10, v11, none, none] ∧
          MS H5 p c (n + 1 + 2 * i + 1 + 1) ∧ Ext p H H5 ∧ H5 L = some (.lst (refs as)) ∧ PL H5 as ps ∧ H5 l = some (.lst (refs fa)) ∧ PL H5 fa (fresh (1 + i) j1 j2 A1 B1'), ?_, ?_⟩
        · refine ⟨_, rfl, _, rfl, rfl, _, rfl, ?_⟩
          have M5 := M3.keep uA
          have e5 : Ext p H _ := e2.trans (Ext.same (s3.trans uA))
          have hL5 := uA _ _ hL3
          have hP5 := hP3.mono (sameT uA)
          refine ite2 (fun hne => ?_) (fun heq => ?_)
          · have hj : j1 ≠ j2 := fun z => by
              subst z
              simp at hne
            obtain ⟨b1, hb1, pb1⟩ := hP5.get hB1
            refine ⟨_, rfl, _, rfl, L, _, _, _, rfl, rfl, SqL.of hL5, ref_at hb1, b1, _, rfl, SqT.of pb1, rfl, _, _, rfl, _, _, rfl, rfl, ?_⟩
            refine ⟨_, rfl, _, rfl, two_le, fun t4 ht4 => ⟨_, rfl, _, rfl, _, _, rfl, rfl, two_le, fun t5 ht5 => ⟨_, rfl, _, rfl, _, _, rfl, rfl, two_le, fun t6 ht6 => ⟨_, rfl, _, rfl, _, _, rfl, rfl, two_le, fun t7 ht7 => ⟨(by show 4 ≤ sizeLine; decide), fun l8 hl8 => ?_⟩⟩⟩⟩⟩
            have w4 := Same.new (o := .tup [V.int (A1.1 : Nat), V.int (4 * (1 + (i : Nat)))]) ht4
            have w5 := Same.new (o := .tup [V.int (A1.2 : Nat), V.int (4 * (1 + (i : Nat)) + 2)]) ht5
            have w6 := Same.new (o := .tup [V.int (B1'.1 : Nat), V.int (4 * (1 + (i : Nat)) + 1)]) ht6
            have w7 := Same.new (o := .tup [V.int (B1'.2 : Nat), V.int (4 * (1 + (i : Nat)) + 3)]) ht7
            have w8 := Same.new (o := .lst [V.ref t4, V.ref t5, V.ref t6, V.ref t7]) hl8
            have wA := w4.trans (w5.trans (w6.trans (w7.trans w8)))
            refine ⟨l8, [t4, t5, t6, t7], _, _, rfl, M5.keep wA, e5.trans (Ext.same wA), wA _ _ hL5, hP5.mono (sameT wA), upd_same, ?_⟩
            unfold fresh
            rw [if_neg hj]
            exact .cons (PAt.of (w8 _ _ (w7 _ _ (w6 _ _ (w5 _ _ upd_same)))) rfl (by omega)) (.cons (PAt.of (w8 _ _ (w7 _ _ (w6 _ _ upd_same))) rfl (by omega)) (.cons (PAt.of (w8 _ _ (w7 _ _ upd_same)) rfl (by omega)) (.cons (PAt.of (w8 _ _ upd_same) rfl (by omega)) .nil)))
          · have hj : j1 = j2 := by
              have q : (j1 : Int) = (j2 : Int) := by simpa using heq
              omega
            refine ⟨l9, [t1, t2, t3], _, _, rfl, M5, e5, hL5, hP5, upd_same, ?_⟩
            unfold fresh
            rw [if_pos hj]
            exact .cons (PAt.of (u9 _ _ (u3 _ _ (u2 _ _ upd_same))) rfl (by omega)) (.cons (PAt.of (u9 _ _ (u3 _ _ upd_same)) (by omega) (by omega)) (.cons (PAt.of (u9 _ _ upd_same) rfl (by omega)) .nil))
        · rintro σ H5 ⟨l, fa, v10, v11, rfl, M5, e5, hL5, hP5, hl5, hF5⟩
          refine ⟨_, rfl, L, _, rfl, SqL.of hL5, fun D hD => ?_⟩
          have sD := Same.new (o := .lst []) hD
          refine lc_it (walk_enum (K := K) (a := L) (xs := refs as)) (fun j H6 => H6 D = some (.lst (refs (keepIx (notIJ j1 j2) 0 (as.take j)))) ∧ Same H5 H6) ⟨upd_same, sD⟩ (fun j H6 _ h => SqL.of (h.2 _ _ hL5)) ?_ ?_
          · rintro j x H6 H7 hj ⟨hD6, s6⟩ ⟨T, x', y', rfl, hT, rfl, ex, ey⟩
            cases ex
            have hj' : j < as.length := by rw [List.length_map] at hj; exact hj
            have ey : (refs as)[j]? = some y' := ey
            rw [List.getElem?_map, List.getElem?_eq_getElem hj'] at ey
            cases ey
            have s7 := Same.new (o := .tup [V.int (j : Nat), V.ref as[j]]) hT
            refine ⟨T, _, rfl, SqT.of upd_same, rfl, _, _, rfl, _, _, rfl, rfl, rfl, ?_⟩
            refine ⟨_, rfl, _, rfl, _, rfl, two_le, fun q hq => ?_⟩
            have s8 := Same.new (o := .tup [V.int (j1 : Nat), V.int (j2 : Nat)]) hq
            refine ⟨q, _, rfl, .inr (SqT.of upd_same), rfl, rfl, _, rfl, ?_⟩
            have hin := in_two j j1 j2
            have hsn : keepIx (notIJ j1 j2) 0 (as.take (j + 1)) = keepIx (notIJ j1 j2) 0 (as.take j) ++ (if notIJ j1 j2 j then [as[j]] else []) := by
              rw [List.take_succ, List.getElem?_eq_getElem hj', Option.toList_some, keepIx_snoc, List.length_take, Nat.zero_add, Nat.min_eq_left (Nat.le_of_lt hj')]
            have hD8 := s8 _ _ (s7 _ _ hD6)
            have s58 : Same H5 _ := s6.trans (s7.trans s8)
            refine ite2 (fun hb => ?_) (fun hb => ?_)
            · have hb : (!inV (V.int (j : Nat)) [V.int (j1 : Nat), V.int (j2 : Nat)]) = true := hb
              rw [hin] at hb
              refine ⟨_, rfl, _, hD8, small1000 ?_, ?_, ?_⟩
              · rw [List.length_map]
                exact Nat.le_trans (keepIx_length_le _ _ _) (by rw [List.length_take]; omega)
              · rw [upd_same, hsn, if_pos hb, refs_app]
                rfl
              · intro b o h
                have nb : b ≠ D := ne_of_none h hD
                rw [upd_ne nb]
                exact s58 _ _ h
            · have hb : ¬ (!inV (V.int (j : Nat)) [V.int (j1 : Nat), V.int (j2 : Nat)]) = true := hb
              rw [hin] at hb
              refine ⟨?_, s58⟩
              rw [hD8, hsn, if_neg hb, List.append_nil]
          · rintro H6 ⟨hD6, s6⟩
            rw [List.length_map, List.take_length] at hD6
            refine ⟨_, rfl, D, l, _, _, rfl, rfl, hD6, s6 _ _ hl5, Nat.le_of_lt (small1000 ?_), fun L2 hL2 => ?_⟩
            · have q1 := keepIx_length_le (notIJ j1 j2) 0 as
              have q2 := hF5.len
              rw [List.length_map, List.length_map, q2]
              unfold fresh
              split <;> simp <;> omega
            have s9 := Same.new (o := .lst (refs (keepIx (notIJ j1 j2) 0 as) ++ refs fa)) hL2
            have sA := s6.trans s9
            refine ⟨L2, keepIx (notIJ j1 j2) 0 as ++ fa, _, _, _, _, _, _, _, _, _, _, rfl, (M5.keep sA).lt (by omega) (by omega), e5.trans (Ext.same sA), ?_, ((hP5.mono (sameT sA)).keep _ 0).app (hF5.mono (sameT sA)), ?_⟩
            · rw [upd_same, refs_app]
            · rw [show 1 + (i + 1) = (1 + i) + 1 by omega]
              exact G'.put hA1 hB1
      · rintro σ H' ⟨L, as, ps, v3, v4, v5, v6, v7, v8, v9, v10, v11, rfl, M', e', hL', hP', G'⟩
        refine ⟨_, rfl, ?_⟩
        have en : 1 + ((many : Int) - 1).toNat = many := by omega
        rw [en] at G'
        exact k _ L as ps (M'.lt (by omega) (by omega)) e' hL' hP' G'
end
end One
end P_D6

section P_D7
set_option linter.all false
set_option maxRecDepth 100000
set_option maxHeartbeats 4000000
namespace One
open PySem PySem.Spec PyProof.Rows L2
abbrev sCalled : Stmt := top 32
abbrev nCalled : List Str := ["m", "many", "left", "found", "k", "crossing", "places", "j"]
theorem scCalled : FnScope nCalled ["m", "many"] (defScope sCalled) := ⟨rfl, rfl, rfl, by decide +kernel, rfl, by decide +kernel, by decide +kernel⟩
abbrev nats (ns : List Nat) : List V := ns.map fun x => V.int (x : Nat)
theorem nats_app (a b : List Nat) : nats (a ++ b) = nats a ++ nats b := List.map_append
theorem nats_at {ns : List Nat} {i x : Nat} (h : ns[i]? = some x) : (nats ns)[i]? = some (V.int (x : Nat)) := by rw [List.getElem?_map, h]; rfl
theorem nats_erase : ∀ (ns : List Nat) (k : Nat), (nats ns).eraseIdx k = nats (ns.eraseIdx k)
  | [], _ => rfl
  | x :: r, 0 => rfl
  | x :: r, k + 1 => by
    show V.int (x : Nat) :: (nats r).eraseIdx k = V.int (x : Nat) :: nats (r.eraseIdx k)
    rw [nats_erase r k]
theorem nats_range (n : Nat) : rgV 0 (n : Nat) = nats (List.range n) := by
  unfold rgV
  have e : (((n : Nat) : Int) - 0).toNat = n := by omega
  rw [e]
  refine List.map_congr_left fun x _ => ?_
  rw [Int.zero_add]
theorem seq_ix {j n : Nat} (h : j < n) : seqIndex? ((j : Nat) : Int) n = some j := by
  unfold seqIndex?
  simp
  omega
theorem erase_perm : ∀ {l : List Nat} {k x : Nat}, l[k]? = some x → l.Perm (x :: l.eraseIdx k)
  | [], k, x, h => by simp at h
  | y :: r, 0, x, h => by
    have e : y = x := Option.some.inj h
    subst e
    exact .refl _
  | y :: r, k + 1, x, h => (List.Perm.cons y (erase_perm (l := r) (k := k) (by simpa using h))).trans (.swap _ _ _)
theorem MS.cAt {H : Hp} {p c : Addr} {n : Nat} (M : MS H p c n) : ∃ o, H c = some o := by
  obtain ⟨cells, a, l, x, _, h2, _⟩ := M.ex
  exact ⟨_, h2⟩
theorem MS.wr {H : Hp} {p c q : Addr} {n : Nat} {o : HO} (M : MS H p c n) (h1 : q ≠ p) (h2 : q ≠ c) : MS (upd H q o) p c n := by
  obtain ⟨cells, a, l, x, q1, q2, r⟩ := M.ex
  exact ⟨⟨cells, a, l, x, by rw [upd_ne (Ne.symm h1)]; exact q1, by rw [upd_ne (Ne.symm h2)]; exact q2, r⟩, M.nn⟩
theorem Ext.wr {p q : Addr} {H H' : Hp} {o : HO} (e : Ext p H H') (h : H q = none) : Ext p H (upd H' q o) := fun b u hb hu => by
  rw [upd_ne (ne_of_none hu h)]
  exact e b u hb hu
theorem Ext.free {p q : Addr} {H H' : Hp} (e : Ext p H H') (hq : q ≠ p) (h : H' q = none) : H q = none := by
  cases z : H q with
  | none => rfl
  | some o =>
    rw [e q o hq z] at h
    cases h
theorem yes {σ : L2.St} {H : Hp} {A B : Hp → Prop} (h : A H) : tYes σ H (fun b H3 => if b = true then A H3 else B H3) := by
  show if true = true then A H else B H
  rw [if_pos rfl]
  exact h
def rLen (K : PySem.W.Frag) : List V → Hp → VK → Prop := fun xs H Q => ∃ p ys, xs = [.ref p] ∧ (SqL K H p ys ∨ SqT K H p ys) ∧ Q (.int ys.length) H
def spCalled : Sp := fun vs H Q _ => ∃ (p c : Addr) (n many : Nat), vs = [.ref p, .int (many : Nat)] ∧ MS H p c n ∧ n ≤ 900000 ∧ many ≤ 40 ∧
  ∀ (H' : Hp) (L : Addr) (ns : List Nat), MS H' p c (n + 5 * many) → Ext p H H' → H' L = some (.lst (nats ns)) → Called many ns → Q (.ref L) H'
section
variable {P : Program} {w : World} {K : PySem.W.Frag} {mg : Str → Option Value} {base : Heap}
theorem ok_called {f fD : Addr} {fd fdD : FuncData} (F : Fun K "_law_called" "_law_called" sCalled f fd) (T : TB mg) (D : Cal K mg "_law_draw" fD fdD ["m", "many"])
    (GD : FnOk P w K mg base CX0 1 fD fdD ["m", "many"] spDraw) : FnOk P w K mg base CX0 2 f fd ["m", "many"] spCalled := by
  refine F.ok scCalled (fun vs H Q E h => ?_) (fun cdv A outer s H vs Q E hr h => ?_)
  · obtain ⟨p, c, n, many, rfl, _⟩ := h
    rfl
  · obtain ⟨p, c, n, many, rfl, M, hn, h40, k⟩ := h
    have nd := scCalled.nd
    refine ⟨_, pss_cons (ps_par (i := 2) (j := 3) (by rfl) nd rfl rfl (by decide) rfl rfl (pa_cons (pe_listRg (by rfl) (by rfl) T.list (prg_1 (by rfl) T.range (pv 1))) (pa_cons (pe_lst pa_nil) pa_nil)) (by rfl))
      (pss_cons (ps_for PassesOwn.never rfl (pi_range1 (by rfl) T.range (pa_cons (pv 1) pa_nil)) (pg_name (i := 4) nd rfl (Or.inl rfl))
        (pss_cons (ps_asg (pe_tup (pa_cons (pe_bm PySem.F.plainAttrs_list PySem.F.slot_list_pop PySem.F.type_list_pop mt_popAt (pv 2) (pa_cons (pe_call GD hr rfl D.g D.kp D.b .nil pass0 (pa_cons (pv 0) (pa_cons (pe_callB call_len_seq (by rfl) T.len PySem.boot_len (pa_cons (pv 2) pa_nil)) pa_nil))) pa_nil))
            (pa_cons (pe_lst (pa_cons pe_int (pa_cons pe_int (pa_cons pe_int (pa_cons pe_int pa_nil))))) pa_nil))) (pg_tup rfl (pgs_cons (pg_name (i := 5) nd rfl (Or.inr rfl)) (pgs_cons (pg_name (i := 6) nd rfl (Or.inr rfl)) pgs_nil))))
        (pss_one (ps_set (i := 3) nd rfl (Or.inl rfl) (pe_op op_cat (pv 3) (pe_lc (own := [("j", 7)]) (g := gName 7) (tt := tYes) (te := tOp (rI0 fun i j => .int (i + j)) (tOp (rI CMul fun i j => .int (i * j)) (tC (.int 4)) (tVar 5)) (tBM K "list" rPopAt (tVar 6) (tCons (tCall spDraw [] E0 (tCons (tVar 0) (tCons (tCB (rLen K) (tCons (tVar 6) tNil)) tNil))) tNil))) rfl nd (pi_range1 (by rfl) T.range (pa_cons pe_int pa_nil)) (blkOk_by (N := nCalled) (sc := defScope sCalled) (by decide +kernel))
            (fun _ _ _ _ _ => pg_name (i := 7) nd rfl (Or.inl rfl)) (fun _ _ _ _ _ => pts_nil)
            (fun _ _ _ _ _ => pe_op op_add (pe_op op_mul pe_int (pv 5)) (by exact (pe_bm PySem.F.plainAttrs_list PySem.F.slot_list_pop PySem.F.type_list_pop mt_popAt (pv 6) (pa_cons (by exact (pe_call GD hr rfl D.g D.kp D.b .nil pass0 (pa_cons (pv 0) (pa_cons (pe_callB call_len_seq (by rfl) T.len PySem.boot_len (pa_cons (pv 6) pa_nil)) pa_nil)))) pa_nil))))))))))
      (pss_one (ps_ret (pv 3)))), ?_⟩
    refine ⟨_, rfl, many, rfl, RgOk.of_le (Int.le_refl _) (by omega) (by omega) (by omega), fun lf hlf => ⟨Nat.zero_le _, fun fo hfo => ⟨_, _, rfl, ?_⟩⟩⟩
    rw [nats_range] at hfo ⊢
    have s1 := Same.new (o := .lst (nats (List.range many))) hlf
    have s2 := Same.new (o := .lst []) hfo
    refine ⟨_, rfl, many, rfl, by omega, by omega, ?_⟩
    refine for_range (lo := 0) (n := (many : Int).toNat) (fun i σ H' => ∃ (fo : Addr) (left : List Nat) (bl : List (Nat × List Nat)) (v4 v5 v6 : Option V), σ = [some (.ref p), some (.int (many : Nat)), some (.ref lf), some (.ref fo), v4, v5, v6, none] ∧
      MS H' p c (n + 5 * i) ∧ Ext p H H' ∧ H' lf = some (.lst (nats left)) ∧ H' fo = some (.lst (nats (blocks bl))) ∧ (bl.map Prod.fst ++ left).Perm (List.range many) ∧ (∀ b ∈ bl, b.2.Perm [0, 1, 2, 3]) ∧ bl.length = i ∧ fo ≠ lf)
      ⟨fo, List.range many, [], none, none, none, rfl, (M.keep s1).keep s2, Ext.same (s1.trans s2), s2 _ _ upd_same, upd_same, .refl _, fun b hb => absurd hb (by simp), rfl, (ne_of_none upd_same hfo).symm⟩ ?_ ?_
    · rintro i σ H' hi ⟨fo, left, bl, v4, v5, v6, rfl, M', e', hl', hf', hp, hb, hlen, nfl⟩
      have hll : left.length + i = many := by
        have := hp.length_eq
        rw [List.length_append, List.length_map, List.length_range] at this
        omega
      have hi' : i < many := by omega
      have nlp := M'.neL hl'
      have nfp := M'.neL hf'
      have nl : ((nats left).length : Nat) = left.length := List.length_map _
      refine ⟨_, rfl, .inl ⟨rfl, _, SqL.of hl'⟩, _, rfl, _, rfl, lf, _, rfl, .inl (SqL.of hl'), p, c, _, _, rfl, M', by omega, by omega, by omega, fun H1 r1 M1 B1 r10 r11 => ?_⟩
      obtain ⟨j, rfl⟩ : ∃ j : Nat, r1 = (j : Nat) := ⟨r1.toNat, by omega⟩
      have hj : j < left.length := by omega
      obtain ⟨cr, hcr⟩ : ∃ x, left[j]? = some x := ⟨_, List.getElem?_eq_getElem hj⟩
      have hl1 : H1 lf = some (.lst (nats left)) := (B1 lf nlp).trans hl'
      refine ⟨lf, _, _, j, _, rfl, rfl, hl1, by omega, by omega, (by rw [nl]; exact seq_ix hj), nats_at hcr, ?_⟩
      rw [nats_erase]
      have hp0 : ∃ o, H p = some o := M.there
      have nlc : lf ≠ c := by
        obtain ⟨o, ho⟩ := M.cAt
        exact (ne_of_none ho hlf).symm
      have M2 := M1.wr (o := .lst (nats (left.eraseIdx j))) nlp nlc
      have e1 : Ext p H H1 := e'.trans B1.ext
      have e2 : Ext p H (upd H1 lf (.lst (nats (left.eraseIdx j)))) := e1.wr hlf
      have hf2 : (upd H1 lf (.lst (nats (left.eraseIdx j)))) fo = some (.lst (nats (blocks bl))) := by
        rw [upd_ne nfl]
        exact (B1 fo nfp).trans hf'
      refine ⟨by show 4 ≤ sizeLine; decide, fun pl hpl => ⟨two_le, fun t ht => ?_⟩⟩
      have s3 := Same.new (o := .lst [V.int 0, V.int 1, V.int 2, V.int 3]) hpl
      have s4 := Same.new (o := .tup [V.int (cr : Nat), V.ref pl]) ht
      have M4 := (M2.keep s3).keep s4
      refine ⟨t, _, rfl, SqT.of upd_same, rfl, _, _, rfl, _, _, rfl, rfl, ?_⟩
      refine ⟨_, rfl, 4, rfl, by decide, by decide, fun D hD => ?_⟩
      have s5 := Same.new (o := .lst []) hD
      have M5 := M4.keep s5
      have nplp : pl ≠ p := by
        obtain ⟨o, ho⟩ := M2.there
        exact (ne_of_none ho hpl).symm
      have nplc : pl ≠ c := by
        obtain ⟨o, ho⟩ := M2.cAt
        exact (ne_of_none ho hpl).symm
      have hpl0 : H pl = none := e2.free nplp hpl
      have nDp : D ≠ p := by
        obtain ⟨o, ho⟩ := M4.there
        exact (ne_of_none ho hD).symm
      have nDc : D ≠ c := by
        obtain ⟨o, ho⟩ := M4.cAt
        exact (ne_of_none ho hD).symm
      have hDpl : pl ≠ D := ne_of_none (s4 _ _ upd_same) hD
      have hD0 : H D = none := (e2.trans (Ext.same (s3.trans s4))).free nDp hD
      have hlD : lf ≠ D := ne_of_none (s4 _ _ (s3 _ _ upd_same)) hD
      have hfD : fo ≠ D := ne_of_none (s4 _ _ (s3 _ _ hf2)) hD
      have hlpl : lf ≠ pl := ne_of_none upd_same hpl
      have hfpl : fo ≠ pl := ne_of_none hf2 hpl
      refine lc_it (walk_range (lo := 0) (n := (4 : Int).toNat)) (fun jj H6 => ∃ done rest : List Nat, H6 D = some (.lst (nats (done.map (4 * cr + ·)))) ∧ H6 pl = some (.lst (nats rest)) ∧ (done ++ rest).Perm [0, 1, 2, 3] ∧ done.length = jj ∧
          MS H6 p c (n + 5 * i + 1 + jj) ∧ Ext p H H6 ∧ H6 lf = some (.lst (nats (left.eraseIdx j))) ∧ H6 fo = some (.lst (nats (blocks bl))))
        ⟨[], [0, 1, 2, 3], upd_same, s5 _ _ (s4 _ _ upd_same), .refl _, rfl, M5, (e2.trans (Ext.same (s3.trans s4))).trans (Ext.same s5), s5 _ _ (s4 _ _ (s3 _ _ upd_same)), s5 _ _ (s4 _ _ (s3 _ _ hf2))⟩ (fun _ _ _ _ => trivial) ?_ ?_
      · rintro jj x H6 H7 hjj ⟨done, rest, hD6, hp6, hperm, hdl, M6, e6, hl6, hf6⟩ ⟨rfl, rfl⟩
        have hr4 : rest.length + jj = 4 := by
          have := hperm.length_eq
          rw [List.length_append] at this
          simp at this
          omega
        have hjj4 : jj < 4 := hjj
        have nrl : ((nats rest).length : Nat) = rest.length := List.length_map _
        refine ⟨rfl, yes ?_⟩
        refine ⟨_, rfl, _, _, rfl, rfl, .inl ⟨by decide, by decide⟩, _, rfl, .inl ⟨rfl, _, SqL.of hp6⟩, _, rfl, _, rfl, pl, _, rfl, .inl (SqL.of hp6), p, c, _, _, rfl, M6, by omega, by omega, by omega, fun H8 r M8 B8 r0 r1 => ?_⟩
        obtain ⟨q, rfl⟩ : ∃ q : Nat, r = (q : Nat) := ⟨r.toNat, by omega⟩
        have hq : q < rest.length := by omega
        obtain ⟨pc, hpc⟩ : ∃ x, rest[q]? = some x := ⟨_, List.getElem?_eq_getElem hq⟩
        have hp8 : H8 pl = some (.lst (nats rest)) := (B8 pl nplp).trans hp6
        have hD8 : H8 D = some (.lst (nats (done.map (4 * cr + ·)))) := (B8 D nDp).trans hD6
        refine ⟨pl, _, _, q, _, rfl, rfl, hp8, by omega, by omega, (by rw [nrl]; exact seq_ix hq), nats_at hpc, ?_⟩
        rw [nats_erase]
        refine ⟨_, _, rfl, rfl, _, (upd_ne (Ne.symm hDpl)).trans hD8, small1000 ?_, done ++ [pc], rest.eraseIdx q, ?_, ?_, ?_, ?_, ?_, ?_, ?_, ?_⟩
        · rw [List.length_map, List.length_map]
          omega
        · rw [upd_same, List.map_append, nats_app]
          have e : ((4 : Int) * (cr : Nat) + (pc : Nat)) = ((4 * cr + pc : Nat) : Int) := by omega
          show some (HO.lst (_ ++ [V.int ((4 : Int) * (cr : Nat) + (pc : Nat))])) = _
          rw [e]
          rfl
        · rw [upd_ne hDpl, upd_same]
        · refine List.Perm.trans ?_ hperm
          rw [List.append_assoc]
          exact List.Perm.append_left _ (erase_perm hpc).symm
        · rw [List.length_append, hdl]
          rfl
        · exact (M8.wr nplp nplc).wr nDp nDc
        · exact ((e6.trans B8.ext).wr hpl0).wr hD0
        · rw [upd_ne hlD, upd_ne hlpl]
          exact (B8 lf nlp).trans hl6
        · rw [upd_ne hfD, upd_ne hfpl]
          exact (B8 fo nfp).trans hf6
      · rintro H6 ⟨done, rest, hD6, hp6, hperm, hdl, M6, e6, hl6, hf6⟩
        have hrest : rest = [] := by
          have := hperm.length_eq
          rw [List.length_append] at this
          simp at this
          have hdl : done.length = 4 := hdl
          exact List.eq_nil_of_length_eq_zero (by omega)
        subst hrest
        rw [List.append_nil] at hperm
        have M6 : MS H6 p c (n + 5 * i + 1 + 4) := M6
        refine ⟨fo, D, _, _, rfl, rfl, hf6, hD6, ?_, fun L2 hL2 => ?_⟩
        · refine Nat.le_of_lt (small1000 ?_)
          have q1 := blocks_len (l := bl) fun b hb' => (hb b hb').length_eq
          have hdl : done.length = 4 := hdl
          rw [List.length_map, List.length_map, List.length_map, q1]
          omega
        have s9 := Same.new (o := .lst (nats (blocks bl) ++ nats (done.map (4 * cr + ·)))) hL2
        refine ⟨L2, left.eraseIdx j, bl ++ [(cr, done)], _, _, _, rfl, (M6.keep s9).lt (by omega) (by omega), e6.trans (Ext.same s9), s9 _ _ hl6, ?_, ?_, ?_, ?_, ?_⟩
        · rw [upd_same, blocks_snoc, nats_app]
        · refine List.Perm.trans ?_ hp
          rw [List.map_append, List.append_assoc]
          exact List.Perm.append_left _ (erase_perm hcr).symm
        · intro b hb'
          rcases List.mem_append.mp hb' with z | z
          · exact hb b z
          · rw [List.mem_singleton.mp z]
            exact hperm
        · rw [List.length_append, hlen]
          rfl
        · exact (ne_of_none hl6 hL2).symm
    · rintro σ H' ⟨fo, left, bl, v4, v5, v6, rfl, M', e', hl', hf', hp, hb, hlen, nfl⟩
      have e0 : (many : Int).toNat = many := by omega
      rw [e0] at M' hlen
      have hll : left = [] := by
        have := hp.length_eq
        rw [List.length_append, List.length_map, List.length_range] at this
        exact List.eq_nil_of_length_eq_zero (by omega)
      subst hll
      rw [List.append_nil] at hp
      exact ⟨_, rfl, k _ fo _ M' e' hf' (called_of_blocks hp hb)⟩
end
end One
end P_D7

section P_D8
set_option linter.all false
set_option maxRecDepth 100000
set_option maxHeartbeats 4000000
namespace One
open PySem PySem.Spec PyProof.Rows L2
/-! ### sorting pairs -/
/-- the pair that stands at an address -/
def keyN (H : Hp) (a : Addr) : Nat × Nat := match H a with
  | some (.tup [.int i, .int j]) => (i.toNat, j.toNat)
  | _ => (0, 0)
theorem keyN_of {H : Hp} {a : Addr} {p : Nat × Nat} (h : PAt H a p) : keyN H a = p := by
  unfold keyN
  rw [show H a = some (.tup [.int (p.1 : Nat), .int (p.2 : Nat)]) from h]
  rfl
theorem PL.keys {H : Hp} {as : List Addr} {ps : List (Nat × Nat)} (h : PL H as ps) : ps = as.map (keyN H) ∧ ∀ a ∈ as, PAt H a (keyN H a) := by
  induction h with
  | nil => exact ⟨rfl, fun a m => absurd m (by simp)⟩
  | cons h1 _ ih =>
    rw [List.map_cons, keyN_of h1]
    refine ⟨by rw [← ih.1], fun a m => ?_⟩
    rcases List.mem_cons.mp m with e | m
    · subst e
      rw [keyN_of h1]
      exact h1
    · exact ih.2 a m
theorem PL.of_keys {H : Hp} : ∀ {as : List Addr}, (∀ a ∈ as, PAt H a (keyN H a)) → PL H as (as.map (keyN H))
  | [], _ => .nil
  | a :: r, h => .cons (h a (List.mem_cons.mpr (.inl rfl))) (PL.of_keys fun b hb => h b (List.mem_cons.mpr (.inr hb)))
def backA : V → Addr
  | .ref a => a
  | _ => 0
theorem refs_of : ∀ {ys : List V}, (∀ y ∈ ys, ∃ a, y = V.ref a) → ys = refs (ys.map backA)
  | [], _ => rfl
  | y :: r, h => by
    obtain ⟨a, rfl⟩ := h y (List.mem_cons.mpr (.inl rfl))
    show V.ref a :: r = V.ref a :: refs (r.map backA)
    rw [← refs_of fun z hz => h z (List.mem_cons.mpr (.inr hz))]
theorem back_refs (as : List Addr) : (refs as).map backA = as := by
  rw [refs, List.map_map]
  exact List.map_id' as
/-- sorted(xs), xs a list of pairs -/
theorem rd_sorted {K : PySem.W.Frag} {H : Hp} {Q : VK} {a : Addr} {as : List Addr} {ps : List (Nat × Nat)} (hs : SqL K H a (refs as)) (hP : PL H as ps)
    (h : ∀ (bs : List Addr) (qs : List (Nat × Nat)) (p : Addr), PL H bs qs → qs.Perm ps → qs.Pairwise leP → H p = none → Q (.ref p) (upd H p (.lst (refs bs)))) : rSortedPO K [.ref a] H Q := by
  obtain ⟨e1, e2⟩ := hP.keys
  refine ⟨a, refs as, fun v => (((keyN H (backA v)).1 : Nat), ((keyN H (backA v)).2 : Nat)), rfl, hs, fun x hx => ?_, fun ys p h1 h2 hp => ?_⟩
  · obtain ⟨b, hb, rfl⟩ := List.mem_map.mp hx
    exact ⟨b, rfl, e2 b hb⟩
  · have hy : ys = refs (ys.map backA) := refs_of fun y m => by
      obtain ⟨b, _, e⟩ := List.mem_map.mp (h2.perm.mem_iff.mp m)
      exact ⟨b, e.symm⟩
    have hb : (ys.map backA).Perm as := by
      have := h2.perm.map backA
      rwa [back_refs] at this
    rw [hy]
    refine h (ys.map backA) ((ys.map backA).map (keyN H)) p (PL.of_keys fun b m => e2 b (hb.mem_iff.mp m)) (by rw [e1]; exact hb.map _) ?_ hp
    rw [List.map_map, List.pairwise_map]
    refine List.Pairwise.imp ?_ h1
    intro x y hxy
    have q := SrtO.lexB_no.mp hxy
    show leP (keyN H (backA x)) (keyN H (backA y))
    unfold leP
    simp only at q
    omega
/-- sorted([x, y]) -/
theorem low_of {x y : Nat} {ns : List Int} (hp : ns.Perm [((x : Nat) : Int), ((y : Nat) : Int)]) (hs : ns.Pairwise (· ≤ ·)) : ns = [(((low x y).1 : Nat) : Int), (((low x y).2 : Nat) : Int)] := by
  have hl := hp.length_eq
  match ns, hl with
  | [a, b], _ =>
    have hab : a ≤ b := by
      have := (List.pairwise_cons.mp hs).1 b (by simp)
      exact this
    have ha := hp.mem_iff (a := a)
    have hb := hp.mem_iff (a := b)
    have c1 := hp.count_eq a
    have c2 := hp.count_eq b
    simp only [List.mem_cons, List.not_mem_nil, or_false, true_or, or_true, true_iff] at ha hb
    unfold low
    rcases ha with rfl | rfl <;> rcases hb with rfl | rfl
    · simp only [List.count_cons, List.count_nil, beq_self_eq_true, if_true] at c1
      by_cases q : ((y : Int) == (x : Int)) = true
      · have : y = x := by
          have z : (y : Int) = (x : Int) := by simpa using q
          omega
        subst this
        split <;> rfl
      · rw [if_neg q] at c1
        omega
    · rw [if_neg (by omega)]
    · by_cases q : y < x
      · rw [if_pos q]
      · have : x = y := by omega
        subst this
        rw [if_neg q]
    · simp only [List.count_cons, List.count_nil, beq_self_eq_true, if_true] at c1
      by_cases q : ((x : Int) == (y : Int)) = true
      · have : x = y := by
          have z : (x : Int) = (y : Int) := by simpa using q
          omega
        subst this
        split <;> rfl
      · rw [if_neg q] at c1
        omega
end One
end P_D8

section P_D9
set_option linter.all false
set_option maxRecDepth 100000
set_option maxHeartbeats 4000000
namespace One
open PySem PySem.Spec PyProof.Rows L2
abbrev sYard : Stmt := top 33
abbrev nYard : List Str := ["m", "most", "many", "lines", "names", "one", "other"]
theorem scYard : FnScope nYard ["m", "most"] (defScope sYard) := ⟨rfl, rfl, rfl, by decide +kernel, rfl, by decide +kernel, by decide +kernel⟩
/-- at t stands a yard of n crossings, a tuple of these pairs -/
def YAt (H : Hp) (t : Addr) (n : Nat) (ps : List (Nat × Nat)) : Prop := Yard n ps ∧ ∃ as : List Addr, H t = some (.tup (refs as)) ∧ PL H as ps
theorem YAt.mono {H H' : Hp} {t : Addr} {n : Nat} {ps : List (Nat × Nat)} (h : YAt H t n ps) (k : ∀ b xs, H b = some (.tup xs) → H' b = some (.tup xs)) : YAt H' t n ps := by
  obtain ⟨y, as, h1, h2⟩ := h
  exact ⟨y, as, k _ _ h1, h2.mono k⟩
def spYard : Sp := fun vs H Q _ => ∃ (p c : Addr) (n most : Nat), vs = [.ref p, .int (most : Nat)] ∧ MS H p c n ∧ n ≤ 800000 ∧ 0 < most ∧ most ≤ 40 ∧
  ∀ (H' : Hp) (t : Addr) (k : Nat) (ps : List (Nat × Nat)), MS H' p c (n + 1 + 7 * most) → Ext p H H' → YAt H' t k ps → k ≤ most → Q (.ref t) H'
section
variable {P : Program} {w : World} {K : PySem.W.Frag} {mg : Str → Option Value} {base : Heap}
theorem ok_yard {f fD fG fC : Addr} {fd fdD fdG fdC : FuncData} (F : Fun K "_law_yard" "_law_yard" sYard f fd) (T : TB mg) (D : Cal K mg "_law_draw" fD fdD ["m", "many"]) (GD : FnOk P w K mg base CX0 1 fD fdD ["m", "many"] spDraw)
    (DG : Cal K mg "_law_grown" fG fdG ["m", "many"]) (GG : FnOk P w K mg base CX0 2 fG fdG ["m", "many"] spGrown) (DC : Cal K mg "_law_called" fC fdC ["m", "many"]) (GC : FnOk P w K mg base CX0 2 fC fdC ["m", "many"] spCalled) :
    FnOk P w K mg base CX0 3 f fd ["m", "most"] spYard := by
  refine F.ok scYard (fun vs H Q E h => ?_) (fun cdv A outer s H vs Q E hr h => ?_)
  · obtain ⟨p, c, n, most, rfl, _⟩ := h
    rfl
  · obtain ⟨p, c, n, most, rfl, M, hn, h0, h40, k⟩ := h
    have nd := scYard.nd
    have hr1 : Room 1 _ := hr.mono (by decide)
    refine ⟨_, pss_cons (ps_set (i := 2) nd rfl (Or.inl rfl) (pe_op op_add pe_int (pe_call GD hr1 rfl D.g D.kp D.b .nil pass0 (pa_cons (pv 0) (pa_cons (pv 1) pa_nil)))))
      (pss_cons (ps_asg (pe_tup (pa_cons (pe_call GG hr rfl DG.g DG.kp DG.b .nil pass0 (pa_cons (pv 0) (pa_cons (pv 2) pa_nil))) (pa_cons (pe_call GC hr rfl DC.g DC.kp DC.b .nil pass0 (pa_cons (pv 0) (pa_cons (pv 2) pa_nil))) pa_nil)))
          (pg_tup rfl (pgs_cons (pg_name (i := 3) nd rfl (Or.inl rfl)) (pgs_cons (pg_name (i := 4) nd rfl (Or.inr rfl)) pgs_nil))))
      (pss_one (ps_ret (pe_tupleOf (by rfl) T.tuple (pe_callB cr_sortedPO (by rfl) T.sorted boot_sorted (pa_cons
          (pe_lc (own := [("one", 5), ("other", 6)]) (g := gTup K 2 (gCons (gName 5) (gCons (gName 6) gNil))) (tt := tYes)
            (te := tThen (tCB (rSorted K) (tCons (tLst (tCons (tOp (rIxL K) (tVar 4) (tVar 5)) (tCons (tOp (rIxL K) (tVar 4) (tVar 6)) tNil))) tNil)) (kTup K)) rfl nd (pi_list (pv 3)) (blkOk_by (N := nYard) (sc := defScope sYard) (by decide +kernel))
            (fun _ _ _ _ _ => pg_tup rfl (pgs_cons (pg_name (i := 5) nd rfl (Or.inl rfl)) (pgs_cons (pg_name (i := 6) nd rfl (Or.inl rfl)) pgs_nil))) (fun _ _ _ _ _ => pts_nil)
            (fun _ _ _ _ _ => pe_tupleOf (by rfl) T.tuple (pe_callB cr_sorted (by rfl) T.sorted boot_sorted (pa_cons (pe_lst (pa_cons (pe_ix ix_list (pv 4) (pv 5) (fun _ _ => rfl)) (pa_cons (pe_ix ix_list (pv 4) (pv 6) (fun _ _ => rfl)) pa_nil))) pa_nil)))) pa_nil)))))), ?_⟩
    refine ⟨_, rfl, _, rfl, p, c, n, _, rfl, M, by omega, by omega, by omega, fun H1 r M1 B1 r0 r1 => ⟨_, _, rfl, rfl, ?_⟩⟩
    obtain ⟨j, rfl⟩ : ∃ j : Nat, r = (j : Nat) := ⟨r.toNat, by omega⟩
    have em : (1 : Int) + (j : Nat) = ((1 + j : Nat) : Int) := by omega
    refine ⟨_, rfl, _, rfl, p, c, _, 1 + j, (by rw [← em]; rfl), M1, by omega, by omega, by omega, fun H2 L as ps M2 e2 hL hP hG => ?_⟩
    refine ⟨_, rfl, _, rfl, p, c, _, 1 + j, (by rw [← em]; rfl), M2, by omega, by omega, fun H3 N ns M3 e3 hN hC => ?_⟩
    refine ⟨two_le, fun t ht => ?_⟩
    have hL3 : H3 L = some (.lst (refs as)) := e3 _ _ (M2.neL hL) hL
    have hP3 := hP.mono (tupK M2 e3)
    have s4 := Same.new (o := .tup [V.ref L, V.ref N]) ht
    have M4 := M3.keep s4
    have hL4 := s4 _ _ hL3
    have hN4 := s4 _ _ hN
    have hP4 := hP3.mono (sameT s4)
    have e4 : Ext p H (upd H3 t (.tup [V.ref L, V.ref N])) := B1.ext.trans (e2.trans (e3.trans (Ext.same s4)))
    refine ⟨t, _, rfl, SqT.of upd_same, rfl, _, _, rfl, _, _, rfl, rfl, ?_⟩
    refine ⟨_, rfl, L, rfl, ⟨_, SqL.of hL4⟩, fun D hD => ?_⟩
    have s5 := Same.new (o := .lst []) hD
    have hlen : as.length = ps.length := hP4.len
    have nl : (refs as).length = as.length := List.length_map _
    refine lc_it (walk_list (K := K) (a := L) (xs := refs as)) (fun i H6 => ∃ bs : List Addr, H6 D = some (.lst (refs bs)) ∧ PL H6 bs ((ps.take i).map (callL ns)) ∧ Same (upd H3 t (.tup [V.ref L, V.ref N])) H6) ⟨[], upd_same, .nil, s5⟩ (fun i H6 _ ⟨bs, h1, h2, h3⟩ => SqL.of (h3 _ _ hL4)) ?_ ?_
    · rintro i x H6 H7 hi ⟨bs, hD6, hB6, s6⟩ ⟨rfl, hx⟩
      have hi' : i < ps.length := by rw [← hlen, ← nl]; exact hi
      obtain ⟨q, hq⟩ : ∃ q, ps[i]? = some q := ⟨_, List.getElem?_eq_getElem hi'⟩
      obtain ⟨a, ha, pa⟩ := hP4.get hq
      rw [List.getElem?_map, ha] at hx
      cases hx
      have q1 : q.1 < 4 * (1 + j) := hG.lines.lt _ (mem_ends.mpr ⟨q, List.mem_of_getElem? hq, .inl rfl⟩)
      have q2 : q.2 < 4 * (1 + j) := hG.lines.lt _ (mem_ends.mpr ⟨q, List.mem_of_getElem? hq, .inr rfl⟩)
      have get : ∀ y, y < 4 * (1 + j) → atI (nats ns) ((y : Nat) : Int) = some (V.int (ns.getD y 0 : Nat)) := fun y hy => by
        have hy' : y < ns.length := by rw [hC.len]; exact hy
        refine at_of (j := y) rfl ?_
        rw [List.getElem?_map, List.getElem?_eq_getElem hy', List.getD_eq_getElem?_getD, List.getElem?_eq_getElem hy']
        rfl
      have hN6 := s6 _ _ hN4
      refine ⟨a, _, rfl, SqT.of (s6 _ _ pa), rfl, _, _, rfl, _, _, rfl, rfl, rfl, yes ?_⟩
      refine ⟨_, rfl, _, rfl, N, _, _, _, rfl, rfl, SqL.of hN6, get _ q1, _, rfl, _, rfl, N, _, _, _, rfl, rfl, SqL.of hN6, get _ q2, two_le, fun l hl => ?_⟩
      have s7 := Same.new (o := .lst [V.int (ns.getD q.1 0 : Nat), V.int (ns.getD q.2 0 : Nat)]) hl
      refine ⟨l, [((ns.getD q.1 0 : Nat) : Int), ((ns.getD q.2 0 : Nat) : Int)], rfl, SqL.of upd_same, (by show 2 < 64; decide), fun ns' l2 hp hs hl2 => ?_⟩
      have s8 := Same.new (o := .lst (ns'.map V.int)) hl2
      have en := low_of hp hs
      subst en
      refine .inl ⟨l2, _, rfl, SqL.of upd_same, fun u hu => ?_⟩
      have s9 := Same.new (o := .tup [V.int ((callL ns q).1 : Nat), V.int ((callL ns q).2 : Nat)]) hu
      have sA := s7.trans (s8.trans s9)
      have hD9 := sA _ _ hD6
      refine ⟨refs bs, hD9, small1000 ?_, bs ++ [u], ?_, ?_, ?_⟩
      · rw [List.length_map, hB6.len, List.length_map, List.length_take]
        have := hG.lines.len
        omega
      · rw [upd_same, refs_app]
        rfl
      · have hne : ∀ b xs, H7 b = some (.tup xs) → (upd _ D (HO.lst (refs bs ++ [V.ref u]))) b = some (.tup xs) := fun b xs h => (upd_ne (ne_of (sA _ _ h) hD9 (by intro z; cases z))).trans (sA _ _ h)
        have hun : u ≠ D := ne_of (upd_same : (upd _ u _) u = _) hD9 (by intro z; cases z)
        rw [List.take_succ, hq, Option.toList_some, List.map_append]
        exact (hB6.mono hne).app (.cons ((upd_ne hun).trans upd_same) .nil)
      · intro b o h
        have nb : b ≠ D := ne_of_none h hD
        rw [upd_ne nb]
        exact sA _ _ (s6 _ _ h)
    · rintro H6 ⟨bs, hD6, hB6, s6⟩
      rw [nl, hlen, List.take_length] at hB6
      show rSortedPO K [V.ref D] H6 (fun x H1 => kTup K x H1 Q)
      refine rd_sorted (SqL.of hD6) hB6 fun cs qs l hC6 hperm hle hl => ?_
      have s7 := Same.new (o := .lst (refs cs)) hl
      refine .inl ⟨l, _, rfl, SqL.of upd_same, fun u hu => ?_⟩
      have s8 := Same.new (o := .tup (refs cs)) hu
      have sA := s6.trans (s7.trans s8)
      exact k _ u (1 + j) qs ((M4.keep sA).lt (by omega) (by omega)) (e4.trans (Ext.same sA)) ⟨called_yard hG hC hperm hle, cs, upd_same, hC6.mono (sameT (s7.trans s8))⟩ (by omega)
end
end One
end P_D9

section P_E1
set_option linter.all false
set_option maxRecDepth 100000
set_option maxHeartbeats 4000000
/-! Ranges with a step as values; what kind a value is. -/
namespace One
open PySem PySem.Spec PyProof.Rows L2
def RngO (a : Addr) (lo hi c : Int) : HO := .ext fun h => ∃ t u v, h.get? a = some { cls := .type "range", data := .fields #[.int lo t, .int hi u, .int c v] }
theorem rng_has (r : Addr) (a b c i : Int) (t u v k : Tok) :
    Meets (Builtin.«range.__contains__» ⟨[.ref r, .int i k], []⟩) (fun _ R s => s.heap.get? r = some ⟨.type "range", none, .fields #[.int a t, .int b u, .int c v], #[]⟩ ∧ R (.ok (.ret (.bool (Builtin.Range.rangePlace? a b c i).isSome))) s) :=
  .of_wp fun prog w A R s h => by
    obtain ⟨hp, g, d, tk, os⟩ := s
    obtain ⟨hl, h⟩ := h
    wp_walk
    exact ⟨_, rfl, h⟩
section
variable {X : Cx}
theorem op_in_rngC : OpR X (compareOp .In) (fun x y H Q => ∃ i a lo hi c, x = V.int i ∧ y = V.ref a ∧ H a = some (RngO a lo hi c) ∧ Q (.bl (Builtin.Range.rangePlace? lo hi c i).isSome) H) := by
  intro pins s σ H x y v u Q I rx ry h
  obtain ⟨i, a, lo, hi, c, rfl, rfl, ha, q⟩ := h
  obtain ⟨k, rfl⟩ := rx
  obtain rfl : u = Value.ref a := ry
  obtain ⟨⟨t1, t2, t3, ho⟩, _, _⟩ := I.hok a _ ha
  refine (show wpAny _ _ (do return Value.bool (← contains (Value.ref a) (Value.int i k))) _ _ s from ?_)
  exact wpAny_bind (wpAny_contains_slot (T := "range") ⟨_, ho, rfl⟩ F.slot_range_contains (call_meets F.slot_range_contains ⟨_, ho, rfl⟩ F.entry_range_contains (F.args_range_contains_2 _ _) (rng_has a lo hi c i t1 t2 t3 k)
    ⟨ho, wpAny_truthy_bool (wpAny_pure ⟨.bl _, H, I, rfl, q⟩)⟩))
theorem cr_range3 : CallR X (.type "range") (fun vs H Q => ∃ i j c, vs = [V.int i, V.int j, V.int c] ∧ (c ≠ 0 ∧ c.natAbs < 1073741824) ∧ ∀ p, H p = none → Q (.ref p) (upd H p (RngO p i j c))) := by
  intro pins s σ H vs us Q I r h
  obtain ⟨i, j, c, rfl, hc, q⟩ := h
  obtain ⟨u1, u2, u3, rfl, ri, rj, rc⟩ : ∃ u1 u2 u3, us = [u1, u2, u3] ∧ RelV (V.int i) u1 ∧ RelV (V.int j) u2 ∧ RelV (V.int c) u3 := by
    cases r with
    | cons p q =>
      cases q with
      | cons p' q' =>
        cases q' with
        | cons p'' q'' =>
          cases q''
          exact ⟨_, _, _, rfl, p, p', p''⟩
  obtain ⟨t, rfl⟩ := ri
  obtain ⟨t2, rfl⟩ := rj
  obtain ⟨t3, rfl⟩ := rc
  have hget : (s.heap.push { cls := .type "range", data := .fields #[.int i t, .int j t2, .int c t3] }).get? s.heap.objs.size = some { cls := .type "range", data := .fields #[.int i t, .int j t2, .int c t3] } := Heap.get?_push_size _ rfl
  refine call_range_3 hc.1 ?_ (.inl (PyProof.noPylong_small hc.2))
  exact ⟨.ref s.heap.objs.size, upd H s.heap.objs.size (RngO s.heap.objs.size i j c), I.laid (t' := s.toks) (fun b o e => Heap.get?_push_of_some _ e) (Nat.le_refl _) ⟨⟨t, t2, t3, hget⟩, ⟨_, hget⟩, fun h1 h2 ⟨a, b, d, e⟩ st => ⟨a, b, d, st _ e⟩⟩, rfl, q _ (I.hok.fresh (Nat.le_refl _))⟩
end
end One
end P_E1

section P_E2
set_option linter.all false
set_option maxRecDepth 100000
set_option maxHeartbeats 4000000
namespace One
open PySem PySem.Spec PyProof.Rows L2
/-! ### what kind a value is -/
inductive TV (H : Hp) : V → String → Prop
  | non : TV H .non "NoneType"
  | bl (b : Bool) : TV H (.bl b) "bool"
  | int (i : Int) : TV H (.int i) "int"
  | str (x : Str) : TV H (.str x) "str"
  | tup {a : Addr} {xs : List V} (e : H a = some (.tup xs)) : TV H (.ref a) "tuple"
  | lst {a : Addr} {xs : List V} (e : H a = some (.lst xs)) : TV H (.ref a) "list"
  | dct {a : Addr} {kvs : List (Key × V)} (e : H a = some (.dK kvs)) : TV H (.ref a) "dict"
theorem TV.tyx {K : PySem.W.Frag} {H : Hp} {v : V} {T : String} (h : TV H v T) : TyX K H v (.type T) := by
  cases h with
  | non => exact .base .non
  | bl b => exact .base (.bl b)
  | int i => exact .base (.int i)
  | str x => exact .base (.str x)
  | tup e => exact .base (.tup e)
  | lst e => exact .base (.lst e)
  | dct e => exact .base (.dK e)
def isI : V → Bool
  | .int _ => true
  | _ => false
def belowV (v : V) (n : Int) : Bool := match v with
  | .int i => decide (0 ≤ i) && decide (i < n)
  | _ => false
theorem nof {p : Prop} (z : false = true) : p := by cases z
theorem noT {p : Prop} (z : true = false) : p := by cases z
theorem TV.kInt {K : PySem.W.Frag} {H : Hp} {v : V} {T : String} (h : TV H v T) : ∃ b, PySem.W.kitOne K (.type T) (.type "int") = some b ∧ (b = true → ∃ b2, PySem.W.kitOne K (.type T) (.type "bool") = some b2 ∧ isI v = !b2) ∧ (b = false → isI v = false) := by
  cases h with
  | non => exact ⟨false, kit_ty (by decide +kernel), nof, fun _ => rfl⟩
  | bl b => exact ⟨true, kit_ty (by decide +kernel), fun _ => ⟨true, kit_ty (by decide +kernel), rfl⟩, noT⟩
  | int i => exact ⟨true, kit_ty (by decide +kernel), fun _ => ⟨false, kit_ty (by decide +kernel), rfl⟩, noT⟩
  | str x => exact ⟨false, kit_ty (by decide +kernel), nof, fun _ => rfl⟩
  | tup e => exact ⟨false, kit_ty (by decide +kernel), nof, fun _ => rfl⟩
  | lst e => exact ⟨false, kit_ty (by decide +kernel), nof, fun _ => rfl⟩
  | dct e => exact ⟨false, kit_ty (by decide +kernel), nof, fun _ => rfl⟩
def isTup (T : String) : Bool := T == "tuple"
theorem TV.kTup {K : PySem.W.Frag} {H : Hp} {v : V} {T : String} (h : TV H v T) : PySem.W.kitOne K (.type T) (.type "tuple") = some (isTup T) := by
  cases h <;> exact kit_ty (by decide +kernel)
/-- the constants of the program's top -/
structure TC (mg : Str → Option Value) : Prop where
  most : ∃ t, mg "MOST_CROSSINGS" = some (.int 40 t)
  places : ∃ t, mg "PLACES" = some (.int 4 t)
abbrev sIsNum : Stmt := top 11
abbrev sIsBelow : Stmt := top 12
abbrev sCanBe : Stmt := top 21
abbrev sIsLine : Stmt := top 22
theorem scIsNum : FnScope ["thing"] ["thing"] (defScope sIsNum) := ⟨rfl, rfl, rfl, by decide +kernel, rfl, by decide +kernel, by decide +kernel⟩
theorem scIsBelow : FnScope ["thing", "many"] ["thing", "many"] (defScope sIsBelow) := ⟨rfl, rfl, rfl, by decide +kernel, rfl, by decide +kernel, by decide +kernel⟩
theorem scCanBe : FnScope ["many"] ["many"] (defScope sCanBe) := ⟨rfl, rfl, rfl, by decide +kernel, rfl, by decide +kernel, by decide +kernel⟩
theorem scIsLine : FnScope ["thing", "many_ends", "low", "high"] ["thing", "many_ends"] (defScope sIsLine) := ⟨rfl, rfl, rfl, by decide +kernel, rfl, by decide +kernel, by decide +kernel⟩
def spIsNum : Sp := fun vs H Q _ => ∃ (v : V) (T : String), vs = [v] ∧ TV H v T ∧ Q (.bl (isI v)) H
def spIsBelow : Sp := fun vs H Q _ => ∃ (v : V) (n : Int) (T : String), vs = [v, .int n] ∧ TV H v T ∧ Q (.bl (belowV v n)) H
/-- as many lines as a yard may have -/
def canBe (n : Int) : Bool := decide (2 ≤ n) && decide (n ≤ 80) && decide (n % 2 = 0)
def spCanBe : Sp := fun vs H Q _ => ∃ n : Int, vs = [.int n] ∧ ∀ H', Same H H' → Q (.bl (canBe n)) H'
section
variable {P : Program} {w : World} {K : PySem.W.Frag} {mg : Str → Option Value} {base : Heap}
theorem ok_isnum {f : Addr} {fd : FuncData} (F : Fun K "is_number" "is_number" sIsNum f fd) (T : TB mg) : FnOk P w K mg base CX0 1 f fd ["thing"] spIsNum := by
  refine F.ok scIsNum (fun vs H Q E h => ?_) (fun cdv A outer s H vs Q E hr h => ?_)
  · obtain ⟨v, _, rfl, _⟩ := h
    rfl
  · obtain ⟨v, ty, rfl, hv, k⟩ := h
    refine ⟨_, pss_one (ps_ret (pe_and (pe_callB call_isi (by rfl) T.isinstance boot_isinstance (pa_cons (pv 0) (pa_cons (pe_bltn (v := .ty "int") (by rfl) T.int PyProof.Rows.boot_int rfl) pa_nil)))
      (pe_one (pe_not (pe_callB call_isi (by rfl) T.isinstance boot_isinstance (pa_cons (pv 0) (pa_cons (pe_bltn (v := .ty "bool") (by rfl) T.bool (by decide +kernel) rfl) pa_nil))))))), ?_⟩
    obtain ⟨b, kb, h1, h2⟩ := hv.kInt (K := K)
    refine ⟨_, rfl, v, _, _, _, b, rfl, .ty _, hv.tyx, kb, b, rfl, ?_⟩
    cases b with
    | true =>
      obtain ⟨b2, kb2, e⟩ := h1 rfl
      refine iteT ⟨_, rfl, v, _, _, _, b2, rfl, .ty _, hv.tyx, kb2, b2, rfl, ?_⟩
      rw [← e]
      exact k
    | false =>
      refine iteF ?_
      rw [h2 rfl] at k
      exact k
theorem ok_isbelow {f fN : Addr} {fd fdN : FuncData} (F : Fun K "is_below" "is_below" sIsBelow f fd) (N : Cal K mg "is_number" fN fdN ["thing"]) (GN : FnOk P w K mg base CX0 1 fN fdN ["thing"] spIsNum) : FnOk P w K mg base CX0 2 f fd ["thing", "many"] spIsBelow := by
  refine F.ok scIsBelow (fun vs H Q E h => ?_) (fun cdv A outer s H vs Q E hr h => ?_)
  · obtain ⟨v, n, _, rfl, _⟩ := h
    rfl
  · obtain ⟨v, n, ty, rfl, hv, k⟩ := h
    refine ⟨_, pss_one (ps_ret (pe_and (pe_call GN hr rfl N.g N.kp N.b .nil pass0 (pa_cons (pv 0) pa_nil)) (pe_one (pe_chain op_le op_lt pe_int (pv 0) (pv 1))))), ?_⟩
    refine ⟨_, rfl, v, ty, rfl, hv, _, rfl, ?_⟩
    cases v with
    | int i =>
      refine iteT ⟨_, rfl, _, _, rfl, rfl, _, rfl, ?_⟩
      by_cases h0 : 0 ≤ i
      · rw [if_pos (decide_eq_true h0)]
        refine ⟨_, rfl, _, _, rfl, rfl, ?_⟩
        have e : belowV (.int i) n = decide (i < n) := by
          show (decide (0 ≤ i) && decide (i < n)) = _
          rw [decide_eq_true h0, Bool.true_and]
        rw [e] at k
        exact k
      · rw [if_neg (by rw [decide_eq_false h0]; decide)]
        have e : belowV (.int i) n = false := by
          show (decide (0 ≤ i) && decide (i < n)) = _
          rw [decide_eq_false h0, Bool.false_and]
        rw [e] at k
        exact k
    | _ => exact iteF k
theorem ok_canbe {f : Addr} {fd : FuncData} (F : Fun K "can_be_many_lines" "can_be_many_lines" sCanBe f fd) (T : TB mg) (C : TC mg) : FnOk P w K mg base CX0 1 f fd ["many"] spCanBe := by
  refine F.ok scCanBe (fun vs H Q E h => ?_) (fun cdv A outer s H vs Q E hr h => ?_)
  · obtain ⟨n, rfl, _⟩ := h
    rfl
  · obtain ⟨n, rfl, k⟩ := h
    obtain ⟨t, ht⟩ := C.most
    refine ⟨_, pss_one (ps_ret (pe_cmpR op_in_rngC (pv 0) (pe_callTy cr_range3 (by rfl) T.range boot_range (pa_cons pe_int (pa_cons (pe_op op_add (pe_op op_mul pe_int (pe_glob (v := .int 40) rfl ht ⟨_, rfl⟩)) pe_int) (pa_cons pe_int pa_nil)))) (by rfl))), ?_⟩
    refine ⟨_, rfl, _, _, rfl, rfl, .inl ⟨by decide, by decide⟩, _, _, rfl, rfl, _, _, _, rfl, ⟨by decide, by decide⟩, fun p hp => ?_⟩
    refine ⟨n, p, _, _, _, rfl, rfl, upd_same, ?_⟩
    have e : (Builtin.Range.rangePlace? 2 (2 * 40 + 1) 2 n).isSome = canBe n := by
      unfold Builtin.Range.rangePlace? canBe
      rw [Bool.eq_iff_iff]
      simp only [show (2 : Int) > 0 from by decide, if_true, Bool.and_eq_true, decide_eq_true_eq, beq_iff_eq]
      constructor
      · intro q
        split at q
        · omega
        · cases q
      · intro q
        rw [if_pos (by omega)]
        rfl
    show Q (.bl (Builtin.Range.rangePlace? 2 (2 * 40 + 1) 2 n).isSome) _
    rw [e]
    exact k _ (Same.new hp)
end
end One
end P_E2

section P_M3
set_option linter.all false
namespace One
/-! ### going to all that is beside -/
def R (r : List Bool) (i : Nat) : Prop := r[i]? = some true
structure Dfs (s n : Nat) (f : Nat → List Nat) (r : List Bool) (w : List Nat) (cur : Nat → Prop) : Prop where
  len : r.length = n
  z : R r s
  wt : ∀ i ∈ w, R r i
  cl : ∀ i, R r i → i ∈ w ∨ cur i ∨ ∀ j ∈ f i, R r j
  so : ∀ P : Nat → Prop, (∀ i j, j ∈ f i → P i → P j) → P s → ∀ i, R r i → P i
theorem R_set {r : List Bool} {i j : Nat} (h : R r i) : R (r.set j true) i := by
  unfold R at *
  by_cases e : j = i
  · subst e
    have : j < r.length := (List.getElem?_eq_some_iff.mp h).1
    rw [List.getElem?_set_self this]
  · rw [List.getElem?_set_ne e]
    exact h
theorem R_new {r : List Bool} {j : Nat} (h : j < r.length) : R (r.set j true) j := by
  unfold R
  rw [List.getElem?_set_self h]
theorem R_back {r : List Bool} {i j : Nat} (h : R (r.set j true) i) : i = j ∨ R r i := by
  unfold R at *
  by_cases e : j = i
  · exact .inl e.symm
  · rw [List.getElem?_set_ne e] at h
    exact .inr h
theorem dfs_start {s n : Nat} (f : Nat → List Nat) (hn : s < n) : Dfs s n f ((List.replicate n false).set s true) [s] (fun _ => False) := by
  have h0 : s < (List.replicate n false).length := by rw [List.length_replicate]; exact hn
  have back : ∀ i, R ((List.replicate n false).set s true) i → i = s := fun i h => by
    rcases R_back h with e | e
    · exact e
    · unfold R at e
      have hi := (List.getElem?_eq_some_iff.mp e).2
      simp at hi
  refine ⟨by simp, R_new h0, fun i hi => ?_, fun i hi => .inl ?_, fun P _ h i hi => ?_⟩
  · rw [List.mem_singleton.mp hi]
    exact R_new h0
  · rw [back i hi]
    exact List.mem_singleton.mpr rfl
  · rw [back i hi]
    exact h
theorem dfs_pop {s n c : Nat} {f : Nat → List Nat} {r : List Bool} {w : List Nat} (d : Dfs s n f r (w ++ [c]) fun _ => False) : Dfs s n f r w (· = c) := by
  refine ⟨d.len, d.z, fun i hi => d.wt i (List.mem_append.mpr (.inl hi)), fun i hi => ?_, d.so⟩
  rcases d.cl i hi with h | h | h
  · rcases List.mem_append.mp h with h | h
    · exact .inl h
    · exact .inr (.inl (List.mem_singleton.mp h))
  · exact h.elim
  · exact .inr (.inr h)
theorem dfs_mark {s n c j : Nat} {f : Nat → List Nat} {r : List Bool} {w : List Nat} (d : Dfs s n f r w (· = c)) (hc : R r c) (hj : j ∈ f c) (hlt : j < n) : Dfs s n f (r.set j true) (w ++ [j]) (· = c) := by
  have hjl : j < r.length := by rw [d.len]; exact hlt
  refine ⟨by rw [List.length_set]; exact d.len, R_set d.z, fun i hi => ?_, fun i hi => ?_, fun P hP h0 i hi => ?_⟩
  · rcases List.mem_append.mp hi with h | h
    · exact R_set (d.wt i h)
    · rw [List.mem_singleton.mp h]
      exact R_new hjl
  · rcases R_back hi with e | h
    · exact .inl (List.mem_append.mpr (.inr (List.mem_singleton.mpr e)))
    · rcases d.cl i h with q | q | q
      · exact .inl (List.mem_append.mpr (.inl q))
      · exact .inr (.inl q)
      · exact .inr (.inr fun k hk => R_set (q k hk))
  · rcases R_back hi with e | h
    · rw [e]
      exact hP c j hj (d.so P hP h0 c hc)
    · exact d.so P hP h0 i h
theorem dfs_finish {s n c : Nat} {f : Nat → List Nat} {r : List Bool} {w : List Nat} (d : Dfs s n f r w (· = c)) (h : ∀ j ∈ f c, R r j) : Dfs s n f r w fun _ => False := by
  refine ⟨d.len, d.z, d.wt, fun i hi => ?_, d.so⟩
  rcases d.cl i hi with q | q | q
  · exact .inl q
  · subst q
    exact .inr (.inr h)
  · exact .inr (.inr q)
theorem count_set {r : List Bool} {j : Nat} (h : r[j]? = some false) : (r.set j true).count false + 1 = r.count false := by
  induction r generalizing j with
  | nil => simp at h
  | cons a r ih =>
    cases j with
    | zero =>
      have e : a = false := Option.some.inj h
      subst e
      simp
    | succ j =>
      have := ih (j := j) (by simpa using h)
      show ((a :: r.set j true).count false) + 1 = (a :: r).count false
      rw [List.count_cons, List.count_cons]
      omega
/-- what is beside each crossing by these lines -/
def Beside (ps : List (Nat × Nat)) (f : Nat → List Nat) : Prop := ∀ i j, j ∈ f i ↔ ∃ p ∈ ps, (p.1 / 4 = i ∧ p.2 / 4 = j) ∨ (p.2 / 4 = i ∧ p.1 / 4 = j)
theorem dfs_whole {n : Nat} {ps : List (Nat × Nat)} {f : Nat → List Nat} {r : List Bool} (hb : Beside ps f) (d : Dfs 0 n f r [] fun _ => False) : r.all id = true ↔ Whole n ps := by
  constructor
  · intro h P hP h0 c hc
    refine d.so P (fun i j hj hi => ?_) h0 c ?_
    · obtain ⟨p, hp, q⟩ := (hb i j).mp hj
      rcases q with ⟨q1, q2⟩ | ⟨q1, q2⟩
      · rw [← q2]
        rw [← q1] at hi
        exact (hP p hp).mp hi
      · rw [← q2]
        rw [← q1] at hi
        exact (hP p hp).mpr hi
    · have hl : c < r.length := by rw [d.len]; exact hc
      unfold R
      rw [List.getElem?_eq_getElem hl]
      have := List.all_eq_true.mp h r[c] (List.getElem_mem hl)
      exact congrArg some this
  · intro w
    have all := w (fun i => R r i) (fun p hp => ?_) d.z
    · refine List.all_eq_true.mpr fun b hb' => ?_
      obtain ⟨i, hi, e⟩ := List.mem_iff_getElem.mp hb'
      have q := all i (by rw [← d.len]; exact hi)
      unfold R at q
      rw [List.getElem?_eq_getElem hi, e] at q
      exact Option.some.inj q
    · have clo : ∀ i j, j ∈ f i → R r i → R r j := fun i j hj hi => by
        rcases d.cl i hi with q | q | q
        · exact absurd q (by simp)
        · exact q.elim
        · exact q j hj
      exact ⟨clo _ _ ((hb _ _).mpr ⟨p, hp, .inl ⟨rfl, rfl⟩⟩), clo _ _ ((hb _ _).mpr ⟨p, hp, .inr ⟨rfl, rfl⟩⟩)⟩
/-- the lists with one more at one of them -/
def addTo (f : Nat → List Nat) (i x : Nat) : Nat → List Nat := fun k => if k = i then f k ++ [x] else f k
theorem beside_nil : Beside [] fun _ => [] := fun i j => ⟨fun h => absurd h (by simp), fun ⟨p, hp, _⟩ => absurd hp (by simp)⟩
theorem mem_addTo {f : Nat → List Nat} {i x k j : Nat} : j ∈ addTo f i x k ↔ j ∈ f k ∨ (k = i ∧ j = x) := by
  unfold addTo
  by_cases e : k = i
  · rw [if_pos e, List.mem_append, List.mem_singleton]
    exact or_congr Iff.rfl ⟨fun h => ⟨e, h⟩, fun h => h.2⟩
  · rw [if_neg e]
    exact ⟨.inl, fun h => h.elim id fun q => absurd q.1 e⟩
theorem beside_add {ps : List (Nat × Nat)} {f : Nat → List Nat} (p : Nat × Nat) (h : Beside ps f) : Beside (ps ++ [p]) (addTo (addTo f (p.1 / 4) (p.2 / 4)) (p.2 / 4) (p.1 / 4)) := by
  intro i j
  rw [mem_addTo, mem_addTo, h i j]
  constructor
  · rintro ((⟨q, hq, z⟩ | ⟨rfl, rfl⟩) | ⟨rfl, rfl⟩)
    · exact ⟨q, List.mem_append.mpr (.inl hq), z⟩
    · exact ⟨p, List.mem_append.mpr (.inr (List.mem_singleton.mpr rfl)), .inl ⟨rfl, rfl⟩⟩
    · exact ⟨p, List.mem_append.mpr (.inr (List.mem_singleton.mpr rfl)), .inr ⟨rfl, rfl⟩⟩
  · rintro ⟨q, hq, z⟩
    rcases List.mem_append.mp hq with hq | hq
    · exact .inl (.inl ⟨q, hq, z⟩)
    · rw [List.mem_singleton.mp hq] at z
      rcases z with ⟨a, b⟩ | ⟨a, b⟩
      · exact .inl (.inr ⟨a.symm, b.symm⟩)
      · exact .inr ⟨a.symm, b.symm⟩
end One
end P_M3

section P_E3
set_option linter.all false
set_option maxRecDepth 100000
set_option maxHeartbeats 4000000
namespace One
open PySem PySem.Spec PyProof.Rows L2
abbrev sIsWhole : Stmt := top 23
abbrev nWhole : List Str := ["lines"]
theorem scIsWhole : FnScope nWhole ["lines"] (defScope sIsWhole) := ⟨rfl, rfl, rfl, by decide +kernel, rfl, by decide +kernel, by decide +kernel⟩
def ltB : V → V → Bool
  | .int a, .int b => decide (a < b)
  | _, _ => false
def lineB (xs : List V) (n : Int) : Bool := match xs with
  | [x, y] => belowV x n && belowV y n && ltB x y
  | _ => false
def spIsLine : Sp := fun vs H Q _ => ∃ (v : V) (n : Int), vs = [v, .int n] ∧ ((∃ T, TV H v T ∧ isTup T = false ∧ Q (.bl false) H) ∨ ∃ (a : Addr) (xs : List V), v = .ref a ∧ H a = some (.tup xs) ∧ (∀ x ∈ xs, ∃ T, TV H x T) ∧ Q (.bl (lineB xs n)) H)
/-- lines that are asked whether they hang together -/
structure Asked (n : Nat) (ps : List (Nat × Nat)) : Prop where
  pos : 0 < n
  len : ps.length = 2 * n
  lt : ∀ p ∈ ps, p.1 < 4 * n ∧ p.2 < 4 * n
def spIsWhole : Sp := fun vs H Q _ => ∃ (t : Addr) (n : Nat) (as : List Addr) (ps : List (Nat × Nat)), vs = [.ref t] ∧ H t = some (.tup (refs as)) ∧ PL H as ps ∧ Asked n ps ∧ n ≤ 100 ∧
  ∀ (H' : Hp) (b : Bool), Same H H' → (b = true ↔ Whole n ps) → Q (.bl b) H'
section
variable {P : Program} {w : World} {K : PySem.W.Frag} {mg : Str → Option Value} {base : Heap}
theorem ok_isline {f fB : Addr} {fd fdB : FuncData} (F : Fun K "is_line" "is_line" sIsLine f fd) (T : TB mg) (B : Cal K mg "is_below" fB fdB ["thing", "many"]) (GB : FnOk P w K mg base CX0 2 fB fdB ["thing", "many"] spIsBelow) :
    FnOk P w K mg base CX0 3 f fd ["thing", "many_ends"] spIsLine := by
  refine F.ok scIsLine (fun vs H Q E h => ?_) (fun cdv A outer s H vs Q E hr h => ?_)
  · obtain ⟨v, n, rfl, _⟩ := h
    rfl
  · obtain ⟨v, n, rfl, h⟩ := h
    have nd := scIsLine.nd
    refine ⟨_, pss_cons (ps_if (PW.pt (pw_or (pt_not (pt_val (pe_callB call_isi (by rfl) T.isinstance boot_isinstance (pa_cons (pv 0) (pa_cons (pe_bltn (v := .ty "tuple") (by rfl) T.tuple boot_tuple rfl) pa_nil)))))
        (pw_or1 (pt_cmpR op_ne (pe_callB call_len_seq (by rfl) T.len PySem.boot_len (pa_cons (pv 0) pa_nil)) pe_int (nomark _))))) (pss_one (ps_ret pe_bl)) pss_nil)
      (pss_cons (ps_asg (pv 0) (pg_tup rfl (pgs_cons (pg_name (i := 2) nd rfl (Or.inl rfl)) (pgs_cons (pg_name (i := 3) nd rfl (Or.inl rfl)) pgs_nil))))
      (pss_one (ps_ret (pe_and (pe_call GB hr rfl B.g B.kp B.b .nil pass0 (pa_cons (pv 2) (pa_cons (pv 1) pa_nil))) (pe_and (pe_call GB hr rfl B.g B.kp B.b .nil pass0 (pa_cons (pv 3) (pa_cons (pv 1) pa_nil)))
        (pe_one (pe_cmpR op_lt (pv 2) (pv 3) (nomark _)))))))), ?_⟩
    rcases h with ⟨ty, hv, hT, k⟩ | ⟨a, xs, rfl, ha, hx, k⟩
    · refine ⟨_, rfl, v, _, _, _, _, rfl, .ty _, hv.tyx, hv.kTup, _, rfl, ?_⟩
      rw [hT]
      exact iteT k
    · refine ⟨_, rfl, _, _, _, _, _, rfl, .ty _, (TV.tup ha).tyx, (TV.tup ha).kTup, _, rfl, ?_⟩
      refine iteF ⟨_, rfl, a, _, rfl, .inr (SqT.of ha), rfl, _, rfl, ?_⟩
      refine ite2 (fun hne => ?_) (fun heq => ?_)
      · have e : lineB xs n = false := by
          match xs, hne with
          | [], _ => rfl
          | [_], _ => rfl
          | [_, _], hne => simp at hne
          | _ :: _ :: _ :: _, _ => rfl
        rw [e] at k
        exact k
      · have hl : xs.length = 2 := by
          have q : ((xs.length : Nat) : Int) = 2 := by simpa using heq
          omega
        match xs, hl, hx, ha, k with
        | [x, y], _, hx, ha, k =>
          obtain ⟨t1, h1⟩ := hx x (by simp)
          obtain ⟨t2, h2⟩ := hx y (by simp)
          refine ⟨_, rfl, a, _, rfl, SqT.of ha, rfl, _, _, rfl, _, _, rfl, rfl, ?_⟩
          refine ⟨_, rfl, _, rfl, x, n, t1, rfl, h1, _, rfl, ?_⟩
          have k : Q (.bl (belowV x n && belowV y n && ltB x y)) H := k
          refine ite2 (fun b1 => ?_) (fun b1 => ?_)
          · refine ⟨_, rfl, _, rfl, y, n, t2, rfl, h2, _, rfl, ?_⟩
            refine ite2 (fun b2 => ?_) (fun b2 => ?_)
            · rw [b1, b2] at k
              cases x with
              | int i =>
                cases y with
                | int j => exact ⟨_, rfl, _, rfl, _, _, rfl, rfl, k⟩
                | _ => cases b2
              | _ => cases b1
            · rw [b1, Bool.eq_false_iff.mpr b2] at k
              exact k
          · rw [Bool.eq_false_iff.mpr b1] at k
            exact k
end
end One
end P_E3

section P_R1
set_option linter.all false
set_option maxRecDepth 100000
set_option maxHeartbeats 8000000
namespace One
open PySem PySem.Spec PyProof.Rows L2
/-- a list of lists of numbers at B, at bl, f says what stands in each; all made behind H0 -/
structure BSt (H0 H : Hp) (B : Addr) (bl : List Addr) (f : Nat → List Nat) : Prop where
  same : Same H0 H
  b : H B = some (.lst (refs bl))
  at_ : ∀ i a, bl[i]? = some a → H a = some (.lst (nats (f i)))
  new : ∀ a ∈ bl, H0 a = none
  nd : bl.Nodup
  nb : B ∉ bl
theorem BSt.keep {H0 H H' : Hp} {B : Addr} {bl : List Addr} {f : Nat → List Nat} (s : BSt H0 H B bl f) (k : Same H H') : BSt H0 H' B bl f :=
  ⟨s.same.trans k, k _ _ s.b, fun i a h => k _ _ (s.at_ i a h), s.new, s.nd, s.nb⟩
theorem BSt.wr {H0 H : Hp} {B q : Addr} {bl : List Addr} {f : Nat → List Nat} {o : HO} (s : BSt H0 H B bl f) (h0 : H0 q = none) (h1 : q ≠ B) (h2 : q ∉ bl) : BSt H0 (upd H q o) B bl f := by
  refine ⟨fun b u e => ?_, by rw [upd_ne (Ne.symm h1)]; exact s.b, fun i a h => ?_, s.new, s.nd, s.nb⟩
  · rw [upd_ne (ne_of_none e h0)]
    exact s.same _ _ e
  · rw [upd_ne (fun z => h2 (by rw [← z]; exact List.mem_of_getElem? h))]
    exact s.at_ i a h
theorem BSt.add {H0 H : Hp} {B a : Addr} {bl : List Addr} {f : Nat → List Nat} {i x : Nat} (s : BSt H0 H B bl f) (ha : bl[i]? = some a) : BSt H0 (upd H a (.lst (nats (f i) ++ [V.int (x : Nat)]))) B bl (addTo f i x) := by
  have hm := List.mem_of_getElem? ha
  refine ⟨fun b u e => ?_, by rw [upd_ne (fun z => s.nb (by rw [z]; exact hm))]; exact s.b, fun j c h => ?_, s.new, s.nd, s.nb⟩
  · rw [upd_ne (ne_of_none e (s.new a hm))]
    exact s.same _ _ e
  · unfold addTo
    by_cases e : j = i
    · subst e
      rw [ha] at h
      cases h
      rw [if_pos rfl, upd_same, nats_app]
      rfl
    · rw [if_neg e, upd_ne (fun z => e (nd_ix s.nd h (by rw [z]; exact ha)))]
      exact s.at_ j c h
def lenAt (H : Hp) (a : Addr) : Nat := match H a with
  | some (.lst xs) => xs.length
  | _ => 0
def noAt (H : Hp) (a : Addr) : Nat := match H a with
  | some (.lst xs) => xs.countP fun v => match v with | .bl b => !b | _ => false
  | _ => 0
theorem lenAt_of {H : Hp} {a : Addr} {ns : List Nat} (h : H a = some (.lst (nats ns))) : lenAt H a = ns.length := by
  unfold lenAt
  rw [h]
  exact List.length_map _
theorem noAt_of {H : Hp} {a : Addr} {r : List Bool} (h : H a = some (.lst (r.map V.bl))) : noAt H a = r.count false := by
  unfold noAt
  rw [h]
  show (r.map V.bl).countP _ = _
  rw [List.countP_map]
  refine List.countP_congr fun b _ => ?_
  cases b <;> simp
theorem take_ends {H : Hp} {ps : List (Nat × Nat)} {i : Nat} {p : Nat × Nat} (h : ps[i]? = some p) : ps.take (i + 1) = ps.take i ++ [p] := by
  rw [List.take_succ, h]
  rfl
theorem fdiv4 (x : Nat) : ((x : Nat) : Int) / 4 = ((x / 4 : Nat) : Int) := by omega
theorem nodup_app {α : Type} {l : List α} {x : α} (h : l.Nodup) (hx : x ∉ l) : (l ++ [x]).Nodup := by
  refine List.nodup_append.mpr ⟨h, by simp, fun a ha b hb => ?_⟩
  rw [List.mem_singleton.mp hb]
  exact fun e => hx (e ▸ ha)
theorem ix_nat {n j : Nat} (h : j < n) : ixN n ((j : Nat) : Int) = some j := by
  unfold ixN
  rw [if_pos (by omega), if_pos (by omega)]
  rfl
theorem flat_rep {α : Type} (x : α) : ∀ n : Nat, (List.replicate n [x]).flatten = List.replicate n x
  | 0 => rfl
  | n + 1 => by
    rw [List.replicate_succ, List.flatten_cons, flat_rep x n, List.replicate_succ]
    rfl
abbrev sBesideX : Stmt := top 24
abbrev nBesideX : List Str := ["lines", "many", "beside", "low", "high", "_"]
theorem scBesideX : FnScope nBesideX ["lines", "many"] (defScope sBesideX) := ⟨rfl, rfl, rfl, by decide +kernel, rfl, by decide +kernel, by decide +kernel⟩
/-- what is beside each of n crossings by these lines, told as lists in a list, all new -/
def spBesideX : Sp := fun vs H Q _ => ∃ (t : Addr) (n : Nat) (as : List Addr) (ps : List (Nat × Nat)), vs = [.ref t, .int (n : Nat)] ∧ H t = some (.tup (refs as)) ∧ PL H as ps ∧ (∀ p ∈ ps, p.1 < 4 * n ∧ p.2 < 4 * n) ∧ n ≤ 200 ∧ ps.length ≤ 400 ∧
  ∀ (H' : Hp) (D : Addr) (bl : List Addr) (f : Nat → List Nat), BSt H H' D bl f → H D = none → bl.length = n → Beside ps f → Q (.ref D) H'
section
variable {P : Program} {w : World} {K : PySem.W.Frag} {mg : Str → Option Value} {base : Heap}
theorem ok_besideX {f : Addr} {fd : FuncData} (F : Fun K "crossings_beside" "crossings_beside" sBesideX f fd) (T : TB mg) (C : TC mg) : FnOk P w K mg base CX0 1 f fd ["lines", "many"] spBesideX := by
  refine F.ok scBesideX (fun vs H Q E h => ?_) (fun cdv A outer s H vs Q E hr h => ?_)
  · obtain ⟨t, n, as, ps, rfl, _⟩ := h
    rfl
  · obtain ⟨t, n, as, ps, rfl, ht, hP, hA, hn, hpl, k⟩ := h
    have nd := scBesideX.nd
    obtain ⟨t4, ht4⟩ := C.places
    refine ⟨_, pss_cons (ps_setLc (i := 2) (own := [("_", 5)]) (g := gName 5) (tt := tYes) (te := tLst tNil) rfl nd rfl rfl (sw_true rfl rfl rfl (by decide +kernel)) (pi_range1 (by rfl) T.range (pa_cons (pv 1) pa_nil)) (blkOk_by (N := nBesideX) (sc := defScope sBesideX) (by decide +kernel))
        (fun _ _ _ _ _ => pg_name (i := 5) nd rfl (Or.inl rfl)) (fun _ _ _ _ _ => pts_nil) (fun _ _ _ _ _ => pe_lst pa_nil))
      (pss_cons (ps_for PassesOwn.never rfl (pi_tup (pv 0)) (pg_tup rfl (pgs_cons (pg_name (i := 3) nd rfl (Or.inl rfl)) (pgs_cons (pg_name (i := 4) nd rfl (Or.inl rfl)) pgs_nil)))
        (pss_cons (ps_expr (pe_bm PySem.F.plainAttrs_list PySem.F.slot_list_append PySem.F.type_list_append mt_append (pe_ix ix_list (pv 2) (pe_op op_fdiv (pv 3) (pe_glob (v := .int 4) rfl ht4 ⟨_, rfl⟩)) (fun _ _ => rfl)) (pa_cons (pe_op op_fdiv (pv 4) (pe_glob (v := .int 4) rfl ht4 ⟨_, rfl⟩)) pa_nil)))
        (pss_one (ps_expr (pe_bm PySem.F.plainAttrs_list PySem.F.slot_list_append PySem.F.type_list_append mt_append (pe_ix ix_list (pv 2) (pe_op op_fdiv (pv 4) (pe_glob (v := .int 4) rfl ht4 ⟨_, rfl⟩)) (fun _ _ => rfl)) (pa_cons (pe_op op_fdiv (pv 3) (pe_glob (v := .int 4) rfl ht4 ⟨_, rfl⟩)) pa_nil))))))
      (pss_one (ps_ret (pv 2)))), ?_⟩
    have hal : as.length = ps.length := hP.len
    have nl : (refs as).length = as.length := List.length_map _
    refine ⟨_, rfl, n, rfl, by omega, by omega, fun D hD => ?_⟩
    refine lc_it (walk_range (lo := 0) (n := ((n : Nat) : Int).toNat)) (fun i H6 => ∃ bl : List Addr, BSt H H6 D bl (fun _ => []) ∧ bl.length = i) ⟨[], ⟨Same.new hD, upd_same, fun i a h => absurd h (by simp), fun a h => absurd h (by simp), .nil, by simp⟩, rfl⟩ (fun _ _ _ _ => trivial) ?_ ?_
    · rintro i x H6 H7 hi ⟨bl, hB, hl⟩ ⟨rfl, rfl⟩
      refine ⟨rfl, yes ⟨Nat.zero_le _, fun l hl' => ⟨_, (Same.new hl') _ _ hB.b, small1000 ?_, bl ++ [l], ?_, ?_⟩⟩⟩
      · rw [List.length_map]
        omega
      · have s1 := Same.new (o := .lst []) hl'
        have h0 : H l = none := hB.same.free hl'
        have nlD : l ≠ D := (ne_of_none hB.b hl').symm
        have nlb : l ∉ bl := fun m => by
          obtain ⟨j, hj, e⟩ := List.mem_iff_getElem.mp m
          have q := hB.at_ j l (by rw [List.getElem?_eq_getElem hj, e])
          rw [hl'] at q
          cases q
        refine ⟨fun b u e => ?_, by rw [upd_same, refs_app]; rfl, fun j a h => ?_, fun a m => ?_, nodup_app hB.nd nlb, fun m => ?_⟩
        · rw [upd_ne (ne_of_none e hD)]
          exact s1 _ _ (hB.same _ _ e)
        · by_cases hj : j < bl.length
          · rw [List.getElem?_append_left hj] at h
            have q := hB.at_ j a h
            rw [upd_ne (fun z => hB.nb (by rw [← z]; exact List.mem_of_getElem? h))]
            exact s1 _ _ q
          · rw [List.getElem?_append_right (by omega)] at h
            have ea : a = l := by
              have := List.mem_of_getElem? h
              exact List.mem_singleton.mp this
            rw [ea, upd_ne nlD, upd_same]
            rfl
        · rcases List.mem_append.mp m with m | m
          · exact hB.new a m
          · rw [List.mem_singleton.mp m]
            exact h0
        · rcases List.mem_append.mp m with m | m
          · exact hB.nb m
          · exact nlD (List.mem_singleton.mp m).symm
      · rw [List.length_append, hl]
        rfl
    · rintro H6 ⟨bl, hB, hl⟩
      have hl : bl.length = n := by rw [hl]; omega
      refine ⟨_, rfl, t, rfl, ⟨_, SqT.of (hB.same _ _ ht)⟩, for_tup (K := K) (a := t) (xs := refs as) (fun i σ H7 => ∃ (f : Nat → List Nat) (v2 v3 : Option V), σ = [some (.ref t), some (.int (n : Nat)), some (.ref D), v2, v3, none] ∧ BSt H H7 D bl f ∧ Beside (ps.take i) f ∧ ∀ j, (f j).length ≤ 2 * i)
        ⟨fun _ => [], none, none, rfl, hB, beside_nil, fun _ => Nat.zero_le _⟩ (fun i σ H7 _ ⟨f, _, _, _, h, _⟩ => SqT.of (h.same _ _ ht)) ?_ ?_⟩
      · rintro i x σ H7 hx ⟨f, v2, v3, rfl, hB7, hbs, hfl⟩
        obtain ⟨a, ha⟩ : ∃ a, as[i]? = some a := by
          rw [List.getElem?_map] at hx
          cases e : as[i]? with
          | none =>
            rw [e] at hx
            cases hx
          | some a => exact ⟨a, rfl⟩
        rw [List.getElem?_map, ha] at hx
        cases hx
        obtain ⟨p, hp, pa⟩ := hP.got ha
        have hi : i < ps.length := by
          have := (List.getElem?_eq_some_iff.mp ha).1
          omega
        obtain ⟨q1, q2⟩ := hA p (List.mem_of_getElem? hp)
        have g1 : p.1 / 4 < bl.length := by omega
        have g2 : p.2 / 4 < bl.length := by omega
        obtain ⟨b1, hb1⟩ : ∃ b, bl[p.1 / 4]? = some b := ⟨_, List.getElem?_eq_getElem g1⟩
        obtain ⟨b2, hb2⟩ : ∃ b, bl[p.2 / 4]? = some b := ⟨_, List.getElem?_eq_getElem g2⟩
        have pa7 := hB7.same _ _ pa
        refine ⟨a, _, rfl, SqT.of pa7, rfl, _, _, rfl, _, _, rfl, rfl, ?_⟩
        have c1 := hB7.at_ _ _ hb1
        refine ⟨_, rfl, _, rfl, _, _, rfl, rfl, ⟨by decide, by decide⟩, D, _, _, .ref b1, rfl, rfl, SqL.of hB7.b, (by show atI _ (((p.1 : Nat) : Int) / 4) = _; rw [fdiv4]; exact ref_at hb1), .inl ⟨rfl, _, SqL.of c1⟩, _, rfl, _, _, rfl, rfl, ⟨by decide, by decide⟩, b1, _, _, rfl, rfl, c1, small1000 ?_, ?_⟩
        · rw [List.length_map]
          have := hfl (p.1 / 4)
          omega
        have hB8 : BSt H (upd H7 b1 (.lst (nats (f (p.1 / 4)) ++ [V.int (((p.2 : Nat) : Int) / 4)]))) D bl (addTo f (p.1 / 4) (p.2 / 4)) := by
          rw [fdiv4]
          exact hB7.add hb1
        have c2 := hB8.at_ _ _ hb2
        refine ⟨_, rfl, _, rfl, _, _, rfl, rfl, ⟨by decide, by decide⟩, D, _, _, .ref b2, rfl, rfl, SqL.of hB8.b, (by show atI _ (((p.2 : Nat) : Int) / 4) = _; rw [fdiv4]; exact ref_at hb2), .inl ⟨rfl, _, SqL.of c2⟩, _, rfl, _, _, rfl, rfl, ⟨by decide, by decide⟩, b2, _, _, rfl, rfl, c2, small1000 ?_, ?_⟩
        · rw [List.length_map]
          have := hfl (p.2 / 4)
          unfold addTo
          split
          · rw [List.length_append, List.length_singleton]
            omega
          · omega
        have hB9 : BSt H (upd (upd H7 b1 (.lst (nats (f (p.1 / 4)) ++ [V.int (((p.2 : Nat) : Int) / 4)]))) b2 (.lst (nats (addTo f (p.1 / 4) (p.2 / 4) (p.2 / 4)) ++ [V.int (((p.1 : Nat) : Int) / 4)]))) D bl (addTo (addTo f (p.1 / 4) (p.2 / 4)) (p.2 / 4) (p.1 / 4)) := by
          rw [fdiv4 p.1]
          exact hB8.add hb2
        refine ⟨_, _, _, rfl, hB9, ?_, fun j => ?_⟩
        · rw [take_ends (H := H) hp]
          exact beside_add p hbs
        · have := hfl j
          unfold addTo
          split <;> split <;> (try simp only [List.length_append, List.length_singleton]) <;> omega
      · rintro σ H7 ⟨f, v2, v3, rfl, hB7, hbs, hfl⟩
        rw [nl, hP.len, List.take_length] at hbs
        exact ⟨_, rfl, k _ D bl f hB7 hD hl hbs⟩
end
end One
end P_R1

section P_R2
set_option linter.all false
set_option maxRecDepth 100000
set_option maxHeartbeats 8000000
namespace One
open PySem PySem.Spec PyProof.Rows L2
abbrev sReached : Stmt := top 14
abbrev nReached : List Str := ["beside", "start", "told", "waiting", "other"]
theorem scReached : FnScope nReached ["beside", "start"] (defScope sReached) := ⟨rfl, rfl, rfl, by decide +kernel, rfl, by decide +kernel, by decide +kernel⟩
/-- lists of numbers in a list -/
structure LL (H : Hp) (B : Addr) (bl : List Addr) (f : Nat → List Nat) : Prop where
  b : H B = some (.lst (refs bl))
  at_ : ∀ i a, bl[i]? = some a → H a = some (.lst (nats (f i)))
theorem LL.keep {H H' : Hp} {B : Addr} {bl : List Addr} {f : Nat → List Nat} (s : LL H B bl f) (k : Same H H') : LL H' B bl f := ⟨k _ _ s.b, fun i a h => k _ _ (s.at_ i a h)⟩
theorem BSt.ll {H0 H : Hp} {B : Addr} {bl : List Addr} {f : Nat → List Nat} (s : BSt H0 H B bl f) : LL H B bl f := ⟨s.b, s.at_⟩
/-- to which numbers one comes from s, told as a new list of truths -/
def spReached : Sp := fun vs H Q _ => ∃ (B : Addr) (bl : List Addr) (f : Nat → List Nat) (n s : Nat), vs = [.ref B, .int (s : Nat)] ∧ LL H B bl f ∧ bl.length = n ∧ s < n ∧ n ≤ 200 ∧ (∀ i j, i < n → j ∈ f i → j < n) ∧
  ∀ (H' : Hp) (R4 : Addr) (r : List Bool), Same H H' → H R4 = none → H' R4 = some (.lst (r.map V.bl)) → Dfs s n f r [] (fun _ => False) → Q (.ref R4) H'
section
variable {P : Program} {w : World} {K : PySem.W.Frag} {mg : Str → Option Value} {base : Heap}
theorem ok_reached {f : Addr} {fd : FuncData} (F : Fun K "reached" "reached" sReached f fd) (T : TB mg) : FnOk P w K mg base CX0 1 f fd ["beside", "start"] spReached := by
  refine F.ok scReached (fun vs H Q E h => ?_) (fun cdv A outer s H vs Q E hr h => ?_)
  · obtain ⟨B, bl, g, n, st, rfl, _⟩ := h
    rfl
  · obtain ⟨B, bl, g, n, st, rfl, hL, hl, hs, hn, flt, k⟩ := h
    have nd := scReached.nd
    refine ⟨_, pss_cons (ps_set (i := 2) nd rfl (Or.inl rfl) (pe_op op_rep (pe_lst (pa_cons pe_bl pa_nil)) (pe_callB call_len_seq (by rfl) T.len PySem.boot_len (pa_cons (pv 0) pa_nil))))
      (pss_cons (ps_asg pe_bl (pg_sub (pv 2) (pv 1) set_list))
      (C8.pss_cut (ps_set (i := 3) nd rfl (Or.inl rfl) (pe_lst (pa_cons (pv 1) pa_nil)))
      (pss_cons (ps_while PassesOwn.never (pt_truth (pv 3) (by intro _; rfl))
        (pss_one (ps_for PassesOwn.never rfl (pi_list (pe_ix ix_list (pv 0) (pe_bm0 PySem.F.plainAttrs_list PySem.F.slot_list_pop PySem.F.type_list_pop mt_pop (pv 3)) (fun _ _ => rfl))) (pg_name (i := 4) nd rfl (Or.inl rfl))
          (pss_one (ps_if (pt_not (pt_val (pe_ix ix_list (pv 2) (pv 4) (fun _ _ => rfl)))) (pss_cons (ps_asg pe_bl (pg_sub (pv 2) (pv 4) set_list))
            (pss_one (ps_expr (pe_bm PySem.F.plainAttrs_list PySem.F.slot_list_append PySem.F.type_list_append mt_append (pv 3) (pa_cons (pv 4) pa_nil))))) pss_nil)))))
      (pss_one (ps_ret (pv 2)))))), ?_⟩
    have nlb : (((refs bl).length : Nat)) = n := by rw [List.length_map]; exact hl
    refine ⟨by show 1 ≤ sizeLine; decide, fun l1 hl1 => ⟨_, rfl, B, _, rfl, .inl (SqL.of ((Same.new hl1) _ _ hL.b)), ?_⟩⟩
    have s1 := Same.new (o := .lst [V.bl false]) hl1
    refine ⟨l1, _, _, rfl, rfl, upd_same, by omega, by omega, (by rw [nlb]; show 1 * _ ≤ _; exact Nat.le_of_lt (small1000 (by omega))), fun R4 hR4 => ?_⟩
    have s2 := Same.new (o := .lst (List.replicate (((refs bl).length : Nat) : Int).toNat [V.bl false]).flatten) hR4
    have eR : (List.replicate (((refs bl).length : Nat) : Int).toNat [V.bl false]).flatten = (List.replicate n false).map V.bl := by
      rw [nlb, show ((n : Nat) : Int).toNat = n by omega, List.map_replicate]
      exact flat_rep _ n
    have hR0 : H R4 = none := s1.free hR4
    have s12 := s1.trans s2
    refine ⟨_, rfl, _, rfl, R4, _, _, st, rfl, rfl, upd_same, ix_nat (by rw [eR, List.length_map, List.length_replicate]; exact hs), ?_⟩
    rw [eR]
    rw [eR] at s12
    have sa : Same H (upd (upd (upd H l1 (.lst [V.bl false])) R4 (.lst ((List.replicate n false).map V.bl))) R4 (.lst (((List.replicate n false).map V.bl).set st (V.bl true)))) := fun b u e => by
      rw [upd_ne (ne_of_none e hR0)]
      exact s12 _ _ e
    have setR : ∀ (r : List Bool) (j : Nat), (r.map V.bl).set j (V.bl true) = (r.set j true).map V.bl := fun r j => (List.map_set).symm
    refine ⟨fun σ H9 => ∃ (W : Addr) (r : List Bool) (w : List Nat) (v4 : Option V), (H W = none ∧ W ≠ R4) ∧ σ = [some (.ref B), some (.int (st : Nat)), some (.ref R4), some (.ref W), v4] ∧ Same H H9 ∧ H9 R4 = some (.lst (r.map V.bl)) ∧ H9 W = some (.lst (nats w)) ∧ Dfs st n g r w (fun _ => False) ∧ w.length + r.count false ≤ n, ⟨_, rfl, ⟨by show 1 ≤ sizeLine; decide, fun W hW => ?_⟩⟩, ?_⟩
    · have s3 := Same.new (o := .lst [V.int (st : Nat)]) hW
      have hW0 : H W = none := sa.free hW
      have nWR : W ≠ R4 := (ne_of_none upd_same hW).symm
      refine ⟨W, (List.replicate n false).set st true, [st], none, ⟨hW0, nWR⟩, rfl, sa.trans s3, ?_, upd_same, dfs_start g hs, ?_⟩
      · rw [upd_ne (Ne.symm nWR), upd_same, setR]
      · have := count_set (r := List.replicate n false) (j := st) (by rw [List.getElem?_replicate, if_pos hs])
        rw [List.count_replicate_self] at this
        show 1 + _ ≤ n
        omega
    · rintro σ0 H0 ⟨W, r0, w0, v4', ⟨hW0, nWR⟩, rfl, sH0, hR0', hw0, hd0, hm0⟩
      unfold tSeq
      refine while_by (fun σ H9 => ∃ (r : List Bool) (w : List Nat) (v4 : Option V), σ = [some (.ref B), some (.int (st : Nat)), some (.ref R4), some (.ref W), v4] ∧ Same H H9 ∧ H9 R4 = some (.lst (r.map V.bl)) ∧ H9 W = some (.lst (nats w)) ∧ Dfs st n g r w (fun _ => False) ∧ w.length + r.count false ≤ n)
        (fun σ H9 => 2 * noAt H9 R4 + lenAt H9 W) ⟨r0, w0, v4', rfl, sH0, hR0', hw0, hd0, hm0⟩ ?_ ?_
      · rintro σ H9 ⟨r, w, v4, rfl, sH, hR, hw, hd, hm⟩
        refine ⟨_, rfl, _, .inl ⟨_, SqL.of hw, rfl⟩, ?_⟩
        rcases List.eq_nil_or_concat w with rfl | ⟨w', c, rfl⟩
        · refine iteF ?_
          exact ⟨_, rfl, k _ R4 r sH hR0 hR hd⟩
        · rw [List.concat_eq_append] at hw hd hm ⊢
          have hne : (!(nats (w' ++ [c])).isEmpty) = true := by
            rw [nats_app]
            cases nats w' <;> rfl
          rw [hne]
          refine iteT ?_
          have hlast : (nats (w' ++ [c]))[(nats (w' ++ [c])).length - 1]? = some (V.int (c : Nat)) := by
            rw [nats_app, List.length_append]
            show (nats w' ++ [V.int (c : Nat)])[(nats w').length + 1 - 1]? = _
            rw [Nat.add_sub_cancel, List.getElem?_append_right (Nat.le_refl _), Nat.sub_self]
            rfl
          have hdrop : (nats (w' ++ [c])).dropLast = nats w' := by
            rw [nats_app]
            exact List.dropLast_concat
          have sH1 : Same H (upd H9 W (.lst (nats w'))) := fun b u e => by
            rw [upd_ne (ne_of_none e hW0)]
            exact sH _ _ e
          have hL1 := hL.keep sH1
          refine ⟨_, rfl, _, rfl, .inl ⟨rfl, _, SqL.of hw⟩, W, _, _, rfl, rfl, hw, hlast, ?_⟩
          rw [hdrop]
          have hRc : R r c := hd.wt c (List.mem_append.mpr (.inr (List.mem_singleton.mpr rfl)))
          have hcn : c < n := by
            have := (List.getElem?_eq_some_iff.mp hRc).1
            rw [hd.len] at this
            exact this
          have hR1 : (upd H9 W (.lst (nats w'))) R4 = some (.lst (r.map V.bl)) := by
            rw [upd_ne (Ne.symm nWR)]
            exact hR
          obtain ⟨b, hb⟩ : ∃ b, bl[c]? = some b := ⟨_, List.getElem?_eq_getElem (by omega)⟩
          have hbf := hL.at_ _ _ hb
          rw [List.length_append, List.length_singleton] at hm
          have hmu : 2 * noAt H9 R4 + lenAt H9 W = 2 * r.count false + (w'.length + 1) := by
            rw [noAt_of hR, lenAt_of hw, List.length_append, List.length_singleton]
          refine ⟨B, _, _, .ref b, rfl, rfl, SqL.of hL1.b, ref_at hb, b, rfl, ⟨_, SqL.of (sH1 _ _ hbf)⟩, for_list (K := K) (a := b) (xs := nats (g c)) (fun m σ Hm => ∃ (r2 : List Bool) (w2 : List Nat) (v4 : Option V), σ = [some (.ref B), some (.int (st : Nat)), some (.ref R4), some (.ref W), v4] ∧
              Same H Hm ∧ Hm R4 = some (.lst (r2.map V.bl)) ∧ Hm W = some (.lst (nats w2)) ∧ Dfs st n g r2 w2 (· = c) ∧ R r2 c ∧ w2.length + r2.count false + 1 ≤ n ∧ 2 * r2.count false + w2.length + 1 ≤ 2 * r.count false + (w'.length + 1) ∧ ∀ j ∈ (g c).take m, R r2 j)
            ⟨r, w', v4, rfl, sH1, hR1, upd_same, dfs_pop hd, hRc, by omega, by omega, fun j hj => absurd hj (by simp)⟩ (fun m σ Hm _ ⟨_, _, _, _, h, _⟩ => SqL.of (h _ _ hbf)) ?_ ?_⟩
          · rintro m x σ Hm hx ⟨r2, w2, v4, rfl, sH2, hR2, hw2, hd2, hRc2, hm1, hm2, hdone⟩
            obtain ⟨j, hj⟩ : ∃ j, (g c)[m]? = some j := by
              rw [List.getElem?_map] at hx
              cases e : (g c)[m]? with
              | none =>
                rw [e] at hx
                cases hx
              | some a => exact ⟨a, rfl⟩
            rw [List.getElem?_map, hj] at hx
            cases hx
            have hjf : j ∈ g c := List.mem_of_getElem? hj
            have hjn : j < n := flt c j hcn hjf
            have hjr : j < r2.length := by rw [hd2.len]; exact hjn
            obtain ⟨b2, hb2⟩ : ∃ b, r2[j]? = some b := ⟨_, List.getElem?_eq_getElem hjr⟩
            have etake : (g c).take (m + 1) = (g c).take m ++ [j] := by
              rw [List.take_succ, hj]
              rfl
            refine ⟨_, rfl, _, rfl, R4, _, _, .bl b2, rfl, rfl, SqL.of hR2, at_of (j := j) rfl (by rw [List.getElem?_map, hb2]; rfl), b2, rfl, ?_⟩
            cases b2 with
            | true =>
              refine iteF ⟨r2, w2, _, rfl, sH2, hR2, hw2, hd2, hRc2, hm1, hm2, fun i hi => ?_⟩
              rw [etake] at hi
              rcases List.mem_append.mp hi with hi | hi
              · exact hdone i hi
              · rw [List.mem_singleton.mp hi]
                exact hb2
            | false =>
              have hcnt := count_set hb2
              refine iteT ⟨_, rfl, _, rfl, R4, _, _, j, rfl, rfl, hR2, ix_nat (by rw [List.length_map]; exact hjr), ?_⟩
              have hw3 : (upd Hm R4 (.lst ((r2.map V.bl).set j (V.bl true)))) W = some (.lst (nats w2)) := by
                rw [upd_ne nWR]
                exact hw2
              refine ⟨_, rfl, .inl ⟨rfl, _, SqL.of hw3⟩, _, rfl, W, _, _, rfl, rfl, hw3, small1000 (by rw [List.length_map]; omega), ?_⟩
              refine ⟨r2.set j true, w2 ++ [j], _, rfl, (fun b u e => ?_), ?_, ?_, dfs_mark hd2 hRc2 hjf hjn, R_set hRc2, ?_, ?_, fun i hi => ?_⟩
              · rw [upd_ne (ne_of_none e hW0), upd_ne (ne_of_none e hR0)]
                exact sH2 _ _ e
              · rw [upd_ne (Ne.symm nWR), upd_same, setR]
              · rw [upd_same, nats_app]
                rfl
              · rw [List.length_append, List.length_singleton]
                omega
              · rw [List.length_append, List.length_singleton]
                omega
              · rw [etake] at hi
                rcases List.mem_append.mp hi with hi | hi
                · exact R_set (hdone i hi)
                · rw [List.mem_singleton.mp hi]
                  exact R_new hjr
          · rintro σ Hm ⟨r2, w2, v4, rfl, sH2, hR2, hw2, hd2, hRc2, hm1, hm2, hdone⟩
            rw [List.length_map, List.take_length] at hdone
            refine ⟨⟨r2, w2, _, rfl, sH2, hR2, hw2, dfs_finish hd2 hdone, by omega⟩, ?_⟩
            show 2 * noAt Hm R4 + lenAt Hm W < 2 * noAt H9 R4 + lenAt H9 W
            rw [hmu, noAt_of hR2, lenAt_of hw2]
            omega
      · intro σ H1 Q1 Q2 hq h
        obtain ⟨v, e, kk, ht, q⟩ := h
        exact ⟨v, e, kk, ht, hq _ _ q⟩
end
end One
end P_R2

section P_E4
set_option linter.all false
set_option maxRecDepth 100000
set_option maxHeartbeats 4000000
namespace One
open PySem PySem.Spec PyProof.Rows L2
section
variable {P : Program} {w : World} {K : PySem.W.Frag} {mg : Str → Option Value} {base : Heap}
theorem ok_iswhole {f fR fB : Addr} {fd fdR fdB : FuncData} (F : Fun K "is_whole" "is_whole" sIsWhole f fd) (T : TB mg) (DR : Cal K mg "reached" fR fdR ["beside", "start"]) (GR : FnOk P w K mg base CX0 1 fR fdR ["beside", "start"] spReached)
    (DB : Cal K mg "crossings_beside" fB fdB ["lines", "many"]) (GB : FnOk P w K mg base CX0 1 fB fdB ["lines", "many"] spBesideX) : FnOk P w K mg base CX0 2 f fd ["lines"] spIsWhole := by
  refine F.ok scIsWhole (fun vs H Q E h => ?_) (fun cdv A outer s H vs Q E hr h => ?_)
  · obtain ⟨t, n, as, ps, rfl, _⟩ := h
    rfl
  · obtain ⟨t, n, as, ps, rfl, ht, hP, hA, hn, k⟩ := h
    refine ⟨_, pss_one (ps_ret (pe_callB (cr_all rfl) (by rfl) T.all boot_all (pa_cons (pe_call GR hr rfl DR.g DR.kp DR.b .nil pass0 (pa_cons (pe_call GB hr rfl DB.g DB.kp DB.b .nil pass0 (pa_cons (pv 0) (pa_cons (pe_op op_fdiv (pe_callB call_len_seq (by rfl) T.len PySem.boot_len (pa_cons (pv 0) pa_nil)) pe_int) pa_nil))) (pa_cons pe_int pa_nil))) pa_nil))), ?_⟩
    have hal : as.length = 2 * n := by rw [hP.len, hA.len]
    have nl : (refs as).length = as.length := List.length_map _
    have e2 : (((refs as).length : Nat) : Int) / 2 = (n : Nat) := by rw [nl, hal]; omega
    refine ⟨_, rfl, _, rfl, t, _, rfl, .inr (SqT.of ht), _, _, rfl, rfl, ⟨by decide, by decide⟩, t, n, as, ps, (by show [V.ref t, V.int ((((refs as).length : Nat) : Int) / 2)] = _; rw [e2]), ht, hP, hA.lt, by omega, (by rw [hA.len]; omega), fun H1 D bl g hB hD hl hbs => ?_⟩
    refine ⟨D, bl, g, n, 0, rfl, hB.ll, hl, hA.pos, by omega, fun i j hi hj => ?_, fun H2 R4 r s2 hR0 hR hd => ?_⟩
    · obtain ⟨p, hp, q⟩ := (hbs i j).mp hj
      obtain ⟨q1, q2⟩ := hA.lt p hp
      rcases q with ⟨_, q⟩ | ⟨_, q⟩ <;> omega
    · exact ⟨R4, r, rfl, SqL.of hR, k _ _ (hB.same.trans s2) (dfs_whole hbs hd)⟩
end
end One
end P_E4

section P_E5
set_option linter.all false
set_option maxRecDepth 100000
set_option maxHeartbeats 4000000
namespace One
open PySem PySem.Spec PyProof.Rows L2
/-! ### enumerate of a tuple -/
theorem enum_newT (tt : Addr) (xs : Array Value) (sz : Nat) (dc : Option Addr) (sl : Array (Option Value)) :
    Meets (Builtin.«enumerate.__new__» ⟨[.type "enumerate", .ref tt], []⟩) (fun _ R s => s.heap.get? tt = some ⟨.type "tuple", dc, .seq xs sz, sl⟩ ∧
      R (.ok (.ret (.ref (s.heap.push { cls := .type "tuple_iterator", data := .fields #[.ref tt, .int 0 0] }).objs.size)))
        { s with heap := (s.heap.push { cls := .type "tuple_iterator", data := .fields #[.ref tt, .int 0 0] }).push { cls := .type "enumerate", data := .fields #[.none, .bool false, .ref s.heap.objs.size, rawInt 0, .none, .none] } }) :=
  .of_wp fun prog w A R s q => by
    obtain ⟨hp, g, d, tk, os⟩ := s
    obtain ⟨hl, q⟩ := q
    have su := sub_enumerate
    have hT : Heap.IsTuple (Shared.heap ⟨hp, g, d, tk, os⟩) tt xs := ⟨_, hl, rfl, sz, rfl⟩
    wp_walk using AutoSeq1.wpAny_loadPart' hl
    refine wpAny_stack_any fun stk => wpAny_pure ?_
    split
    · rename_i cl _ _ _ _ _
      cases (cl == Value.type "enumerate") <;> (wp_walk using AutoSeq1.wpAny_loadPart' hl, wpAny_pyIter_tuple hT; exact ⟨_, rfl, q⟩)
    · wp_walk using AutoSeq1.wpAny_loadPart' hl, wpAny_pyIter_tuple hT
      exact ⟨_, rfl, q⟩
section
variable {prog : Program} {w : World} {A : Around} {E : Value → Shared → Prop} {s : Shared}
theorem call_enumT {tt : Addr} {xs : Array Value} {Q : Value → Shared → Prop} (hL : s.heap.IsTuple tt xs)
    (k : ∀ g, IsEnum g (s.heap.objs.size + 1) s.heap.objs.size 0 .none → g.IsTupleIter s.heap.objs.size tt 0 → (∀ b o, s.heap.get? b = some o → g.get? b = some o) → Q (.ref (s.heap.objs.size + 1)) { s with heap := g }) :
    wpAny (model prog w) A (call (.type "enumerate") [.ref tt]) Q E s := by
  obtain ⟨⟨cl, dc, da, sl⟩, hl, hcl, sz, hda⟩ := hL
  dsimp only at hcl hda
  subst hcl hda
  refine callType_new F.called_enumerate (by decide) (F.typeCall_enumerate_1 _) (F.newCall_enumerate_1 _) (fun ob => F.args_object_init_2 ob _) F.entry_enumerate_new (enum_newT tt xs sz dc sl) ⟨hl, ?_⟩
  have e1 : (s.heap.push { cls := .type "tuple_iterator", data := .fields #[.ref tt, .int 0 0] }).objs.size = s.heap.objs.size + 1 := Heap.size_push ..
  show _ ∧ _
  rw [e1]
  have e2 : IsEnum ((s.heap.push { cls := .type "tuple_iterator", data := .fields #[.ref tt, .int 0 0] }).push { cls := .type "enumerate", data := .fields #[.none, .bool false, .ref s.heap.objs.size, rawInt 0, .none, .none] }) (s.heap.objs.size + 1) s.heap.objs.size 0 .none := by
    have z := Heap.get?_push_size (s.heap.push { cls := .type "tuple_iterator", data := .fields #[.ref tt, .int 0 0] }) (o := { cls := .type "enumerate", data := .fields #[.none, .bool false, .ref s.heap.objs.size, rawInt 0, .none, .none] }) rfl
    rw [e1] at z
    exact z
  exact ⟨⟨_, e2, rfl⟩, k _ e2 ⟨_, Heap.get?_push_of_some _ (Heap.get?_push_size _ rfl), rfl, rfl⟩ fun b o x => Heap.get?_push_of_some _ (Heap.get?_push_of_some _ x)⟩
end
/-- the tuple at a, each item in a new pair with its number -/
def IteT (K : PySem.W.Frag) (a : Addr) : It :=
  ⟨fun i H => ∃ (xs : List V) (x : V), SqT K H a xs ∧ xs[i]? = some x, fun i H v H' => ∃ T x, v = .ref T ∧ H T = none ∧ H' = upd H T (.tup [.int (i : Nat), x]) ∧ ∀ xs, SqT K H a xs → xs[i]? = some x, fun i H => ∃ xs : List V, SqT K H a xs ∧ xs.length ≤ i⟩
theorem turn_enumT {P : Program} {w : World} {K : PySem.W.Frag} {elts : List Expr} {kk : Nat} {tpos : Pos} (a e it : Addr) (hat : a ≠ it) (hae : a ≠ e) :
    Turn P w K (.Tuple elts kk tpos) (IteT K a) [e, it] e (fun i h => (∃ old, IsEnum h e it ((i : Nat) : Int) old) ∧ h.IsTupleIter it a i ∧ e ≠ it) where
  mem := List.mem_cons_self
  obj := fun i h st b hb => by
    obtain ⟨⟨old, he⟩, ⟨o, ho, _, hd⟩, _⟩ := st
    rcases List.mem_cons.mp hb with z | z
    · rw [z]
      exact ⟨_, he, fun v q => nomatch q⟩
    · exact ⟨o, by rw [List.mem_singleton.mp z]; exact ho, fun v q => by rw [hd] at q; cases q⟩
  keep := fun i h h' ⟨⟨old, he⟩, hi, hne⟩ k => ⟨⟨old, k e (by simp) _ he⟩, hi.at fun o e => k it (by simp) o e, hne⟩
  item := by
    intro X e1 e2 e3 hc i pins s σ H E I hf ⟨⟨old, he⟩, hit, hne⟩ ⟨xs, x, hq, hx⟩
    subst e1 e2 e3
    obtain ⟨its, rv, p, hz⟩ := I.tuple hq
    obtain ⟨u, hu, ru⟩ := rv.get hx
    have hel : e < s.heap.objs.size := Heap.lt_size he
    have hil : it < s.heap.objs.size := by
      obtain ⟨_, q, _⟩ := hit
      exact Heap.lt_size q
    have p' : s.heap.IsTuple a its.toArray := p
    have hlt : i < its.toArray.size := by
      rw [List.size_toArray]
      exact (List.getElem?_eq_some_iff.mp hu).1
    refine wpAny_pyNext_enum_itemD (fp := [it, a]) (Draws.tuple (A := X.A.in1) (show X.A.in1.handled = none from I.ok.hd hc) it a hat its.toArray) he ⟨hit, p'⟩ hlt hne (by simp [hne, Ne.symm hae]) fun x2 g tk hx2 ho hst hT hsz hk => ?_
    have ex : x2 = u := by
      have z : its.toArray[i]? = some x2 := hx2
      rw [List.getElem?_toArray, hu] at z
      exact (Option.some.inj z).symm
    subst ex
    refine ⟨_, rfl, wpAny_letOwnedTupleGo_enum (s := { s with heap := g, toks := tk + 1 }) ho fun g2 he2 sb => ?_⟩
    have hT2 : g2.get? s.heap.objs.size = some { cls := .type "tuple", data := .seq #[.int i tk, x2] } := (sb.2 _ (Nat.ne_of_gt hel)).trans hT
    have made : ObjOk X.prog X.w (upd H s.heap.objs.size (.tup [.int (i : Nat), x])) g2 s.heap.objs.size (.tup [.int (i : Nat), x]) :=
      ⟨two_le, [.int i tk, x2], .cons ⟨_, rfl⟩ (.cons ru .nil), ⟨_, hT2, rfl, _, rfl⟩⟩
    have I1 : Inv X pins σ (upd H s.heap.objs.size (.tup [.int (i : Nat), x])) { s with heap := g2, toks := tk + 1 } :=
      I.turnedNew (ch := [e, it]) (fun b ob hb q => (sb.2 b fun z => hb (by rw [z]; exact List.mem_cons_self)).trans (hk b ob (fun z => hb (by rw [z]; exact List.mem_cons_self)) (fun z => hb (by rw [z]; simp)) q)) hf (Nat.le_refl _) made
    have e0 : ((i + 1 : Nat) : Int) = (i : Int) + 1 := by omega
    refine ⟨.ref s.heap.objs.size, _, I1, rfl, ⟨_, x, rfl, I.hok.fresh (Nat.le_refl _), rfl, fun ys hy => by rw [I.tuple_inj hy hq]; exact hx⟩, ⟨⟨x2, by rw [e0]; exact he2⟩, hst.1.at fun o q => (sb.2 it (Ne.symm hne)).trans q, hne⟩, fun b hb => ?_⟩
    have lt : b < s.heap.objs.size := by
      rcases List.mem_cons.mp hb with z | z
      · rw [z]
        exact hel
      · rw [List.mem_singleton.mp z]
        exact hil
    exact (upd_ne (Nat.ne_of_lt lt)).trans (hf b hb).1
  done := by
    intro X e1 e2 e3 hc i pins s σ H E I hf ⟨⟨old, he⟩, hit, hne⟩ ⟨xs, hq, hx⟩
    subst e1 e2 e3
    obtain ⟨its, rv, p, hz⟩ := I.tuple hq
    obtain ⟨f0, f1, f2, f3, f4, f5⟩ := hf it (by simp)
    have hn : its.toArray.size ≤ i := by
      rw [List.size_toArray, ← rv.length]
      exact hx
    unfold pyNext
    have hT : s.TypeIs (.ref e) "enumerate" := ⟨_, he, rfl⟩
    refine wpAny_bind (wpAny_attempt (wpAny_callSpecial?_slot (name := Str.ofString "__next__") hT F.slot_enumerate_next (wpAny_call_entry F.slot_enumerate_next hT F.entry_enumerate_next ?_ (F.args_enumerate_next_1 _))))
    show wpAny _ _ (field (.ref e) 2 >>= _) _ _ _
    refine wpAny_bind (wpAny_field he rfl (x := .ref it) rfl (wpAny_bind (wpAny_nextOf_tuple_end (I.ok.hd hc) hit (show s.heap.IsTuple a its.toArray from p) (Array.getElem?_eq_none hn) fun g x hg ⟨o, ho, hco⟩ => ?_)))
    exact wpAny_bind (wpAny_isInstance (T := "StopIteration") (b := true) ⟨o, ho, hco⟩ isSubtype_stop (wpAny_pure ⟨rfl, I.turned (t' := s.toks) (fun b o hb e => hg b o hb e) f0 f1 f3 f4 f5⟩))
  self := fun A i s Q E ⟨⟨_, he⟩, _⟩ q => wpAny_pyIter_enum he q
def iEnumT (K : PySem.W.Frag) (ta : TA) : TI := fun σ H R => ta σ H fun vs H1 => ∃ a xs, vs = [.ref a] ∧ SqT K H1 a xs ∧ R (IteT K a) H1
theorem pi_enumT {X : Cx} {e : Expr} {ta : TA} {p pos tpos : Pos} {elts : List Expr} {kk : Nat} (hg : Gl X "enumerate") (hm : X.mg "enumerate" = none) (ha : PA X [e] ta) (hs : starEach [e] X.env = [(false, eval e X.env)] := by rfl) :
    PI X (.Tuple elts kk tpos) (.Call (.Name "enumerate" p) [e] [] pos) (iEnumT X.K ta) := by
  refine ⟨fun pins s σ H R I q0 => Call_ (ld_blt I hg hm boot_enumerate (PyProof.Rows.callWith_type1 (thn (ha.run pos pins s σ H _ I q0) fun us s1 ⟨vs, H1, I1, r1, a, xs, ex, hq, q⟩ => ?_) hs rfl))⟩
  subst ex
  cases r1 with
  | cons r rr =>
    cases rr
    cases r
    obtain ⟨its, rv, p', hz⟩ := I1.tuple hq
    have hal : a < s1.heap.objs.size := by
      obtain ⟨o, ho, _⟩ := p'
      exact Heap.lt_size ho
    refine call_enumT (show s1.heap.IsTuple a its.toArray from p') fun g he hit hk => wpAny_pyIter_enum he ?_
    have I2 : Inv X pins σ H1 { s1 with heap := g } := I1.kept (t' := s1.toks) hk
    refine ⟨s1.heap.objs.size + 1, [s1.heap.objs.size + 1, s1.heap.objs.size], _, _, H1, rfl, I2, turn_enumT a (s1.heap.objs.size + 1) s1.heap.objs.size (Nat.ne_of_lt hal) (Nat.ne_of_lt (Nat.lt_succ_of_lt hal)), ⟨⟨.none, he⟩, hit, Nat.succ_ne_self _⟩, fun b hb => ?_, q⟩
    have le : s1.heap.objs.size ≤ b := by
      rcases List.mem_cons.mp hb with z | z
      · rw [z]
        exact Nat.le_add_right _ _
      · rw [List.mem_singleton.mp z]
        exact Nat.le_refl _
    exact I1.fpOk le (I1.hok.fresh le)
theorem walk_enumT {K : PySem.W.Frag} {a : Addr} {xs : List V} : Walk (IteT K a) xs.length (fun H => SqT K H a xs) (YPair (fun i => some (.int (i : Nat))) (fun i => xs[i]?)) := by
  refine ⟨fun i _ hi q => ⟨xs, xs[i], q, List.getElem?_eq_getElem hi⟩, fun _ q => ⟨xs, q, Nat.le_refl _⟩, fun i H v H' _ q ⟨T, x, h1, h2, h3, h4⟩ => ⟨T, .int (i : Nat), x, h1, h2, h3, rfl, h4 xs q⟩⟩
end One
end P_E5

section P_M4
set_option linter.all false
namespace One
/-! ### the look at a yard, line by line -/
def leB (p q : Nat × Nat) : Bool := decide (p.1 < q.1) || (decide (p.1 = q.1) && decide (p.2 ≤ q.2))
def notUp (p : Nat × Nat) : Option (Nat × Nat) → Bool
  | none => false
  | some q => leB p q
/-- the number of the first thing that can't be: none is what is no line -/
def goF : Nat → List Nat → Option (Nat × Nat) → List (Option (Nat × Nat)) → Option Nat
  | _, _, _, [] => none
  | k, _, _, none :: _ => some k
  | k, met, ah, some p :: r => if notUp p ah || met.contains p.1 || met.contains p.2 then some k else goF (k + 1) (met ++ [p.1, p.2]) (some p) r
theorem goF_pairs : ∀ (os : List (Option (Nat × Nat))) (k : Nat) (met : List Nat) (ah : Option (Nat × Nat)), goF k met ah os = none → os = (os.filterMap id).map some
  | [], _, _, _, _ => rfl
  | none :: r, k, met, ah, h => by cases h
  | some p :: r, k, met, ah, h => by
    unfold goF at h
    split at h
    · cases h
    · have := goF_pairs r _ _ _ h
      simp only [List.filterMap_cons, id, List.map_cons]
      rw [← this]
theorem goF_good : ∀ (ps : List (Nat × Nat)) (k : Nat) (met : List Nat) (ah : Option (Nat × Nat)), (∀ q, ah = some q → ∀ p ∈ ps, ltP q p) → ps.Pairwise ltP → (met ++ ends ps).Nodup → goF k met ah (ps.map some) = none
  | [], _, _, _, _, _, _ => rfl
  | p :: r, k, met, ah, h1, h2, h3 => by
    obtain ⟨hp, hr⟩ := List.pairwise_cons.mp h2
    have h3 : (met ++ (p.1 :: p.2 :: ends r)).Nodup := h3
    have n1 : ¬ p.1 ∈ met := fun m => (List.nodup_append.mp h3).2.2 _ m p.1 (by simp) rfl
    have n2 : ¬ p.2 ∈ met := fun m => (List.nodup_append.mp h3).2.2 _ m p.2 (by simp) rfl
    have up : notUp p ah = false := by
      cases e : ah with
      | none => rfl
      | some q =>
        have := h1 q e p (List.mem_cons.mpr (.inl rfl))
        unfold ltP at this
        unfold notUp leB
        simp only [Bool.or_eq_false_iff, Bool.and_eq_false_iff, decide_eq_false_iff_not]
        omega
    show (if notUp p ah || met.contains p.1 || met.contains p.2 then some k else goF (k + 1) (met ++ [p.1, p.2]) (some p) (r.map some)) = none
    rw [if_neg (by simp [up, n1, n2])]
    refine goF_good r _ _ _ (fun q e x hx => ?_) hr ?_
    · cases e
      exact hp x hx
    · rw [List.append_assoc]
      exact h3
theorem yard_good {n : Nat} {L : List (Nat × Nat)} (y : Yard n L) : goF 0 [] none (L.map some) = none := goF_good L 0 [] none (fun _ e => by cases e) y.up (by simpa using y.lines.nd)
end One
end P_M4

section P_E6
set_option linter.all false
set_option maxRecDepth 100000
set_option maxHeartbeats 8000000
namespace One
open PySem PySem.Spec PyProof.Rows L2
abbrev sFault : Stmt := top 20
abbrev nFault : List Str := ["thing", "many_ends", "taken", "ahead", "number", "line"]
theorem scFault : FnScope nFault ["thing"] (defScope sFault) := ⟨rfl, rfl, rfl, by decide +kernel, rfl, by decide +kernel, by decide +kernel⟩
/-- things that stand in a tuple, and what lines they are -/
inductive IL (H : Hp) (n : Nat) : List V → List (Option (Nat × Nat)) → Prop
  | nil : IL H n [] []
  | line {a p xs os} : PAt H a p → p.1 < p.2 → p.2 < n → IL H n xs os → IL H n (.ref a :: xs) (some p :: os)
  | flat {x T xs os} : TV H x T → isTup T = false → IL H n xs os → IL H n (x :: xs) (none :: os)
  | tup {a ys xs os} : H a = some (.tup ys) → (∀ y ∈ ys, ∃ T, TV H y T) → lineB ys n = false → IL H n xs os → IL H n (.ref a :: xs) (none :: os)
theorem IL.len {H : Hp} {n : Nat} {xs : List V} {os : List (Option (Nat × Nat))} (h : IL H n xs os) : xs.length = os.length := by
  induction h with
  | nil => rfl
  | line _ _ _ _ ih => simp [ih]
  | flat _ _ _ ih => simp [ih]
  | tup _ _ _ _ ih => simp [ih]
theorem IL.pairs {H : Hp} {n : Nat} : ∀ {ps : List (Nat × Nat)} {xs : List V}, IL H n xs (ps.map some) → ∃ as, xs = refs as ∧ PL H as ps ∧ ∀ p ∈ ps, p.1 < p.2 ∧ p.2 < n
  | [], _, .nil => ⟨[], rfl, .nil, fun p h => absurd h (by simp)⟩
  | p :: r, _, .line h1 h2 h3 t => by
    obtain ⟨as, e, h4, h5⟩ := IL.pairs t
    exact ⟨_ :: as, by rw [e]; rfl, .cons h1 h4, fun q hq => (List.mem_cons.mp hq).elim (fun e => e ▸ ⟨h2, h3⟩) (h5 q)⟩
theorem TV.mono {H H' : Hp} {v : V} {T : String} (h : TV H v T) (k : Same H H') : TV H' v T := by
  cases h with
  | non => exact .non
  | bl b => exact .bl b
  | int i => exact .int i
  | str x => exact .str x
  | tup e => exact .tup (k _ _ e)
  | lst e => exact .lst (k _ _ e)
  | dct e => exact .dct (k _ _ e)
theorem IL.mono {H H' : Hp} {n : Nat} {xs : List V} {os : List (Option (Nat × Nat))} (h : IL H n xs os) (k : Same H H') : IL H' n xs os := by
  induction h with
  | nil => exact .nil
  | line h1 h2 h3 _ ih => exact .line (k _ _ h1) h2 h3 ih
  | flat h1 h2 _ ih => exact .flat (h1.mono k) h2 ih
  | tup h1 h2 h3 _ ih => exact .tup (k _ _ h1) (fun y m => let ⟨T, t⟩ := h2 y m; ⟨T, t.mono k⟩) h3 ih
theorem IL.split {H : Hp} {n : Nat} {xs : List V} {os : List (Option (Nat × Nat))} (h : IL H n xs os) : ∀ {i : Nat} {x : V}, xs[i]? = some x → ∃ o, os[i]? = some o ∧ IL H n [x] [o] := by
  induction h with
  | nil => intro i x e; simp at e
  | line h1 h2 h3 _ ih =>
    intro i x e
    cases i with
    | zero =>
      have e := Option.some.inj e
      subst e
      exact ⟨_, rfl, .line h1 h2 h3 .nil⟩
    | succ i => exact ih (i := i) (by simpa using e)
  | flat h1 h2 _ ih =>
    intro i x e
    cases i with
    | zero =>
      have e := Option.some.inj e
      subst e
      exact ⟨_, rfl, .flat h1 h2 .nil⟩
    | succ i => exact ih (i := i) (by simpa using e)
  | tup h1 h2 h3 _ ih =>
    intro i x e
    cases i with
    | zero =>
      have e := Option.some.inj e
      subst e
      exact ⟨_, rfl, .tup h1 h2 h3 .nil⟩
    | succ i => exact ih (i := i) (by simpa using e)
/-- the line that stood ahead -/
def AheadAt (H : Hp) (a : Addr) : Option (Nat × Nat) → Prop
  | none => H a = some (.tup [])
  | some q => PAt H a q
theorem le_none (p : Nat × Nat) : Ob.lexAt (fun j => decide (([(p.1 : Int), (p.2 : Int)] : List Int).getD j 0 = ([] : List Int).getD j 0)) (fun j => decide (([(p.1 : Int), (p.2 : Int)] : List Int).getD j 0 ≤ ([] : List Int).getD j 0)) (decide (([(p.1 : Int), (p.2 : Int)] : List Int).length ≤ ([] : List Int).length)) 0 (min ([(p.1 : Int), (p.2 : Int)] : List Int).length ([] : List Int).length) = false := rfl
theorem le_some (p q : Nat × Nat) : Ob.lexAt (fun j => decide (([(p.1 : Int), (p.2 : Int)] : List Int).getD j 0 = ([(q.1 : Int), (q.2 : Int)] : List Int).getD j 0)) (fun j => decide (([(p.1 : Int), (p.2 : Int)] : List Int).getD j 0 ≤ ([(q.1 : Int), (q.2 : Int)] : List Int).getD j 0)) (decide (([(p.1 : Int), (p.2 : Int)] : List Int).length ≤ ([(q.1 : Int), (q.2 : Int)] : List Int).length)) 0 (min ([(p.1 : Int), (p.2 : Int)] : List Int).length ([(q.1 : Int), (q.2 : Int)] : List Int).length) = leB p q := by
  show (if decide ((p.1 : Int) = (q.1 : Int)) = true then (if decide ((p.2 : Int) = (q.2 : Int)) = true then true else decide ((p.2 : Int) ≤ (q.2 : Int))) else decide ((p.1 : Int) ≤ (q.1 : Int))) = leB p q
  unfold leB
  rw [Bool.eq_iff_iff]
  simp only [decide_eq_true_eq, Bool.or_eq_true, Bool.and_eq_true]
  constructor
  · intro h
    split at h
    · split at h
      · omega
      · simp only [decide_eq_true_eq] at h
        omega
    · simp only [decide_eq_true_eq] at h
      omega
  · intro h
    split
    · split
      · rfl
      · simp only [decide_eq_true_eq]
        omega
    · simp only [decide_eq_true_eq]
      omega
def spFault : Sp := fun vs H Q _ => ∃ v : V, vs = [v] ∧
  (((∃ T, TV H v T ∧ isTup T = false) ∨ ∃ (t : Addr) (xs : List V), v = .ref t ∧ H t = some (.tup xs) ∧ canBe (xs.length : Nat) = false) ∧ (∀ (H' : Hp) (p : Addr), Same H H' → H' p = some (.tup []) → Q (.ref p) H') ∨
  ∃ (t : Addr) (xs : List V) (os : List (Option (Nat × Nat))), v = .ref t ∧ H t = some (.tup xs) ∧ canBe (xs.length : Nat) = true ∧ IL H (2 * xs.length) xs os ∧
    (∀ k, goF 0 [] none os = some k → ∀ (H' : Hp) (p : Addr), Same H H' → H' p = some (.tup [.int (k : Nat)]) → Q (.ref p) H') ∧
    (goF 0 [] none os = none → ∀ ps, os = ps.map some → (Whole (xs.length / 2) ps → ∀ H', Same H H' → Q .non H') ∧ (¬ Whole (xs.length / 2) ps → ∀ (H' : Hp) (p : Addr), Same H H' → H' p = some (.tup [.int (xs.length : Nat)]) → Q (.ref p) H')))
section
variable {P : Program} {w : World} {K : PySem.W.Frag} {mg : Str → Option Value} {base : Heap}
theorem ok_fault {f fB fL fW : Addr} {fd fdB fdL fdW : FuncData} (F : Fun K "yard_fault" "yard_fault" sFault f fd) (T : TB mg) (B : Cal K mg "can_be_many_lines" fB fdB ["many"]) (GB : FnOk P w K mg base CX0 1 fB fdB ["many"] spCanBe)
    (L : Cal K mg "is_line" fL fdL ["thing", "many_ends"]) (GL : FnOk P w K mg base CX0 3 fL fdL ["thing", "many_ends"] spIsLine) (W : Cal K mg "is_whole" fW fdW ["lines"]) (GW : FnOk P w K mg base CX0 2 fW fdW ["lines"] spIsWhole) :
    FnOk P w K mg base CX0 4 f fd ["thing"] spFault := by
  refine F.ok scFault (fun vs H Q E h => ?_) (fun cdv A outer s H vs Q E hr h => ?_)
  · obtain ⟨v, rfl, _⟩ := h
    rfl
  · obtain ⟨v, rfl, h⟩ := h
    have nd := scFault.nd
    have hu := hu_of hr
    have hu0 : (A.deeper (envOfC "yard_fault" (defScope sFault) s.heap.objs.size f cdv)).units < cLine := Nat.lt_of_succ_lt hu
    have hr1 : Room 1 _ := hr.mono (by decide)
    have hrW : Room 2 _ := hr.mono (by decide)
    refine ⟨_, pss_cons (ps_if (pt_mid (PW.pt (pw_or (pt_not (pt_val (pe_callB call_isi (by rfl) T.isinstance boot_isinstance (pa_cons (pv 0) (pa_cons (pe_bltn (v := .ty "tuple") (by rfl) T.tuple boot_tuple rfl) pa_nil)))))
        (pw_or1 (pt_not (pt_val (pe_call GB hr1 rfl B.g B.kp B.b .nil pass0 (pa_cons (pe_callB call_len_seq (by rfl) T.len PySem.boot_len (pa_cons (pv 0) pa_nil)) pa_nil)))))))) (pss_one (ps_ret (pe_tup pa_nil))) pss_nil)
      (pss_cons (ps_set (i := 1) nd rfl (Or.inl rfl) (pe_op op_mul pe_int (pe_callB call_len_seq (by rfl) T.len PySem.boot_len (pa_cons (pv 0) pa_nil))))
      (pss_cons (ps_set (i := 2) nd rfl (Or.inl rfl) (pe_op op_rep (pe_lst (pa_cons pe_bl pa_nil)) (pv 1)))
      (pss_cons (ps_set (i := 3) nd rfl (Or.inl rfl) (pe_tup pa_nil))
      (pss_cons (ps_for PassesOwn.never rfl (pi_enumT (by rfl) T.enumerate (pa_cons (pv 0) pa_nil)) (pg_tup rfl (pgs_cons (pg_name (i := 4) nd rfl (Or.inl rfl)) (pgs_cons (pg_name (i := 5) nd rfl (Or.inl rfl)) pgs_nil)))
        (pss_cons (ps_if (pt_mid (PW.pt (pw_or (pt_not (pt_val (pe_call GL hr rfl L.g L.kp L.b .nil pass0 (pa_cons (pv 5) (pa_cons (pv 1) pa_nil)))))
            (pw_or (pt_cmpR (op_leT hu0) (pv 5) (pv 3) (nomark _)) (pw_or (pt_val (pe_ix ix_list (pv 2) (pe_ix ix_tup (pv 5) pe_int (fun _ _ => rfl)) (fun _ _ => rfl))) (pw_or1 (pt_val (pe_ix ix_list (pv 2) (pe_ix ix_tup (pv 5) pe_int (fun _ _ => rfl)) (fun _ _ => rfl)))))))))
            (pss_one (ps_ret (pe_tup (pa_cons (pv 4) pa_nil)))) pss_nil)
        (pss_cons (ps_asg2 pe_bl (pg_sub (pv 2) (pe_ix ix_tup (pv 5) pe_int (fun _ _ => rfl)) set_list) (pg_sub (pv 2) (pe_ix ix_tup (pv 5) pe_int (fun _ _ => rfl)) set_list))
        (pss_one (ps_set (i := 3) nd rfl (Or.inl rfl) (pv 5))))))
      (pss_one (ps_ret (pe_ifExp (pt_val (pe_call GW hrW rfl W.g W.kp W.b .nil pass0 (pa_cons (pv 0) pa_nil))) pe_non (pe_tup (pa_cons (pe_callB call_len_seq (by rfl) T.len PySem.boot_len (pa_cons (pv 0) pa_nil)) pa_nil))))))))), ?_⟩
    rcases h with ⟨h, k⟩ | ⟨t, xs, os, rfl, ht, hc, hI, k1, k2⟩
    · refine ⟨fun b H' => b = true ∧ Same H H', ?_, ?_⟩
      · rcases h with ⟨ty, hv, hT⟩ | ⟨t, xs, rfl, ht, hc⟩
        · refine ⟨_, rfl, v, _, _, _, _, rfl, .ty _, hv.tyx, hv.kTup, _, rfl, ?_⟩
          rw [hT]
          exact iteT ⟨rfl, Same.refl H⟩
        · refine ⟨_, rfl, _, _, _, _, _, rfl, .ty _, (TV.tup ht).tyx, (TV.tup ht).kTup, _, rfl, ?_⟩
          refine iteF ⟨_, rfl, t, _, rfl, .inr (SqT.of ht), _, rfl, fun H' s' => ⟨_, rfl, ?_⟩⟩
          rw [hc]
          exact ⟨rfl, s'⟩
      · rintro b H' ⟨rfl, s'⟩
        exact iteT ⟨Nat.zero_le _, fun p hp => k _ p (s'.trans (Same.new hp)) upd_same⟩
    · have hcb : 2 ≤ xs.length ∧ xs.length ≤ 80 ∧ xs.length % 2 = 0 := by
        unfold canBe at hc
        simp only [Bool.and_eq_true, decide_eq_true_eq] at hc
        omega
      refine ⟨fun b H' => b = false ∧ Same H H', ?_, ?_⟩
      · refine ⟨_, rfl, _, _, _, _, _, rfl, .ty _, (TV.tup ht).tyx, (TV.tup ht).kTup, _, rfl, ?_⟩
        refine iteF ⟨_, rfl, t, _, rfl, .inr (SqT.of ht), _, rfl, fun H' s' => ⟨_, rfl, ?_⟩⟩
        rw [hc]
        exact ⟨rfl, s'⟩
      · rintro b H1 ⟨rfl, s1⟩
        have ht1 := s1 _ _ ht
        have e2 : (2 : Int) * (xs.length : Nat) = ((2 * xs.length : Nat) : Int) := by omega
        refine iteF ⟨_, rfl, t, _, rfl, .inr (SqT.of ht1), _, _, rfl, rfl, .inl ⟨by decide, by decide⟩, ?_⟩
        refine ⟨by show 1 ≤ sizeLine; decide, fun l1 hl1 => ⟨_, rfl, l1, ((2 * xs.length : Nat) : Int), _, rfl, (by show V.int ((2 : Int) * (xs.length : Nat)) = _; rw [e2]), upd_same, by omega, by omega, (by show 1 * _ ≤ _; exact Nat.le_of_lt (small1000 (by omega))), fun tk htk => ?_⟩⟩
        have eR : (List.replicate ((2 * xs.length : Nat) : Int).toNat [V.bl false]).flatten = (List.replicate (2 * xs.length) false).map V.bl := by
          rw [show ((2 * xs.length : Nat) : Int).toNat = 2 * xs.length by omega, List.map_replicate]
          exact flat_rep _ _
        have s2 := Same.new (o := .lst [V.bl false]) hl1
        have s3 := Same.new (o := .lst (List.replicate ((2 * xs.length : Nat) : Int).toNat [V.bl false]).flatten) htk
        refine ⟨Nat.zero_le _, fun a0 ha0 => ?_⟩
        have s4 := Same.new (o := .tup []) ha0
        have sA := s1.trans (s2.trans (s3.trans s4))
        have htk0 : H tk = none := (s1.trans s2).free htk
        have ntk : ∀ b o, H b = some o → b ≠ tk := fun b o e => ne_of_none e htk0
        refine ⟨_, rfl, t, _, rfl, SqT.of (sA _ _ ht), for_it (walk_enumT (K := K) (a := t) (xs := xs)) (fun i σ H2 => ∃ (ah : Addr) (bs : List Bool) (met : List Nat) (o : Option (Nat × Nat)) (v4 v5 : Option V),
            σ = [some (.ref t), some (.int ((2 : Int) * (xs.length : Nat))), some (.ref tk), some (.ref ah), v4, v5] ∧ Same H H2 ∧ H2 tk = some (.lst (bs.map V.bl)) ∧ bs.length = 2 * xs.length ∧ (∀ e, e < 2 * xs.length → bs[e]? = some (met.contains e)) ∧ AheadAt H2 ah o ∧ goF i met o (os.drop i) = goF 0 [] none os)
          ⟨a0, List.replicate (2 * xs.length) false, [], none, none, none, rfl, sA, ?_, List.length_replicate, fun e he => by rw [List.getElem?_replicate, if_pos he]; rfl, upd_same, rfl⟩ (fun i σ H2 _ ⟨_, _, _, _, _, _, _, s', _⟩ => SqT.of (s' _ _ ht)) ?_ ?_⟩
        · rw [← eR]
          exact s4 _ _ upd_same
        · rintro i x σ H2 H3 hi ⟨ah, bs, met, o, v4, v5, rfl, s5, htk2, hbl, hbs, hah, hgo⟩ ⟨T, x', y', rfl, hT, rfl, ex, ey⟩
          cases ex
          have s6 := Same.new (o := .tup [V.int (i : Nat), y']) hT
          obtain ⟨oi, hoi, hI1⟩ := hI.split ey
          have hdrop : os.drop i = oi :: os.drop (i + 1) := by
            obtain ⟨hlt, e⟩ := List.getElem?_eq_some_iff.mp hoi
            rw [List.drop_eq_getElem_cons hlt, e]
          rw [hdrop] at hgo
          refine ⟨T, _, rfl, SqT.of upd_same, rfl, _, _, rfl, _, _, rfl, rfl, ?_⟩
          have htk3 := s6 _ _ htk2
          have nn : ((2 : Int) * (xs.length : Nat)) = ((2 * xs.length : Nat) : Int) := e2
          have bad : goF i met o (oi :: os.drop (i + 1)) = some i → ∀ (H4 : Hp), Same H H4 → tRet (tTup (tCons (tVar 4) tNil)) { nx := fun _ H' => Q .non H', rt := Q } [some (.ref t), some (.int ((2 : Int) * (xs.length : Nat))), some (.ref tk), some (.ref ah), some (.int (i : Nat)), some y'] H4 := by
            intro hb H4 s7
            refine ⟨_, rfl, by show 1 ≤ sizeLine; decide, fun p hp => ?_⟩
            exact k1 i (hgo.symm.trans hb) _ p (s7.trans (Same.new hp)) upd_same
          have hI3 := (hI1.mono s5).mono s6
          cases oi with
          | none =>
            refine ⟨fun b H4 => b = true ∧ Same (upd H2 T (.tup [V.int (i : Nat), y'])) H4, ?_, ?_⟩
            · have key : ∀ Q' : Bool → Hp → Prop, Q' false (upd H2 T (.tup [V.int (i : Nat), y'])) → spIsLine [y', .int ((2 : Int) * (xs.length : Nat))] (upd H2 T (.tup [V.int (i : Nat), y'])) (fun v H' => ∃ c, v = .bl c ∧ Q' c H') E0 := by
                intro Q' q
                cases hI3 with
                | flat h1 h2 _ => exact ⟨_, _, rfl, .inl ⟨_, h1, h2, false, rfl, q⟩⟩
                | tup h1 h2 h3 _ =>
                  refine ⟨_, _, rfl, .inr ⟨_, _, rfl, h1, h2, false, ?_, q⟩⟩
                  rw [nn, h3]
              refine ⟨_, rfl, _, rfl, ?_⟩
              exact key _ (iteT ⟨rfl, Same.refl _⟩)
            · rintro b H4 ⟨rfl, s7⟩
              exact iteT (bad rfl H4 (s5.trans (s6.trans s7)))
          | some p =>
            cases hI3 with
            | @line a _ _ _ pa hlt hn _ =>
              have q1 : p.1 < 2 * xs.length := by omega
              have g1 := hbs p.1 q1
              have g2 := hbs p.2 hn
              have at1 : atI (bs.map V.bl) ((p.1 : Nat) : Int) = some (V.bl (met.contains p.1)) := at_of (j := p.1) rfl (by rw [List.getElem?_map, g1]; rfl)
              have at2 : atI (bs.map V.bl) ((p.2 : Nat) : Int) = some (V.bl (met.contains p.2)) := at_of (j := p.2) rfl (by rw [List.getElem?_map, g2]; rfl)
              refine ⟨fun b H4 => b = (notUp p o || met.contains p.1 || met.contains p.2) ∧ H4 = upd H2 T (.tup [V.int (i : Nat), V.ref a]), ?_, ?_⟩
              · have hline : lineB [V.int (p.1 : Nat), V.int (p.2 : Nat)] ((2 : Int) * (xs.length : Nat)) = true := by
                  show (decide (0 ≤ ((p.1 : Nat) : Int)) && decide (((p.1 : Nat) : Int) < (2 : Int) * (xs.length : Nat)) && (decide (0 ≤ ((p.2 : Nat) : Int)) && decide (((p.2 : Nat) : Int) < (2 : Int) * (xs.length : Nat))) && decide (((p.1 : Nat) : Int) < ((p.2 : Nat) : Int))) = true
                  simp only [Bool.and_eq_true, decide_eq_true_eq]
                  omega
                refine ⟨_, rfl, _, rfl, _, _, rfl, .inr ⟨a, _, rfl, pa, fun y hy => ?_, _, rfl, ?_⟩⟩
                · simp only [List.mem_cons, List.not_mem_nil, or_false] at hy
                  rcases hy with rfl | rfl <;> exact ⟨_, .int _⟩
                rw [hline]
                refine iteF ⟨_, rfl, _, rfl, a, ah, [(p.1 : Int), (p.2 : Int)], (match o with | none => [] | some q => [(q.1 : Int), (q.2 : Int)]), rfl, rfl, SqT.of pa, ?_, _, rfl, ?_⟩
                · cases o with
                  | none => exact SqT.of (s6 _ _ hah)
                  | some q => exact SqT.of (s6 _ _ hah)
                have ele : ∀ (R : Bool → Prop), R (notUp p o) → R (Ob.lexAt (fun j => decide (([(p.1 : Int), (p.2 : Int)] : List Int).getD j 0 = ((match o with | none => [] | some q => [(q.1 : Int), (q.2 : Int)]) : List Int).getD j 0)) (fun j => decide (([(p.1 : Int), (p.2 : Int)] : List Int).getD j 0 ≤ ((match o with | none => [] | some q => [(q.1 : Int), (q.2 : Int)]) : List Int).getD j 0)) (decide (([(p.1 : Int), (p.2 : Int)] : List Int).length ≤ ((match o with | none => [] | some q => [(q.1 : Int), (q.2 : Int)]) : List Int).length)) 0 (min ([(p.1 : Int), (p.2 : Int)] : List Int).length ((match o with | none => [] | some q => [(q.1 : Int), (q.2 : Int)]) : List Int).length)) := by
                  intro R r
                  cases o with
                  | none => exact r
                  | some q =>
                    have := le_some p q
                    rw [this]
                    exact r
                refine ele (fun c => if c = true then _ else _) ?_
                refine ite2 (fun hu => ?_) (fun hu => ?_)
                · exact ⟨by rw [hu]; rfl, rfl⟩
                · have hu := Bool.eq_false_iff.mpr hu
                  refine ⟨_, rfl, _, rfl, a, _, _, _, rfl, rfl, SqT.of pa, rfl, tk, _, _, _, rfl, rfl, SqL.of htk3, at1, _, rfl, ?_⟩
                  refine ite2 (fun h1 => ?_) (fun h1 => ?_)
                  · exact ⟨by rw [hu, h1]; rfl, rfl⟩
                  · have h1 := Bool.eq_false_iff.mpr h1
                    refine ⟨_, rfl, _, rfl, a, _, _, _, rfl, rfl, SqT.of pa, rfl, tk, _, _, _, rfl, rfl, SqL.of htk3, at2, _, rfl, ?_, rfl⟩
                    rw [hu, h1]
                    rfl
              · rintro b H4 ⟨rfl, rfl⟩
                refine ite2 (fun hb => ?_) (fun hb => ?_)
                · refine bad ?_ _ (s5.trans s6)
                  show (if (notUp p o || met.contains p.1 || met.contains p.2) = true then some i else _) = some i
                  rw [if_pos hb]
                · have hgo2 : goF (i + 1) (met ++ [p.1, p.2]) (some p) (os.drop (i + 1)) = goF 0 [] none os := by
                    rw [← hgo]
                    show _ = (if (notUp p o || met.contains p.1 || met.contains p.2) = true then some i else _)
                    rw [if_neg hb]
                  have setB : ∀ (r : List Bool) (j : Nat), (r.map V.bl).set j (V.bl true) = (r.set j true).map V.bl := fun r j => (List.map_set).symm
                  have ntt : tk ≠ T := ne_of_none htk2 hT
                  refine ⟨_, rfl, _, rfl, a, _, _, _, rfl, rfl, SqT.of pa, rfl, tk, _, _, p.1, rfl, rfl, htk3, ix_nat (by rw [List.length_map, hbl]; exact q1), ?_⟩
                  rw [setB]
                  have w1 : ∀ b u, H b = some u → (upd (upd H2 T (.tup [V.int (i : Nat), V.ref a])) tk (.lst ((bs.set p.1 true).map V.bl))) b = some u := fun b u e => (upd_ne (ntk _ _ e)).trans (s6 _ _ (s5 _ _ e))
                  have kt : ∀ b zs, (upd H2 T (.tup [V.int (i : Nat), V.ref a])) b = some (.tup zs) → b ≠ tk := fun b zs e => ne_of e htk3 (by intro z; cases z)
                  have pa4 : PAt (upd (upd H2 T (.tup [V.int (i : Nat), V.ref a])) tk (.lst ((bs.set p.1 true).map V.bl))) a p := (upd_ne (kt _ _ pa)).trans pa
                  refine ⟨_, rfl, _, rfl, a, _, _, _, rfl, rfl, SqT.of pa4, rfl, tk, _, _, p.2, rfl, rfl, upd_same, ix_nat (by rw [List.length_map, List.length_set, hbl]; exact hn), ?_⟩
                  rw [setB]
                  refine ⟨_, rfl, a, (bs.set p.1 true).set p.2 true, met ++ [p.1, p.2], some p, _, _, rfl, fun b u e => (upd_ne (ntk _ _ e)).trans (w1 b u e), upd_same, by rw [List.length_set, List.length_set]; exact hbl, fun e he => ?_, (upd_ne (kt _ _ pa)).trans pa4, hgo2⟩
                  have cm : (met ++ [p.1, p.2]).contains e = (met.contains e || decide (e = p.1) || decide (e = p.2)) := by
                    rw [Bool.eq_iff_iff]
                    simp [or_assoc]
                  rw [cm]
                  by_cases e2' : p.2 = e
                  · subst e2'
                    rw [List.getElem?_set_self (by rw [List.length_set, hbl]; exact he)]
                    simp
                  · rw [List.getElem?_set_ne e2']
                    by_cases e1' : p.1 = e
                    · subst e1'
                      rw [List.getElem?_set_self (by rw [hbl]; exact he)]
                      simp
                    · rw [List.getElem?_set_ne e1', hbs e he, decide_eq_false (fun z => e1' z.symm), decide_eq_false (fun z => e2' z.symm), Bool.or_false, Bool.or_false]
        · rintro σ H2 ⟨ah, bs, met, o, v4, v5, rfl, s5, htk2, hbl, hbs, hah, hgo⟩
          rw [hI.len, List.drop_length] at hgo
          have hno : goF 0 [] none os = none := hgo.symm
          have hos := goF_pairs os 0 [] none hno
          generalize os.filterMap id = ps at hos
          subst hos
          obtain ⟨k3, k4⟩ := k2 hno ps rfl
          obtain ⟨as, rfl, hP, hlt⟩ := hI.pairs
          have hla : as.length = ps.length := hP.len
          have nl : (refs as).length = as.length := List.length_map _
          refine ⟨_, rfl, t, (refs as).length / 2, as, ps, rfl, s5 _ _ ht, hP.mono (sameT s5), ⟨by omega, by omega, fun p hp => ?_⟩, by omega, fun H4 b s6 hb => ⟨b, rfl, ?_⟩⟩
          · have := hlt p hp
            omega
          cases b with
          | true => exact iteT (k3 (hb.mp rfl) _ (s5.trans s6))
          | false =>
            have ht4 := s6 _ _ (s5 _ _ ht)
            refine iteF ⟨_, rfl, t, _, rfl, .inr (SqT.of ht4), by show 1 ≤ sizeLine; decide, fun p hp => ?_⟩
            exact k4 (fun hw => by cases hb.mpr hw) _ p (s5.trans (s6.trans (Same.new hp))) upd_same
end
end One
end P_E6

section P_G1
set_option linter.all false
set_option maxRecDepth 100000
set_option maxHeartbeats 4000000
namespace One
open PySem PySem.Spec PyProof.Rows L2
/-! ### promises for runs in which nothing is being shown -/
structure FnG (P : Program) (w : World) (K : PySem.W.Frag) (mg : Str → Option Value) (base : Heap) (CX : CXT) (k : Nat) (f : Addr) (fd : FuncData) (ps : List Str) (sp : Sp) : Prop where
  len : ∀ vs H Q E, sp vs H Q E → vs.length = ps.length
  go : ∀ (A : Around) (outer : List Env) (s : Shared) (H : Hp) (args : Args) (us : List Value) (vs : List V) (Q : VK) (E : XK), A.guards = some [] → Room k A → Env0 P w K mg base A outer s H →
    BindsTo s fd args (ps.zip us) → Vals vs us → sp vs H Q E → codeAny (model P w) A (.call (.ref f) args) (CR CX outer P w H s Q E) s
theorem FnG.of {P : Program} {w : World} {K : PySem.W.Frag} {mg : Str → Option Value} {base : Heap} {CX : CXT} {k : Nat} {f : Addr} {fd : FuncData} {ps : List Str} {sp : Sp} (F : FnOk P w K mg base CX k f fd ps sp) : FnG P w K mg base CX k f fd ps sp :=
  ⟨F.len, fun A outer s H args us vs Q E _ => F.run A outer s H args us vs Q E⟩
theorem FnG.mono {P : Program} {w : World} {K : PySem.W.Frag} {mg : Str → Option Value} {base : Heap} {CX : CXT} {j k : Nat} {f : Addr} {fd : FuncData} {ps : List Str} {sp : Sp} (F : FnG P w K mg base CX j f fd ps sp) (h : j ≤ k) : FnG P w K mg base CX k f fd ps sp :=
  ⟨F.len, fun A outer s H args us vs Q E hg hr => F.go A outer s H args us vs Q E hg (hr.mono h)⟩
section
variable {P : Program} {w : World} {K : PySem.W.Frag} {mg : Str → Option Value} {base : Heap}
/-- a def by its body -/
theorem okG {CX : CXT} {x qual : Str} {st : Stmt} {f : Addr} {fd : FuncData} {N ps : List Str} {k : Nat} {sp : Sp} (F : Fun K x qual st f fd) (S : FnScope N ps (defScope st)) (len : ∀ vs H Q E, sp vs H Q E → vs.length = ps.length)
    (body : ∀ (cdv : Value) (A : Around) (outer : List Env) (s : Shared) (H : Hp) (vs : List V) (Q : VK) (E : XK), A.guards = some [] → Room k (A.deeper (envOfC qual (defScope st) s.heap.objs.size f cdv)) → sp vs H Q E →
      ∃ t, PSs (cxOf CX P w K mg base N qual (defScope st) f cdv A outer s H E) (defBody st) t ∧ t { nx := fun _ H' => Q .non H', rt := Q } (start N vs) H) : FnG P w K mg base CX (k + 1) f fd ps sp := by
  obtain ⟨oc, od, kV, doc, pm, an, cdv, ct, osl, rfl, lk, hcd⟩ := F.ex
  exact ⟨len, fun A outer s H args us vs Q E hg hr e0 hb r hs => LamX.run_ofS lk hcd S hr e0 hb r (len _ _ _ _ hs) fun hr1 => body cdv A outer s H vs Q E hg hr1 hs⟩
/-- .. that lets nothing out -/
theorem okG0 {x qual : Str} {st : Stmt} {f : Addr} {fd : FuncData} {N ps : List Str} {k : Nat} {sp : Sp} (F : Fun K x qual st f fd) (S : FnScope N ps (defScope st)) (len : ∀ vs H Q E, sp vs H Q E → vs.length = ps.length)
    (body : ∀ (cdv : Value) (A : Around) (outer : List Env) (s : Shared) (H : Hp) (vs : List V) (Q : VK) (E : XK), A.guards = some [] → Room k (A.deeper (envOfC qual (defScope st) s.heap.objs.size f cdv)) → sp vs H Q E →
      ∃ t, PSs (cxOf CX0 P w K mg base N qual (defScope st) f cdv A outer s H E).nox (defBody st) t ∧ t { nx := fun _ H' => Q .non H', rt := Q } (start N vs) H) : FnG P w K mg base CX0 (k + 1) f fd ps sp :=
  okG F S len fun cdv A outer s H vs Q E hg hr hs => let ⟨t, h, q⟩ := body cdv A outer s H vs Q E hg hr hs; ⟨t, h.nox, q⟩
end
section
variable {X : Cx} {CX : CXT} {k : Nat} {f : Addr} {fd : FuncData} {ps : List Str} {sp : Sp} {dvs : List V} {ds : List Value} {E : XK} {x : Str} {p pos : Pos} {e : Expr} {es : List Expr} {t : TA}
theorem goG {pins : List (Addr × Obj)} {σ : L2.St} {H : Hp} {s : Shared} {Q : VK} {us : List Value} {vs : List V} (F : FnG X.prog X.w X.K X.mg X.base CX k f fd ps sp) (hgd : X.A.guards = some []) (hr : Room k X.A) (hb : Binds X.K fd ps ds) (hd : Vals dvs ds)
    (hx : Passes CX X E) (I : Inv X pins σ H s) (r : Vals vs us) (h : sp (vs ++ dvs) H Q E) : wpAny (model X.prog X.w) X.A (call (.ref f) us) (EP X pins σ Q) X.xe s := by
  have r2 := r.append hd
  have hl : (us ++ ds).length = ps.length := r2.length.symm.trans (F.len _ _ _ _ h)
  refine wpAny_call (codeAny_mono (F.go X.A X.stack s H ⟨us, []⟩ _ _ Q E hgd hr I.env0 (hb s us I.kIn hl) r2 h) fun r s' hq => ?_)
  match r, hq with
  | .error e, hq => exact hx pins σ H s e s' I hq
  | .ok (.ret u), hq => exact I.after hq
  | .ok .next, hq => exact hq.elim
  | .ok .brk, hq => exact hq.elim
  | .ok .cont, hq => exact hq.elim
theorem pe_callG (F : FnG X.prog X.w X.K X.mg X.base CX k f fd ps sp) (hgd : X.A.guards = some []) (hr : Room k X.A) (hg : Gl X x) (hm : X.mg x = some (.ref f)) (hk : PySem.W.keepIn X.K (.ref f) = true) (hb : Binds X.K fd ps ds) (hd : Vals dvs ds) (hx : Passes CX X E)
    (ha : PA X (e :: es) t) (hdb : (x == ("__debug__" : Str)) = false := by decide) (he : starEach (e :: es) X.env = (false, eval e X.env) :: starEach es X.env := by rfl) (hpl : (backTo pos (starEach es X.env)).any (·.1) = false := by rfl) : PE X (.Call (.Name x p) (e :: es) [] pos) (tCall sp dvs E t) := by
  refine ⟨fun pins s σ H Q I h => wpAny_Call_Name_kw (ld_glob I hg hm ?_ hdb)⟩
  exact PySem.W.callWith_K (h₀ := X.base) I.ok.mod.kin hk (thn (ha.run pos pins s σ H _ I h) fun us s1 ⟨vs, H1, I1, r, q⟩ => ⟨I1.kIn, goG F hgd hr hb hd hx I1 r q⟩) he hpl
/-- repr(..) of a list or a tuple, at any depth -/
theorem call_repr_data (hgd : X.A.guards = some []) (hu : X.A.units + 64 < cLine) : CallR X (.builtin "repr") (fun xs H Q => ∃ (a : Addr) (d : PyData), xs = [.ref a] ∧ Dp X.K H (.ref a) d ∧ d.showable = true ∧ d.hasDict = false ∧ d.depth ≤ 16 ∧ d.shown.length ≤ sizeLine ∧ Q (.str d.shown) H) := by
  intro pins s σ H xs us Q I r h
  obtain ⟨a, d, rfl, hd, h1, h2, h3, h4, q⟩ := h
  obtain ⟨u, rfl, e⟩ := vals1 r
  cases e
  obtain ⟨as, hR⟩ := Dp.reads I d _ _ hd rfl
  exact repr_of_reads' hR h1 (fun z => Bool.noConfusion (h2.symm.trans z)) hgd (by omega) (fun _ _ e => e) (fun h' u tk hk => ⟨.str d.shown, H, I.kept hk, ⟨_, rfl⟩, q⟩) h4
end
end One
end P_G1

section P_G2
set_option linter.all false
set_option maxRecDepth 100000
set_option maxHeartbeats 4000000
namespace One
open PySem PySem.Spec PyProof.Rows L2
/-! ### a tuple of pairs, as data -/
def prD (p : Nat × Nat) : PyData := .tuple [.int (p.1 : Nat), .int (p.2 : Nat)]
def yd (ps : List (Nat × Nat)) : PyData := .tuple (ps.map prD)
theorem dp_pair {K : PySem.W.Frag} {H : Hp} {a : Addr} {p : Nat × Nat} (h : PAt H a p) : Dp K H (.ref a) (prD p) := .tup (SqT.of h) (.cons (.int _) (.cons (.int _) .nil))
theorem dp_pairs {K : PySem.W.Frag} {H : Hp} {as : List Addr} {ps : List (Nat × Nat)} (h : PL H as ps) : DpAll K H (refs as) (ps.map prD) := by
  induction h with
  | nil => exact .nil
  | cons h1 _ ih => exact .cons (dp_pair h1) ih
theorem dp_yd {K : PySem.W.Frag} {H : Hp} {t : Addr} {as : List Addr} {ps : List (Nat × Nat)} (ht : H t = some (.tup (refs as))) (h : PL H as ps) : Dp K H (.ref t) (yd ps) := .tup (SqT.of ht) (dp_pairs h)
theorem int_short : ∀ n : Nat, n < 1000 → (PyData.shown (.int (n : Nat))).length ≤ 8 := by
  have h : ∀ n : Fin 1000, (PyData.shown (.int ((n : Nat) : Int))).length ≤ 8 := by decide +kernel
  exact fun n hn => h ⟨n, hn⟩
theorem log_small {n : Nat} (h : n < 1000) : n.log2 < 1920 := by
  by_cases h0 : n = 0
  · subst h0; decide
  · exact (Nat.log2_lt h0).mpr (Nat.lt_of_lt_of_le h (Nat.le_trans (by decide : 1000 ≤ 2 ^ 10) (Nat.pow_le_pow_right (by decide) (by decide))))
theorem yd_all : ∀ ps : List (Nat × Nat), (∀ p ∈ ps, p.1 < 1000 ∧ p.2 < 1000) → PyData.showableAll (ps.map prD) = true ∧ PyData.hasDictAll (ps.map prD) = false ∧ PyData.depthAll (ps.map prD) ≤ 1 ∧ PyData.leavesShortAll 8 (ps.map prD) = true ∧ PyData.bulkAll (ps.map prD) = 3 * ps.length
  | [], _ => ⟨rfl, rfl, Nat.zero_le _, rfl, rfl⟩
  | p :: r, h => by
    obtain ⟨h1, h2, h3, h4, h5⟩ := yd_all r fun q m => h q (List.mem_cons_of_mem _ m)
    obtain ⟨q1, q2⟩ := h p (List.mem_cons_self ..)
    have a1 : PyData.showable (prD p) = true := by
      show (decide (((p.1 : Nat) : Int).natAbs.log2 < 1920) && (decide (((p.2 : Nat) : Int).natAbs.log2 < 1920) && true)) = true
      simp only [Int.natAbs_natCast, Bool.and_eq_true, decide_eq_true_eq, and_true]
      exact ⟨log_small q1, log_small q2⟩
    have a4 : PyData.leavesShort 8 (prD p) = true := by
      show (decide (_ ≤ 8) && (decide (_ ≤ 8) && true)) = true
      simp only [Bool.and_eq_true, decide_eq_true_eq, and_true]
      exact ⟨int_short _ q1, int_short _ q2⟩
    refine ⟨?_, ?_, ?_, ?_, ?_⟩
    · show (PyData.showable (prD p) && PyData.showableAll _) = true
      rw [a1, h1]; rfl
    · show (PyData.hasDict (prD p) || PyData.hasDictAll _) = false
      rw [h2]; rfl
    · show max (PyData.depth (prD p)) (PyData.depthAll _) ≤ 1
      exact Nat.max_le.mpr ⟨Nat.le_refl 1, h3⟩
    · show (PyData.leavesShort 8 (prD p) && PyData.leavesShortAll 8 _) = true
      rw [a4, h4]; rfl
    · show PyData.bulk (prD p) + 1 + PyData.bulkAll _ = _
      rw [h5]
      show 0 + 1 + (0 + 1 + 0) + 1 + 3 * r.length = 3 * (r.length + 1)
      omega
theorem yd_fine {ps : List (Nat × Nat)} (h : ∀ p ∈ ps, p.1 < 1000 ∧ p.2 < 1000) (hl : ps.length ≤ 1000) : (yd ps).showable = true ∧ (yd ps).hasDict = false ∧ (yd ps).depth ≤ 16 ∧ (yd ps).shown.length ≤ sizeLine := by
  obtain ⟨h1, h2, h3, h4, h5⟩ := yd_all ps h
  refine ⟨h1, h2, ?_, ?_⟩
  · show PyData.depthAll _ + 1 ≤ 16
    omega
  · have q := PyData.shown_le_bulk 8 (Nat.le_refl _) (yd ps) h4
    have e : (yd ps).bulk = 3 * ps.length := h5
    rw [e] at q
    have : (40000 : Nat) ≤ sizeLine := by decide
    omega
def rRepr (K : PySem.W.Frag) : List V → Hp → VK → Prop := fun xs H Q => ∃ (a : Addr) (d : PyData), xs = [.ref a] ∧ Dp K H (.ref a) d ∧ d.showable = true ∧ d.hasDict = false ∧ d.depth ≤ 16 ∧ d.shown.length ≤ sizeLine ∧ Q (.str d.shown) H
/-- repr(..) of a tuple of pairs -/
theorem repr_yd {K : PySem.W.Frag} {H : Hp} {t : Addr} {as : List Addr} {ps : List (Nat × Nat)} {Q : VK} (ht : H t = some (.tup (refs as))) (hp : PL H as ps) (h : ∀ p ∈ ps, p.1 < 1000 ∧ p.2 < 1000) (hl : ps.length ≤ 1000) (q : Q (.str (yd ps).shown) H) : rRepr K [.ref t] H Q := by
  obtain ⟨h1, h2, h3, h4⟩ := yd_fine h hl
  exact ⟨t, _, rfl, dp_yd ht hp, h1, h2, h3, h4, q⟩
theorem cr_repr {X : Cx} (hgd : X.A.guards = some []) (hu : X.A.units + 64 < cLine) : CallR X (.builtin "repr") (rRepr X.K) := call_repr_data hgd hu
end One
end P_G2

section P_V1
set_option linter.all false
set_option maxRecDepth 100000
set_option maxHeartbeats 4000000
namespace One
open PySem PySem.Spec PyProof.Rows L2
/-! ### repr of anything that the laws hand in: also where empty dicts stand in it -/
mutual
inductive Dq (H : Hp) : V → PyData → Prop
  | non : Dq H .non .none
  | bl (b : Bool) : Dq H (.bl b) (.bool b)
  | int (i : Int) : Dq H (.int i) (.int i)
  | str (x : Str) : Dq H (.str x) (.str x)
  | lst {a : Addr} {xs : List V} {ds : List PyData} : a ≠ sysModules → H a = some (.lst xs) → DqAll H xs ds → Dq H (.ref a) (.list ds)
  | tup {a : Addr} {xs : List V} {ds : List PyData} : H a = some (.tup xs) → DqAll H xs ds → Dq H (.ref a) (.tuple ds)
  | emp {a : Addr} : H a = some (.dK []) → Dq H (.ref a) (.dict [])
inductive DqAll (H : Hp) : List V → List PyData → Prop
  | nil : DqAll H [] []
  | cons {v : V} {vs : List V} {d : PyData} {ds : List PyData} : Dq H v d → DqAll H vs ds → DqAll H (v :: vs) (d :: ds)
end
section
variable {X : Cx} {pins : List (Addr × Obj)} {σ : L2.St} {H : Hp} {s : Shared}
mutual
theorem Dq.reads (I : Inv X pins σ H s) : ∀ (d : PyData) (v : V) (u : Value), Dq H v d → RelV v u → ∃ as, Reads s.heap u d as ∧ sysModules ∉ as
  | .none, _, _, h, r => by
    cases h
    cases r
    exact ⟨_, Reads.none, by simp⟩
  | .bool b, _, _, h, r => by
    cases h
    cases r
    exact ⟨_, Reads.bool b, by simp⟩
  | .int i, _, _, h, r => by
    cases h
    obtain ⟨t, rfl⟩ := r
    exact ⟨_, Reads.int i t, by simp⟩
  | .str x, _, _, h, r => by
    cases h
    obtain ⟨t, rfl⟩ := r
    exact ⟨_, Reads.str x t, by simp⟩
  | .list ds, _, _, h, r => by
    cases h with
    | lst hne hs ha =>
      cases r
      obtain ⟨its, rv, ⟨o, n, ho, hc, _, hd⟩, _⟩ := I.list (SqL.of hs)
      obtain ⟨as, hr, hn⟩ := Dq.readsAll I ds _ its ha rv
      refine ⟨_, Reads.list ho hc hd hr, fun m => ?_⟩
      rcases List.mem_cons.mp m with e | m
      · exact hne e.symm
      · exact hn m
  | .tuple ds, _, _, h, r => by
    cases h with
    | tup hs ha =>
      cases r
      obtain ⟨its, rv, ⟨o, ho, hc, n, hd⟩, _⟩ := I.tuple (SqT.of hs)
      obtain ⟨as, hr, hn⟩ := Dq.readsAll I ds _ its ha rv
      exact ⟨_, Reads.tuple ho hc hd hr, hn⟩
  | .dict kvs, _, _, h, r => by
    cases h with
    | @emp a hs =>
      cases r
      obtain ⟨_, hne, vs, hkv, o, es, ep, ho, hex, hda, _, hp, _⟩ := (show ObjOk X.prog X.w H s.heap a (.dK []) from I.hok a _ hs)
      cases hkv
      have e0 : es.toList = [] := by
        generalize es.toList = l at hp
        cases hp
        rfl
      refine ⟨_, Reads.dict ho hex.1 hda (by rw [e0]; exact .nil) (by rw [e0]; exact .nil), fun m => ?_⟩
      have e : sysModules = a := List.mem_singleton.mp (by simpa using m)
      exact beq_eq_false_iff_ne.mp hne e.symm
theorem Dq.readsAll (I : Inv X pins σ H s) : ∀ (ds : List PyData) (vs : List V) (us : List Value), DqAll H vs ds → Vals vs us → ∃ as, ReadsAll s.heap us ds as ∧ sysModules ∉ as
  | [], _, _, h, r => by
    cases h
    cases r
    exact ⟨_, ReadsAll.nil, by simp⟩
  | d :: ds, _, _, h, r => by
    cases h with
    | cons h1 h2 =>
      cases r with
      | cons r1 r2 =>
        obtain ⟨as, q1, n1⟩ := Dq.reads I d _ _ h1 r1
        obtain ⟨bs, q2, n2⟩ := Dq.readsAll I ds _ _ h2 r2
        exact ⟨_, ReadsAll.cons q1 q2, fun m => (List.mem_append.mp m).elim n1 n2⟩
end
end
def rReprQ (K : PySem.W.Frag) : List V → Hp → VK → Prop := fun xs H Q => ∃ (v : V) (d : PyData), xs = [v] ∧ (Dp K H v d ∧ d.hasDict = false ∨ Dq H v d) ∧ d.showable = true ∧ d.depth ≤ 16 ∧ d.shown.length ≤ sizeLine ∧ Q (.str d.shown) H
theorem cr_reprQ {X : Cx} (hgd : X.A.guards = some []) (hu : X.A.units + 64 < cLine) : CallR X (.builtin "repr") (rReprQ X.K) := by
  intro pins s σ H xs us Q I r h
  obtain ⟨v, d, rfl, hd, h1, h3, h4, q⟩ := h
  obtain ⟨u, rfl, e⟩ := vals1 r
  have rd : ∀ {a : Addr}, u = .ref a → ∃ as, Reads s.heap u d as ∧ (d.hasDict = true → sysModules ∉ as) := fun {a} ea => by
    rcases hd with ⟨hd, hn⟩ | hd
    · obtain ⟨as, hR⟩ := Dp.reads I d _ _ hd e
      exact ⟨as, hR, fun z => Bool.noConfusion (hn.symm.trans z)⟩
    · obtain ⟨as, hR, hn⟩ := Dq.reads I d _ _ hd e
      exact ⟨as, hR, fun _ => hn⟩
  have big : ∀ {a : Addr}, u = .ref a → wpAny (model X.prog X.w) X.A (call (.builtin "repr") [u]) (EP X pins σ Q) X.xe s := fun {a} ea => by
    obtain ⟨as, hR, hn⟩ := rd ea
    subst ea
    exact repr_of_reads' hR h1 hn hgd (by omega) (fun _ _ e => e) (fun h' u tk hk => ⟨.str d.shown, H, I.kept hk, ⟨_, rfl⟩, q⟩) h4
  cases v with
  | non =>
    have ed : d = .none := by
      rcases hd with ⟨hd, _⟩ | hd <;> cases hd <;> rfl
    subst ed
    cases e
    exact PySem.P.repr_of_none ⟨.str _, H, I.tok _, ⟨_, rfl⟩, q⟩
  | bl b =>
    have ed : d = .bool b := by
      rcases hd with ⟨hd, _⟩ | hd <;> cases hd <;> rfl
    subst ed
    cases e
    refine PySem.P.repr_of_bool ⟨.str _, H, I.tok _, ⟨_, rfl⟩, ?_⟩
    cases b <;> exact q
  | int i =>
    have ed : d = .int i := by
      rcases hd with ⟨hd, _⟩ | hd <;> cases hd <;> rfl
    subst ed
    obtain ⟨t, rfl⟩ := e
    exact PySem.P.repr_of_int (of_decide_eq_true h1) ⟨.str _, H, I.tok _, ⟨_, rfl⟩, q⟩
  | str x =>
    have ed : d = .str x := by
      rcases hd with ⟨hd, _⟩ | hd <;> cases hd <;> rfl
    subst ed
    obtain ⟨t, rfl⟩ := e
    exact PySem.P.repr_of_str ⟨.str _, H, I.tok _, ⟨_, rfl⟩, q⟩ h4
  | ref a => exact big e
  | _ => exfalso; rcases hd with ⟨hd, _⟩ | hd <;> cases hd
end One
end P_V1

section P_X1
set_option linter.all false
set_option maxRecDepth 100000
set_option maxHeartbeats 4000000
/-! An own exception, some way below ValueError, whose __init__ says super().__init__(f'..{f}'); self.f = f -/
namespace One
open PySem PySem.W PySem.Calls PyProof.Rows PySem.HandSPX L2
def xA (fld : Str) (p1 p2 : Pos) : Arguments := { posonlyargs := [], args := [{ arg := "self", annotation := none, pos := p1 }, { arg := fld, annotation := none, pos := p2 }], vararg := none, kwonlyargs := [], kw_defaults := [], kwarg := none, defaults := [] }
abbrev xJ (pre fld : Str) (a3 a4 a5 a6 : Pos) : Expr := .JoinedStr [.Constant (.str pre) 0 a3, .FormattedValue (.Name fld a4) (-1) none a5] a6
abbrev xO (a0 a1 : Pos) : Expr := .Call (.Name "super" a0) [] [] a1
abbrev xB (pre fld : Str) (a0 a1 a2 a3 a4 a5 a6 a7 a8 a9 b0 b1 b2 : Pos) : List Stmt := [.Expr (.Call (.Attribute (xO a0 a1) "__init__" a2) [xJ pre fld a3 a4 a5 a6] [] a7) a8, .Assign [.Attribute (.Name "self" a9) fld b0] (.Name fld b1) b2]
def xS (fld : Str) : Scope := { kind := .function, names := [(PySem.Str.ofString "self", .local), (fld, .local), (PySem.Str.ofString "__class__", .free), (PySem.Str.ofString "super", .globalImplicit)], isGenerator := false, isCoroutine := false, more := [] }

def FldOk (fld : Str) : Prop := fld = "place" ∨ fld = "way" ∨ fld = "many"
/-- the value may be shown in an f-string: some text of bounded length, the heap unchanged -/
def FmtOk (P : Program) (w : World) (h : Heap) (v : Value) : Prop := ∀ (A : Around) (E : Value → Shared → Prop) (s : Shared) (Q : Value → Shared → Prop), A.units + 64 < cLine → (∀ b o, h.get? b = some o → s.heap.get? b = some o) →
  (∀ (m : Str) (u tk : Tok), m.length ≤ 100000 → Q (.str m u) { s with toks := tk }) → wpAny (model P w) A (formatField v Str.empty) Q E s
theorem FmtOk.keeps {P : Program} {w : World} {h h' : Heap} {v : Value} (f : FmtOk P w h v) (k : ∀ b o, h.get? b = some o → h'.get? b = some o) : FmtOk P w h' v := fun A E s Q hu hk q => f A E s Q hu (fun b o e => hk b o (k b o e)) q
/-- the form of such an __init__ -/
def Shape (st : Stmt) (fld : Str) : Prop := ∃ (p1 p2 : Pos) (pre : Str) (a0 a1 a2 a3 a4 a5 a6 a7 a8 a9 b0 b1 b2 : Pos), defArgs st = xA fld p1 p2 ∧ defBody st = xB pre fld a0 a1 a2 a3 a4 a5 a6 a7 a8 a9 b0 b1 b2 ∧ defScope st = xS fld ∧ pre.length ≤ 1000 ∧
  ∀ env, eval (.Call (.Attribute (xO a0 a1) "__init__" a2) [xJ pre fld a3 a4 a5 a6] [] a7) env = (do
    let ov ← attributeBase (xO a0 a1) "__init__" env (eval (xO a0 a1) env)
    standAt a2.atName
    let (f, first) ← holding [ov] (getMethod ov "__init__" (do return (← importBound (xO a0 a1) env).getD true))
    callWith a7 f first (backTo a7 (starEach [xJ pre fld a3 a4 a5 a6] env)) [])
/-- what the written part says of such a class, at C, and of its __init__, at fI -/
structure OwnTxt (P : Program) (K : Frag) (st : Stmt) (fld : Str) (C fI : Addr) : Prop where
  cls : ∃ nm q N bs bm sn sub ab col dd k0 k1 k2 k3 k5, K.lookup C = some (excClassObj nm q C N bs bm true sn sub ab col dd k0 k1 k2 k3 k5 "ValueError.__new__") ∧ refsVE bm = true ∧ alongIn K "__init__" (((Value.ref C :: bm).dropWhile (· != .ref C)).drop 1) = some (some (.builtin "ValueError.__init__"))
  sa : findIn K (.ref C) "__setattr__" = some (some (.builtin "object.__setattr__"))
  noF : findIn K (.ref C) fld = some none
  veB : subIn K (.ref C) (.type "ValueError") = some true
  self : mroIn K C (.ref C) = some true
  op : nsIn K cStatics "thirdparty.any" = some none
  top : (P.main.scope.names.lookup ("super" : Str)).isSome = false
  shape : Shape st fld
  fn : ∃ (oc : Value) (od : Option Addr) (qual : Str) (doc pm : Value) (an : Option Addr) (cda cc : Addr) (ct : Value) (osl : Array (Option Value)) (ccl cl : Value) (cdd cld : Option Addr) (vs : Array Value) (ccs csl : Array (Option Value)) (file : Str) (tf : Tok),
    K.lookup fI = some ⟨oc, od, .func (ksFn "__init__" qual (defArgs st) (defBody st) (defScope st) .none .none doc pm an (.ref cda) ct cc), osl⟩ ∧ codeIn K (.ref cda) qual = true ∧ K.lookup cda = some ⟨ccl, cdd, .fields vs, ccs⟩ ∧ vs[2]? = some (.str file tf) ∧
    ((P.main.file : Str) == file) = true ∧ K.lookup cc = some ⟨cl, cld, .cell (some (.ref C)), csl⟩
theorem ns_but {h h' : Heap} {a : Addr} {m : Str → Option Value} (hn : h.Ns a m) (k : ∀ o, h.get? a = some o → h'.get? a = some o) : h'.Ns a m := by
  obtain ⟨o, es, ep, e, r⟩ := hn
  exact ⟨o, es, ep, k o e, r⟩
theorem kept_but0 {K : Frag} {h h' : Heap} {x : Addr} (X : K.In h) (hx : ∀ o, K.lookup x = some o → False) (k : ∀ b o, b ≠ x → h.get? b = some o → h'.get? b = some o) : K.In h' := fun a o e => k a o (fun z => hx o (z ▸ e)) (X a o e)
section
variable {P : Program} {w : World} {A : Around} {E : Value → Shared → Prop} {R : Result → Shared → Prop} {s : Shared} {K : Frag} {mg mb : Str → Option Value} {C fI : Addr} {fld : Str} {st : Stmt}
theorem x_init (hf : FldOk fld) (T : OwnTxt P K st fld C fI) {x t0 : Addr} {v : Value} (X : K.In s.heap) (hlim : s.heap.NoLimit) (hg : s.heap.Ns mainGlobals mg) (noS : mg "super" = none) (hb : s.heap.Ns builtinsNs mb) (hbb : ∀ y : Str, y ≠ "__name__" → mb y = bootBuiltins y)
    (hx : s.heap.get? x = some (excO C t0)) (hnx : K.lookup x = none) (hroom : A.depth < recursionLimit) (hu : A.units + 100 < cLine) (hv : FmtOk P w s.heap v)
    (hq : ∀ h' tk dx, (∀ b o, b ≠ x → s.heap.get? b = some o → h'.get? b = some o) → (∃ t1 : Addr, h'.get? x = some { cls := .ref C, dict := some dx, data := .fields #[.ref t1, .none, .none, .none, .bool false, .none] }) → s.heap.objs.size ≤ dx → dx ≠ x → h'.Ns1 dx (fun y => if y = fld then some v else none) → R (.ok (.ret .none)) { s with heap := h', toks := tk }) :
    codeAny (model P w) A (.call (.ref fI) ⟨[.ref x, v], []⟩) R s := by
  obtain ⟨oc, od, qual, doc, pm, an, cda, cc, ct, osl, ccl, cl, cdd, cld, vs, ccs, csl, file, tf, ho, hcd, hcode, hvs, hfile, hcell⟩ := T.fn
  obtain ⟨p1, p2, pre, a0, a1, a2, a3, a4, a5, a6, a7, a8, a9, b0, b1, b2, eA, eB, eS, hpre, hcall⟩ := T.shape
  rw [eA, eB, eS] at ho
  obtain ⟨nm, qn, N, bs, bm, sn, sub, ab, col, dd, k0, k1, k2, k3, k5, hC, hbm, hal⟩ := T.cls
  have hcl : clsIn K C = some { name := nm, bases := bs, mro := .ref C :: bm, ns := N, qualname := qn, hasDict := true, slotNames := sn, subclasses := sub, abstract := ab, collection := col, hasDel := false } := by unfold clsIn; rw [hC] <;> rfl
  have hxC : x ≠ C := fun z => by
    have e1 := X _ _ hC
    rw [← z, hx] at e1
    cases e1
  refine ks_codeAny_call_defAt (fd := ksFn "__init__" qual (xA fld p1 p2) (xB pre fld a0 a1 a2 a3 a4 a5 a6 a7 a8 a9 b0 b1 b2) (xS fld) .none .none doc pm an (.ref cda) ct cc) (body := xB pre fld a0 a1 a2 a3 a4 a5 a6 a7 a8 a9 b0 b1 b2) (binds := [("self", .ref x), (fld, v)]) hroom (X _ _ ho) rfl hlim (codeRec_of X hcd) rfl
    (by rcases hf with rfl | rfl | rfl <;> exact BindsTo.of_eq (by first | rfl | with_unfolding_all rfl)) (fun y hy => by
      have hy : y ∈ [(PySem.Str.ofString "self", NameKind.local), (fld, .local), (PySem.Str.ofString "__class__", .free), (PySem.Str.ofString "super", .globalImplicit)] := hy
      simp only [List.mem_cons, List.not_mem_nil, or_false] at hy
      rcases hy with rfl | rfl | rfl | rfl <;> exact fun z => nomatch z)
    (fun y hy => by
      simp only [List.mem_cons, List.not_mem_nil, or_false] at hy
      rcases hf with rfl | rfl | rfl <;> rcases hy with rfl | rfl <;> first | rfl | with_unfolding_all rfl | kernel_rfl) (fun h0 hn k => ?_) rfl rfl rfl
  have kS : (xS fld).names.lookup ("super" : Str) = some .globalImplicit := by rcases hf with rfl | rfl | rfl <;> decide +kernel
  have kC : (xS fld).names.lookup ("__class__" : Str) = some .free := by rcases hf with rfl | rfl | rfl <;> decide +kernel
  have kX : (xS fld).names.lookup ("self" : Str) = some .local := by rcases hf with rfl | rfl | rfl <;> decide +kernel
  have kF : (xS fld).names.lookup fld = some .local := by rcases hf with rfl | rfl | rfl <;> decide +kernel
  have mX : ([(PySem.Str.ofString "self", Value.ref x), (fld, v)] : List (Str × Value)).reverse.lookup ("self" : Str) = some (.ref x) := by rcases hf with rfl | rfl | rfl <;> first | rfl | with_unfolding_all rfl | kernel_rfl
  have mF : ([(PySem.Str.ofString "self", Value.ref x), (fld, v)] : List (Str × Value)).reverse.lookup fld = some v := by rcases hf with rfl | rfl | rfl <;> first | rfl | with_unfolding_all rfl | kernel_rfl
  have dF : (fld == ("__debug__" : Str)) = false := by rcases hf with rfl | rfl | rfl <;> decide +kernel
  have hLx : s.heap.objs.size ≠ x := Nat.ne_of_gt (Heap.lt_size hx)
  have X0 : K.In h0 := X.keeps k
  have hC0 := X0 _ _ hC
  obtain ⟨hp, g, d, t, os⟩ := s
  show _root_.PySem.wpAt _ _ (.func (xB pre fld a0 a1 a2 a3 a4 a5 a6 a7 a8 a9 b0 b1 b2) (ksEnv qual (xS fld) hp.objs.size fI (.ref cda) cc)) (execs (xB pre fld a0 a1 a2 a3 a4 a5 a6 a7 a8 a9 b0 b1 b2) (ksEnv qual (xS fld) hp.objs.size fI (.ref cda) cc)) _ _ _
  refine ks_wpAt_execs_cons (ks_wpAt_Expr_any (ks_wpAt_MethodCall (ks_wpAt_super_base (env := ksEnv qual (xS fld) hp.objs.size fI (.ref cda) cc) kS kC rfl rfl (X0 _ _ ho) rfl rfl rfl (X0 _ _ hcode) rfl hvs hfile T.top ?_) (hcall _)))
  refine ks_loadName_global rfl kS (loadGlobal_builtin (env := ksEnv qual (xS fld) hp.objs.size fI (.ref cda) cc) (hg.keeps k) noS (hb.keeps k) ((hbb _ (by decide +kernel)).trans PyProof.Rows.Boot.«super») ⟨rfl, ?_⟩)
  refine wpAny_loadName_free rfl kC rfl ⟨_, X0 _ _ hcell, rfl⟩ ?_
  refine wpAny_loadName_local rfl kX hn mX ?_
  refine ks_wpAny_isType_cls hC0 rfl ⟨rfl, ?_⟩
  refine ks_wpAny_call_super hC0 rfl (k _ _ hx) rfl (fun c e => nomatch e) (looks_mroIn X0 T.self) (fun h1 hso k1 => ?_)
  have X1 := X0.keeps k1
  have hx1 := k1 _ _ (k _ _ hx)
  have hns1 : h1.Ns hp.objs.size _ := ns_but hn fun o e => k1 _ _ e
  have hI : Looks (model P w) h1 (isInstance (.ref x) (.type "ValueError")) true := (PySem.W.InstAt.type (od := none) ⟨hx1, rfl, rfl, trivial⟩).andThen (looks_subIn X1 T.veB)
  refine kxs_getMethod kxs_ValueError hso (looks_opaque X1 T.op) (l₀ := Value.ref C :: bm) (fun A Q E s k q => wpAny_bind ((looks_clsIn X1 hcl) A _ E s k (wpAny_pure q))) rfl X1 hal hI hxC rfl ?_
  have k2 : ∀ b o, h1.get? b = some o → (h1.push (kxs_mw "ValueError.__init__" x)).get? b = some o := fun b o e => Heap.get?_push_of_some _ e
  have hmw : (h1.push (kxs_mw "ValueError.__init__" x)).get? h1.objs.size = some (kxs_mw "ValueError.__init__" x) := Heap.get?_push_at rfl rfl
  refine kxs_callWith (i := "ValueError.__init__") (x := x) rfl (evalArgs_plain (Calls.spliced_cons ?_))
  have hns2 := ns_but hns1 fun o e => k2 _ _ e
  have hul : (A.deeper (ksEnv qual (xS fld) hp.objs.size fI (.ref cda) cc)).units + 64 < cLine := by
    show A.units + 3 + 64 < cLine
    omega
  refine JoinedStr_many (pos := a6) (joinParts_cons (Constant_str ⟨?_, ?_⟩))
  · show (Str.empty ++ pre).length ≤ sizeLine
    rw [strLen_append, sizeLine_eq]
    have : Str.empty.length = 0 := rfl
    omega
  refine joinParts_cons (FormattedValue_plain ?_)
  refine wpAny_Name (wpAny_loadName_local rfl kF hns2 mF ?_) dF
  refine hv _ _ _ _ hul (fun b o e => k2 _ _ (k1 _ _ (k _ _ e))) fun m u tk hm => ?_
  have hlen : (Str.empty ++ pre ++ m).length ≤ sizeLine := by
    rw [strLen_append, strLen_append, sizeLine_eq]
    have : Str.empty.length = 0 := rfl
    omega
  refine ⟨hlen, joinParts_nil ?_ hlen⟩
  refine Calls.spliced_nil ⟨hmw, ?_⟩
  have hx2 : (h1.push (kxs_mw "ValueError.__init__" x)).get? x = some (excO C t0) := k2 _ _ hx1
  refine wpAny_call (codeAny_of_tree ?_)
  show wpAny _ _ (callAny (.ref h1.objs.size) _) _ _ _
  simp only [callAny]
  refine wpAny_bind (wpAny_load hmw ?_); simp only [kxs_mw, show (Value.type "method-wrapper" == Value.type "method" || Value.type "method-wrapper" == Value.type "builtin_function_or_method" || Value.type "method-wrapper" == Value.type "method-wrapper") = true by decide, if_true]
  refine KFB.if_so (by decide) ?_
  refine wpAny_bind (check_bound_init F.excBase_ValueError.toExcCallFacts (k2 _ _ (k1 _ _ hC0)) hx2 rfl ?_)
  refine wpAny_bind (wpAny_pure (wpAny_pure ?_))
  refine ⟨plainId_quiet F.excBase_ValueError.init.plain _, codeAny_builtin F.excBase_ValueError.initEntry ?_⟩
  refine exc_init_tree (cls := .ref C) (t0 := t0) (dv := none) (c2 := .none) (c3 := .none) (b4 := .bool false) hx2 (by show 1 ≤ sizeLine; rw [sizeLine_eq]; omega) fun h3 k3 hx3 _ => ?_
  have X3 : K.In h3 := kept_but0 (X1.keeps k2) (fun o z => nomatch hnx.symm.trans z) k3
  have hns3 := ns_but hns2 fun o e => k3 _ _ hLx e
  refine _root_.PySem.wpAt_of_wpAny (wpAny_execs_cons (plainObj_wpAny_Assign_Attribute ?_ ?_))
  · refine wpAny_Name (wpAny_loadName_local rfl kF hns3 mF ?_) dF
    refine wpAny_Name (wpAny_loadName_local rfl kX hns3 mX ?_) (by decide)
    refine set_plain X3 (od := none) ⟨hx3, rfl, rfl, trivial⟩ T.sa ?_
    refine exc_osa X3 hx3 hcl (show refsVE (.ref C :: bm) = true from hbm) rfl T.noF (fun h4 tk4 dx k4 dn dne hx4 hn4 => ?_)
    refine wpAny_execs_nil (hq h4 tk4 dx (fun b o hb e => k4 b o hb (k3 b o hb (k2 _ _ (k1 _ _ (k _ _ e))))) ⟨_, hx4⟩ ?_ dne hn4)
    have z1 := Heap.lt_size (show h3.get? hp.objs.size = some _ from hns3.choose_spec.choose_spec.choose_spec.1)
    exact Nat.le_of_lt (Nat.lt_of_lt_of_le z1 dn)
  · rcases hf with rfl | rfl | rfl <;> rfl
end
end One
end P_X1

section P_X2
set_option linter.all false
set_option maxRecDepth 100000
set_option maxHeartbeats 4000000
namespace One
open PySem PySem.W PySem.Calls PyProof.Rows PySem.HandSPX L2
/-- what an own exception is made with: a small number, a tuple of such -/
inductive Shown (K : Frag) (H : Hp) : V → Prop
  | int (n : Nat) (h : n < 1000) : Shown K H (.int (n : Nat))
  | tup {a : Addr} (ns : List Nat) (ht : SqT K H a (ns.map fun n => V.int (n : Nat))) (hl : ns.length ≤ 100) (h : ∀ n ∈ ns, n < 1000) : Shown K H (.ref a)
theorem repr_nats {P : Program} {w : World} : ∀ {ns : List Nat} {us : List Value}, Vals (ns.map fun n => V.int (n : Nat)) us → (∀ n ∈ ns, n < 1000) → ReprAll P w us (ns.map fun n => ((toString ((n : Nat) : Int) : String) : Str))
  | [], _, r, _ => by
    cases r
    exact .nil
  | n :: l, _, r, h => by
    cases r with
    | cons r1 r2 =>
      obtain ⟨t, rfl⟩ := r1
      exact .cons (ReprIs.int t (by rw [Int.natAbs_natCast]; exact log_small (h n (List.mem_cons_self ..)))) (repr_nats r2 fun z hz => h z (List.mem_cons_of_mem _ hz))
theorem nats_text : ∀ ns : List Nat, (∀ n ∈ ns, n < 1000) → ((ns.map fun n => ((toString ((n : Nat) : Int) : String) : Str)).map (·.length)).sum ≤ 8 * ns.length
  | [], _ => Nat.zero_le _
  | n :: r, h => by
    have h1 := nats_text r fun z hz => h z (List.mem_cons_of_mem _ hz)
    have h2 : ((toString ((n : Nat) : Int) : String) : Str).length ≤ 8 := int_short n (h n (List.mem_cons_self ..))
    rw [List.map_cons, List.map_cons, List.sum_cons, List.length_cons]
    omega
theorem Shown.fmt {X : Cx} {pins : List (Addr × Obj)} {σ : L2.St} {H : Hp} {s : Shared} {v : V} {u : Value} (I : Inv X pins σ H s) (h : Shown X.K H v) (r : RelV v u) : FmtOk X.prog X.w s.heap u := by
  intro A E s1 Q hu hk q
  cases h with
  | int n hn =>
    obtain ⟨t, rfl⟩ := r
    exact wpAny_formatField_int (by rw [Int.natAbs_natCast]; exact log_small hn) (q _ _ _ (Nat.le_trans (int_short n hn) (by decide)))
  | tup ns ht hl hn =>
    cases r
    obtain ⟨its, rv, ⟨o, ho, hcl, n, hd⟩, _⟩ := I.tuple ht
    have e1 := tupleText_len_le (ns.map fun n => ((toString ((n : Nat) : Int) : String) : Str))
    have e2 := nats_text ns hn
    rw [List.length_map] at e1
    exact fmt_tuple (ts := ns.map fun n => ((toString ((n : Nat) : Int) : String) : Str)) (by omega) (hk _ _ ho) hcl hd (repr_nats rv hn) (by rw [sizeLine_eq]; omega) fun m u tk hm => q m u tk (by omega)
/-- the class under its name -/
structure OwnCls (K : Frag) (mg : Str → Option Value) (nm : Str) (C fI : Addr) : Prop where
  g : mg nm = some (.ref C)
  iC : findIn K (.ref C) "__init__" = some (some (.ref fI))
  tC : typeIn K (.ref fI) = some (.type "function")
  kC : keepIn K (.ref C) = true
  exC : subIn K (.ref C) (.type "BaseException") = some true
  tyC : typeIn K (.ref C) = some (.type "type")
/-- nm(e) -/
def tMkX (K : Frag) (fld : Str) (C : Addr) (ta : TA) : L2.St → Hp → XK → Prop := fun σ H Q => ta σ H fun vs H1 => ∃ v, vs = [v] ∧ Shown K H1 v ∧ ∀ d, H1 d = none → Q (.ref C) (some d) (upd H1 d (.xd [(fld, v)]))
theorem relO_one {v : V} {u : Value} {g : Str} (r : RelV v u) (f : Str) : RelO (List.lookup f [(g, v)]) (if f = g then some u else none) := by
  rw [lookup_put]
  by_cases e : f = g
  · rw [if_pos e, if_pos e]
    exact r
  · rw [if_neg e, if_neg e]
    trivial
section
variable {X : Cx} {C fI : Addr}
theorem pmk_x {nm fld : Str} {st : Stmt} {a : Expr} {ta : TA} {p pos : Pos} {k : Nat} (hf : FldOk fld) (T : OwnTxt X.prog X.K st fld C fI) (O : OwnCls X.K X.mg nm C fI) (noS : X.mg "super" = none) (hr : Room k X.A) (ha : PA X [a] ta) (hg : Gl X nm) (hdb : (nm == ("__debug__" : Str)) = false := by decide) (he : starEach (a :: []) X.env = (false, eval a X.env) :: starEach [] X.env := by rfl) (hpl : (backTo pos (starEach [] X.env)).any (·.1) = false := by rfl) : PMk X (.Call (.Name nm p) [a] [] pos) (tMkX X.K fld C ta) := by
  intro pins s σ H Q I h
  refine wpAny_Call_Name_kw (ld_glob I hg O.g ?_ hdb)
  refine PySem.W.callWith_K (h₀ := X.base) I.ok.mod.kin O.kC (thn (ha.run pos pins s σ H _ I h) fun us s1 ⟨vs, H1, I1, r1, v, ev, hv, q1⟩ => ⟨I1.kIn, ?_⟩) he hpl
  subst ev
  obtain ⟨v', rfl, rv⟩ := vals1 r1
  obtain ⟨nm', qn, N, bs, bm, sn, sub, ab, col, dd, k0, k1, k2, k3, k5, hC, hbm, hal⟩ := T.cls
  have hfm := hv.fmt I1 rv
  have hX := I1.kIn
  have hlim := I1.nolimit
  obtain ⟨_, mgl, ⟨mb, hbn, hbb⟩, _⟩ := I1.mod
  have hbk := I1.bk
  show wpAny _ _ (call (.ref C) [v']) _ _ _
  obtain ⟨hp, g, dr, tk, os⟩ := s1
  have kk : ∀ b o, hp.get? b = some o → ((hp.push (PySem.W.kdv_tup [v'])).push (PySem.HandSPX.excO C hp.objs.size)).get? b = some o := fun b o e => Heap.get?_push_of_some _ (Heap.get?_push_of_some _ e)
  have hget : ((hp.push (PySem.W.kdv_tup [v'])).push (PySem.HandSPX.excO C hp.objs.size)).get? (hp.objs.size + 1) = some (PySem.HandSPX.excO C hp.objs.size) := by heap_get
  have hnx : X.K.lookup (hp.objs.size + 1) = none := by
    match e : X.K.lookup (hp.objs.size + 1) with
    | none => rfl
    | some o => exact absurd (Nat.lt_of_succ_lt (Heap.lt_size (hX _ _ e))) (Nat.lt_irrefl _)
  refine wpAny_call (PySem.HandSPX.call_own F.excBase_ValueError (fun Y => PySem.HandSPX.refsVE_contains Y bm hbm) (hX _ _ hC) (PySem.W.looks_findIn hX O.iC) (fun self => PySem.W.bind_fn hX self O.tC) (by show 1 ≤ sizeLine; rw [sizeLine_eq]; omega) ?_)
  have hdp := hr.dp
  have hun := hr.un
  refine x_init (s := ⟨(hp.push (PySem.W.kdv_tup [v'])).push (PySem.HandSPX.excO C hp.objs.size), g, dr, tk, os⟩) hf T (hX.keeps kk) (hlim.keeps kk) ((mgl.keeps hbk).keeps kk) noS ((hbn.keeps hbk).keeps kk) hbb hget hnx ?_ ?_ (hfm.keeps kk) fun h' tk' dx k' hx dn dne hns => ?_
  · rw [make_depth]
    omega
  · rw [make_units]
    omega
  · refine ⟨rfl, ?_⟩
    show MkP X pins σ Q (.ref (hp.objs.size + 1)) ⟨h', g, dr, tk', os⟩
    obtain ⟨t1, hx⟩ := hx
    have dn : hp.objs.size + 1 + 1 ≤ dx := by
      first
        | (simpa only [Heap.size_push] using dn)
        | exact dn
    have dbig : hp.objs.size ≤ dx := by omega
    obtain ⟨G', g1, g2⟩ := restrict h' fun b => decide (b ≠ hp.objs.size + 1)
    have gk : ∀ b, b ≠ hp.objs.size + 1 → G'.get? b = h'.get? b := fun b hb => g1 b (decide_eq_true hb)
    have ge : G'.get? (hp.objs.size + 1) = none := g2 _ (by simp)
    have ne : ∀ {b : Addr} {o : Obj}, hp.get? b = some o → b ≠ hp.objs.size + 1 := fun {b o} q => Nat.ne_of_lt (Nat.lt_succ_of_lt (Heap.lt_size q))
    have old : ∀ b o, hp.get? b = some o → G'.get? b = some o := fun b o q => (gk b (ne q)).trans (k' b o (ne q) (kk b o q))
    have ob : ObjOk X.prog X.w (upd H1 dx (.xd [(fld, v)])) G' dx (.xd [(fld, v)]) := ⟨_, hns.at (fun o q => (gk dx dne).trans q), fun f => relO_one rv f⟩
    have J : Inv X pins σ (upd H1 dx (.xd [(fld, v)])) ⟨G', g, dr, tk', os⟩ := I1.laid (t' := tk') old dbig ob
    refine ⟨hp.objs.size + 1, _, _, ⟨G', g, dr, tk', os⟩, _, .ref C, some dx, rfl, J, fun b o q => ?_, ge, hx, ⟨rfl, rfl⟩, rfl, rfl, ?_, rfl, I1.bare, raises_own O.exC O.tyC, q1 dx (I1.hok.fresh dbig)⟩
    · by_cases hb : b = hp.objs.size + 1
      · cases (hb ▸ ge).symm.trans (show G'.get? b = some o from q)
      · exact (gk b hb).symm.trans q
    · rw [upd_ne (Ne.symm dne)]
      exact I1.hok.fresh (Nat.le_succ _)
/-- raise nm(e) -/
def tRaiseX (K : Frag) (fld : Str) (C : Addr) (W : WX) (ta : TA) : TS := fun _ σ H => tMkX K fld C ta σ H fun cls d H' => W cls d σ H'
theorem ps_raiseX {nm fld : Str} {st : Stmt} {a : Expr} {ta : TA} {W : WX} {p pos pos2 : Pos} {k : Nat} (hc : X.calm = true) (hf : FldOk fld) (T : OwnTxt X.prog X.K st fld C fI) (O : OwnCls X.K X.mg nm C fI) (noS : X.mg "super" = none) (hr : Room k X.A) (tk : Takes X W) (ha : PA X [a] ta) (hg : Gl X nm) (hdb : (nm == ("__debug__" : Str)) = false := by decide) (he : starEach (a :: []) X.env = (false, eval a X.env) :: starEach [] X.env := by rfl) (hpl : (backTo pos (starEach [] X.env)).any (·.1) = false := by rfl) :
    PS X (.Raise (some (.Call (.Name nm p) [a] [] pos)) none pos2) (tRaiseX X.K fld C W ta) := ps_raise hc tk (pmk_x hf T O noS hr ha hg hdb he hpl)
end
end One
end P_X2

section P_X3
set_option linter.all false
set_option maxRecDepth 100000
set_option maxHeartbeats 4000000
namespace One
open PySem PySem.Spec PyProof.Rows L2
/-! ### try: .. except x as n: m = n / rest, where the rest may look at the exception that m holds -/
/-- slot i is n's, slot j is m's -/
def wHold (K : PySem.W.Frag) (c : Value) (i j : Nat) (tE : Addr → Value → Option Addr → TS) (Wout : WX) (D : Ends) : WX := fun cls d σ H =>
  ∃ b, PySem.W.exmOne K cls c = some b ∧ (b = true → ∀ a, H a = none → tE a cls d D (((σ.set i (some (.ref a))).set j (some (.ref a))).set i none) H) ∧ (b = false → Wout cls d σ H)
theorem tr_tr {X : Cx} {pins : List (Addr × Obj)} {σ : L2.St} {H : Hp} {s : Shared} {q : Addr × Obj} {xe : Value → Shared → Prop} (I : Inv (X.suite q.1 (q :: (X.pn ++ pins))) [] σ H s) (ok : X.Ok) : Inv (X.tr (q :: (X.pn ++ pins)) xe) [] σ H s :=
  ⟨ok.toTry _ _, I.os, I.bare, I.base, I.loc, I.cell, I.free, I.freeC, I.pin, I.hok, I.len⟩
theorem of_tr {X : Cx} {pins pn' : List (Addr × Obj)} {σ : L2.St} {H : Hp} {s : Shared} {q : Addr × Obj} {xe : Value → Shared → Prop} (I : Inv (X.tr (q :: (X.pn ++ pins)) xe) pn' σ H s) (ok : X.Ok) : Inv X pins σ H s :=
  ⟨ok, I.os, I.bare, I.base, I.loc, I.cell, I.free, I.freeC, fun y hy => I.pin y (List.mem_append_left _ (List.mem_cons_of_mem _ hy)), I.hok, I.len⟩
theorem sp_tr {X : Cx} {pins : List (Addr × Obj)} {q : Addr × Obj} {xe : Value → Shared → Prop} {D : Ends} {f : Flow} {s : Shared} (ok : X.Ok) (h : SP (X.tr (q :: (X.pn ++ pins)) xe) [] D f s) : SP X pins D f s := by
  match f, h with
  | .next, ⟨σ', H', J, z⟩ => exact ⟨σ', H', of_tr J ok, z⟩
  | .brk, ⟨σ', H', J, z⟩ => exact ⟨σ', H', of_tr J ok, z⟩
  | .cont, ⟨σ', H', J, z⟩ => exact ⟨σ', H', of_tr J ok, z⟩
  | .ret u, ⟨v, σ', H', J, r, z⟩ => exact ⟨v, σ', H', of_tr J ok, r, z⟩
section
variable {X : Cx} {x n m : Str} {c : Value} {i j : Nat} {body rest : List Stmt} {np mp mp2 ap pos pos' : Pos} {tb : WX → TS} {t0 : TS} {tE : Addr → Value → Option Addr → TS} {Wout : WX}
theorem pss_hold (hs : X.stack = X.env :: X.outer) (hf : X.env.frame = some X.env.locals) (nd : X.N.Nodup) (hi : X.N[i]? = some n) (hln : X.env.kindOf n = some .local) (hj : X.N[j]? = some m) (hlm : X.env.kindOf m = some .local) (hc : Names X x c) (tk : Takes X Wout)
    (hdb : (n == ("__debug__" : Str)) = false) (hdc : (n == ("__classdict__" : Str)) = false)
    (hb : ∀ (W : WX) (pn : List (Addr × Obj)) (xe : Value → Shared → Prop), Takes (X.tr pn xe) W → PassesOwn (model X.prog X.w) X.A X.env xe → PSs (X.tr pn xe) body (tb W)) (h0 : PSs X rest t0)
    (hE : ∀ (a : Addr) (oe : Obj) (cls : Value) (d : Option Addr) (pn : List (Addr × Obj)), Zc cls d oe → (∃ vs, oe.data = .fields vs) → PSs (X.tr ((a, oe) :: pn) X.xe) rest (tE a cls d)) :
    PSs X (.Try body [.ExceptHandler (some (.Name x np)) (some n) [.Assign [.Name m mp] (.Name n mp2) ap] pos'] [] [] pos :: rest) (fun D σ H => tb (wHold X.K c i j tE Wout D) { D with nx := t0 D } σ H) := by
  refine ⟨fun pins s σ H D I h => ?_⟩
  have ok := I.ok
  have frs0 : X.A.frames = some (X.env :: X.outer) := ok.frames.trans (by rw [hs])
  refine wpAny_execs_cons (wpAny_Try_except ?_)
  let Q2 : Flow → Shared → Prop := fun f s' => match f with
    | .next => wpAny (model X.prog X.w) X.A (execs rest X.env) (SP X pins D) X.xe s'
    | f => SP X pins D f s'
  refine wpAny_mono ((hb (wHold X.K c i j tE Wout D) (X.pn ++ pins) (fun e s1 => wpAny (model X.prog X.w) X.A (noteFrame e X.env) (fun _ s2 => wpAny (model X.prog X.w) X.A (setFlight e none) (fun _ s3 =>
    wpAny (model X.prog X.w) X.A (handleBy e X.env [.ExceptHandler (some (.Name x np)) (some n) [.Assign [.Name m mp] (.Name n mp2) ap] pos']) Q2 X.xe s3) X.xe s2) X.xe s1) (fun u s' air => ?_) PassesOwn.looking).run [] s σ H { D with nx := t0 D } (I.toTry _) h) (fun f s1 hsp => ?_) (fun e s1 he => he)
  · obtain ⟨a, B, sI, pins', σ', H', cls, d, rfl, Jx, nb, up, sky, na, os, ag, b, hb1, yes, no⟩ := air
    have Jo : Inv X pins σ' H' sI := Jx.ofTry ok
    refine (show wpAny (model X.prog X.w) X.A (noteFrame (.ref a) X.env) _ _ _ from ?_)
    refine Sky.land Zc.steady frs0 hf (hs ▸ sky : Sky B (X.env :: X.outer) a (Zc cls d) X.env.locals s'.heap) fun hpl fll upl => ?_
    have Jl : Inv X pins σ' H' { s' with heap := hpl } := Jo.landed nb fll.1 (up.trans upl) os ag
    obtain ⟨oel, vsl, hel, hzl, hdl⟩ := fll.there
    have away : a ∉ frs (X.env :: X.outer) := fun hm => by
      obtain ⟨_, o', e', hnf⟩ := fll.2.2.1.mem hm
      cases hel.symm.trans e'
      exact hnf _ hdl
    have nL : a ≠ X.env.locals := fun z => away (List.mem_filterMap.mpr ⟨X.env, List.mem_cons_self, hf.trans (congrArg some z.symm)⟩)
    have nS : a ∉ X.fs := fun hm => by
      obtain ⟨e, he, q⟩ := List.mem_filterMap.mp hm
      exact away (List.mem_filterMap.mpr ⟨e, List.mem_cons_of_mem _ he, q⟩)
    have Sl := Jl.suite hel hdl na nL nS
    refine wpAny_handleBy_cons (codeAny_handlers_test ?_) (by intro q; cases q)
    have Lty : PySem.W.Looks (model X.prog X.w) hpl (typeOf (.ref a)) cls := fun A Q E s k q => wpAny_typeOf_ref (k _ _ hel) (by rw [hzl.1]; exact q)
    have look : ∀ {Q : Value → Shared → Prop} {E : Value → Shared → Prop}, Q c { s' with heap := hpl } → wpAny (model X.prog X.w) (X.A.mark (some (.ref a))) (eval (.Name x np) X.env) Q E { s' with heap := hpl } := fun {Q E} q => by
      obtain ⟨g1, g2, g3 | ⟨g3, g4, g5⟩⟩ := hc
      · exact ld_glob (X := X.suite a ((a, oel) :: (X.pn ++ pins))) Sl g1 g3 q g2
      · exact ld_blt (X := X.suite a ((a, oel) :: (X.pn ++ pins))) Sl g1 g3 g4 q g5 g2
    refine look ((PySem.W.exm_one (M := model X.prog X.w) Jl.kIn Lty hb1).here ?_)
    cases b with
    | true =>
      refine codeAny_handlers_suite_as (HandSPX.lands_againZ fll fun hpm flm upm => ?_)
      have Jm : Inv X pins σ' H' { s' with heap := hpm } := Jo.landed nb flm.1 ((up.trans upl).trans upm) os ag
      obtain ⟨oem, vsm, hem, hzm, hdm⟩ := flm.there
      have Sm := Jm.suite hem hdm na nL nS
      refine store_ok (X := X.suite a ((a, oem) :: (X.pn ++ pins))) (v := .ref a) Sm nd hi (.inl hln) rfl (fun s5 S5 => ?_) (.inr hln)
      have one : PSs (X.suite a ((a, oem) :: (X.pn ++ pins))) [.Assign [.Name m mp] (.Name n mp2) ap] _ := pss_one (ps_set (i := j) nd hj (.inl hlm) (pe_var (i := i) hi (.inl hln) hdb hdc) (hf := .inr hlm))
      have li : i < σ'.length := by
        rw [Jo.len]
        exact (List.getElem?_eq_some_iff.mp hi).1
      refine wpAny_mono (one.run [] s5 _ H' { nx := fun σ6 H6 => σ6 = (σ'.set i (some (.ref a))).set j (some (.ref a)) ∧ H6 = H', rt := fun _ _ => False } S5 ⟨.ref a, List.getElem?_set_self li, rfl, rfl⟩) (fun f s6 hsp => ?_) (fun _ _ z => False.elim z)
      match f, hsp with
      | .next, ⟨σ6, H6, S6, e1, e2⟩ =>
        subst e1 e2
        refine gone_ok (X := X.suite a ((a, oem) :: (X.pn ++ pins))) S6 nd hi hln fun s7 S7 => ?_
        exact wpAny_mono ((hE a oem cls d (X.pn ++ pins) hzm ⟨_, hdm⟩).run [] s7 _ _ D (tr_tr (q := (a, oem)) S7 ok) (yes rfl a na)) (fun f s8 h8 => sp_tr (q := (a, oem)) ok h8) fun _ _ z => z
      | .brk, ⟨_, _, _, z⟩ => exact z.elim
      | .cont, ⟨_, _, _, z⟩ => exact z.elim
      | .ret u, ⟨_, _, _, _, _, z⟩ => exact z.elim
    | false =>
      refine (show wpAny _ X.A (handleBy (.ref a) X.env []) _ _ _ from wpAny_handleBy_nil ?_)
      obtain ⟨_, _, _, oe, vs, T, oT, ts', he, hz, hd, h1, hr⟩ := id fll
      unfold PySem.passOn
      refine wpAny_bind (wpAny_field he hd h1 ?_); rw [if_neg (show ¬ ((Value.ref T == Value.none) = true) from by simp)]
      have last : wpAny (model X.prog X.w) X.A (setFlight (.ref a) X.env.frame) (fun _ s4 => wpAny (model X.prog X.w) X.A (throw (.ref a) : Sem Flow) Q2 X.xe s4) X.xe { s' with heap := hpl } := by
        rw [hf]
        exact HandSPX.setFlight_upZ fll fun hpm hh4 upm => wpAny_throw (tk _ _ ⟨a, B, sI, pins, σ', H', cls, d, rfl, Jo, nb, (up.trans upl).trans upm, .inr (.inr (by rw [hs]; exact hh4)), na, os, ag, no rfl⟩)
      first
        | exact wpAny_bind (wpAny_pure (wpAny_bind last))
        | exact wpAny_bind last
  · match f, hsp with
    | .next, ⟨σ', H', Jx, q⟩ => exact wpAny_execs_nil (h0.run pins s1 σ' H' D (Jx.ofTry ok) q)
    | .brk, ⟨σ', H', Jx, q⟩ => exact ⟨σ', H', Jx.ofTry ok, q⟩
    | .cont, ⟨σ', H', Jx, q⟩ => exact ⟨σ', H', Jx.ofTry ok, q⟩
    | .ret u, ⟨v, σ', H', Jx, r, q⟩ => exact ⟨v, σ', H', Jx.ofTry ok, r, q⟩
end
end One
end P_X3

section P_X4
set_option linter.all false
set_option maxRecDepth 100000
set_option maxHeartbeats 4000000
namespace One
open PySem PySem.Spec PyProof.Rows L2
/-! ### a held exception is looked at: its class, its fields -/
theorem held_at {X : Cx} {a D dd : Addr} {oe : Obj} {pn pins : List (Addr × Obj)} {xe : Value → Shared → Prop} {σ : L2.St} {H : Hp} {s : Shared} {fs : List (Str × V)} (I : Inv (X.tr ((a, oe) :: pn) xe) pins σ H s) (hz : Zc (.ref D) (some dd) oe) (hf : ∃ vs, oe.data = .fields vs) (hd : H dd = some (.xd fs)) :
    ∃ (od : Obj) (mA : Str → Option Value), PySem.W.InstAt s.heap a oe D (some od) ∧ s.heap.Ns1 dd mA ∧ s.heap.get? dd = some od ∧ ∀ g, RelO (fs.lookup g) (mA g) := by
  obtain ⟨hat, _⟩ := I.pin (a, oe) (List.mem_append.mpr (.inl List.mem_cons_self))
  obtain ⟨vs, hv⟩ := hf
  obtain ⟨mA, hns, hr⟩ := (show ObjOk X.prog X.w H s.heap dd (.xd fs) from I.hok dd _ hd)
  obtain ⟨od, es, ep, ho, _⟩ := id hns
  exact ⟨od, mA, ⟨hat, hz.1, by unfold PySem.W.notCls; rw [hv] <;> rfl, by rw [hz.2]; exact ho⟩, hns, ho, hr⟩
def rIsX (K : PySem.W.Frag) (a : Addr) (cls : Value) (d : Option Addr) : List V → Hp → VK → Prop := fun xs H Q => ∃ (D dd : Addr) (c : V) (cv : Value) (b : Bool) (fs : List (Str × V)), xs = [.ref a, c] ∧ cls = .ref D ∧ d = some dd ∧ ExcC K D ∧
  (∀ u, RelV c u → u = cv) ∧ PySem.W.kitOne K (.ref D) cv = some b ∧ H dd = some (.xd fs) ∧ Q (.bl b) H
section
variable {X : Cx} {a : Addr} {oe : Obj} {cls : Value} {d : Option Addr} {pn : List (Addr × Obj)} {xe : Value → Shared → Prop}
theorem cr_isX (hz : Zc cls d oe) (hf : ∃ vs, oe.data = .fields vs) : CallR (X.tr ((a, oe) :: pn) xe) (.builtin "isinstance") (rIsX X.K a cls d) := by
  intro pins s σ H xs us Q I r h
  obtain ⟨D, dd, c, cv, b, fs, rfl, rfl, rfl, C, hcv, e, hd, q⟩ := h
  cases r with
  | cons rx rr =>
    cases rr with
    | cons rt rr =>
      cases rr
      cases rx
      have ec := hcv _ rt
      subst ec
      obtain ⟨od, mA, J, _, _, _⟩ := held_at I hz hf hd
      have hcl : (PySem.W.clsIn X.K D).isSome = true := by
        obtain ⟨cd, hc, _⟩ := PySem.W.any_some C.hd
        rw [hc]; rfl
      exact PySem.W.kia_one (PySem.W.kitx_exc hcl C.hg C.hk C.hs C.ha C.hn C.ht C.hm) I.kIn J e (fun z => nomatch z) fun tk => ⟨.bl b, H, I.kept (t' := tk) fun _ _ z => z, rfl, q⟩
/-- x.n, x the held exception -/
def tFld (K : PySem.W.Frag) (a : Addr) (cls : Value) (d : Option Addr) (n : Str) (te : TE) : TE := fun σ H Q => te σ H fun x H1 => ∃ (C dd : Addr) (fs : List (Str × V)) (v : V), x = .ref a ∧ cls = .ref C ∧ d = some dd ∧ XfC K C ∧ PySem.W.findIn K (.ref C) n = some none ∧ H1 dd = some (.xd fs) ∧ fs.lookup n = some v ∧ Q v H1
theorem pe_fld {e : Expr} {te : TE} {pos : Pos} {n : Str} (hz : Zc cls d oe) (hf : ∃ vs, oe.data = .fields vs) (he : PE (X.tr ((a, oe) :: pn) xe) e te) (hb : attributeBase e n X.env (eval e X.env) = eval e X.env := by rfl) :
    PE (X.tr ((a, oe) :: pn) xe) (.Attribute e n pos) (tFld X.K a cls d n te) := by
  refine ⟨fun pins s σ H Q I h => attr_of hb (thn (he.run pins s σ H _ I h) fun u s1 ⟨x, H1, I1, rx, C, dd, fs, v, ex, e1, e2, T, hno, hd, l, q⟩ => ?_)⟩
  subst ex e1 e2
  obtain rfl : u = Value.ref a := rx
  obtain ⟨od, mA, J, hns, ho, hr⟩ := held_at I1 hz hf hd
  obtain ⟨od', ho', hl⟩ := lookIn_ns hns
  obtain rfl : od' = od := Option.some.inj (ho'.symm.trans ho)
  obtain ⟨uv, huv, ruv⟩ := RelO.some_of (v := v) (o := mA n) (by rw [← l]; exact hr n)
  exact HandSPX.exc_get I1.kIn J T.ga T.gg T.exC (PySem.W.findObj_own T.hdC hno rfl (by rw [hl, huv])) (handed_of ruv) ⟨v, H1, I1.tok _, ruv, q⟩
end
end One
end P_X4

section P_X5
set_option linter.all false
set_option maxRecDepth 100000
set_option maxHeartbeats 8000000
namespace One
open PySem PySem.Spec PyProof.Rows L2
abbrev sRef : Stmt := top 35
abbrev nRef : List Str := ["deed", "caught", "e", "kinds", "some", "word", "is_one"]
theorem scRef : FnScope nRef ["deed"] (defScope sRef) := ⟨rfl, rfl, rfl, by decide +kernel, rfl, by decide +kernel, by decide +kernel⟩
/-- what repr(v) gives -/
inductive RepV (K : PySem.W.Frag) (H : Hp) : V → Str → Prop
  | int (n : Nat) (h : n < 1000) : RepV K H (.int (n : Nat)) ((toString ((n : Nat) : Int) : String) : Str)
  | data {a : Addr} {d : PyData} (h : Dp K H (.ref a) d) (h1 : d.showable = true) (h2 : d.hasDict = false) (h3 : d.depth ≤ 16) (h4 : d.shown.length ≤ sizeLine) : RepV K H (.ref a) d.shown
def rRepV (K : PySem.W.Frag) : List V → Hp → VK → Prop := fun xs H Q => ∃ (v : V) (t : Str), xs = [v] ∧ RepV K H v t ∧ Q (.str t) H
theorem cr_repV {X : Cx} (hgd : X.A.guards = some []) (hu : X.A.units + 64 < cLine) : CallR X (.builtin "repr") (rRepV X.K) := by
  intro pins s σ H xs us Q I r h
  obtain ⟨v, t, rfl, hv, q⟩ := h
  cases hv with
  | int n hn => exact SkE.call_repr_int pins s σ H _ us Q I r ⟨_, rfl, by rw [Int.natAbs_natCast]; exact log_small hn, q⟩
  | data hd h1 h2 h3 h4 => exact call_repr_data hgd hu pins s σ H _ us Q I r ⟨_, _, rfl, hd, h1, h2, h3, h4, q⟩
def wordOf (i : Nat) : Str := (["yard", "text", "end", "setting", "draft", "place", "barred", "many"] : List Str).getD i ""
def fldOf (i : Nat) : Str := if i = 6 then "way" else if i = 7 then "many" else "place"
def toldOf (i : Nat) (t : Str) : Str := if i = 6 then ("barred " : Str) ++ t else wordOf i ++ (" " : Str) ++ t
/-- the names of the classes -/
structure ErrN (mg : Str → Option Value) (CL : Nat → Addr) (RE : Addr) : Prop where
  re : mg "RoundError" = some (.ref RE)
  c0 : mg "BadYard" = some (.ref (CL 0))
  c1 : mg "BadText" = some (.ref (CL 1))
  c2 : mg "BadEnd" = some (.ref (CL 2))
  c3 : mg "BadSetting" = some (.ref (CL 3))
  c4 : mg "BadDraft" = some (.ref (CL 4))
  c5 : mg "OutOfPlace" = some (.ref (CL 5))
  c6 : mg "Barred" = some (.ref (CL 6))
  c7 : mg "TooMany" = some (.ref (CL 7))
  ve : mg "ValueError" = none
/-- the i-th class among them -/
structure ErrC (K : PySem.W.Frag) (CL : Nat → Addr) (RE : Addr) (i : Nat) : Prop where
  lt : i < 8
  exc : ExcC K (CL i)
  xf : XfC K (CL i)
  no : PySem.W.findIn K (.ref (CL i)) (fldOf i) = some none
  kits : ∀ j, j < 8 → PySem.W.kitOne K (.ref (CL i)) (.ref (CL j)) = some (decide (i = j))
  ve : PySem.W.kitOne K (.ref (CL i)) (.type "ValueError") = some true
  exm : PySem.W.exmOne K (.ref (CL i)) (.ref RE) = some true
/-- what is wished of what the deed raises -/
def XTold (K : PySem.W.Frag) (CL : Nat → Addr) (RE : Addr) (Q : VK) : XK := fun cls d H => ∃ (i : Nat) (dd : Addr) (v : V) (t : Str), ErrC K CL RE i ∧ cls = .ref (CL i) ∧ d = some dd ∧ H dd = some (.xd [(fldOf i, v)]) ∧ (∀ H', Same H H' → RepV K H' v t) ∧ t.length ≤ 1000000 ∧
  ∀ H', Same H H' → Q (.str (toldOf i t)) H'
def TTref (K : PySem.W.Frag) (CL : Nat → Addr) (RE : Addr) : (XK → Hp → VK → Prop) → Hp → VK → Prop := fun tl H Q => tl (XTold K CL RE Q) H fun _ H' => Q (.str "") H'
/-- pairs of a word and a truth -/
inductive KL (H : Hp) : List Addr → List (Str × Bool) → Prop
  | nil : KL H [] []
  | cons {a p as ps} : H a = some (.tup [.str p.1, .bl p.2]) → KL H as ps → KL H (a :: as) (p :: ps)
theorem KL.mono {H H' : Hp} {as : List Addr} {ps : List (Str × Bool)} (h : KL H as ps) (k : Same H H') : KL H' as ps := by
  induction h with
  | nil => exact .nil
  | cons e _ ih => exact .cons (k _ _ e) ih
theorem KL.get {H : Hp} {as : List Addr} {ps : List (Str × Bool)} (h : KL H as ps) : ∀ {i : Nat} {a : Addr}, as[i]? = some a → ∃ p, ps[i]? = some p ∧ H a = some (.tup [.str p.1, .bl p.2]) := by
  induction h with
  | nil => intro i a e; simp at e
  | cons h1 _ ih =>
    intro i a e
    cases i with
    | zero =>
      cases Option.some.inj e
      exact ⟨_, rfl, h1⟩
    | succ i => exact ih (i := i) (by simpa using e)
def kindsOf (i : Nat) : List (Str × Bool) := (List.range 8).map fun j => (wordOf j, decide (i = j))
end One
end P_X5

section P_X6
set_option linter.all false
set_option maxRecDepth 100000
set_option maxHeartbeats 8000000
namespace One
open PySem PySem.Spec PyProof.Rows L2
theorem last_of {H H' : Hp} {a : Addr} {o : HO} (_ : Same H (upd H' a o)) : (upd H' a o) a = some o := upd_same
theorem lookup_one {f : Str} {v : V} : List.lookup f [(f, v)] = some v := by
  rw [lookup_put, if_pos rfl]
theorem kinds_one : ∀ i, i < 8 → (kindsOf i).filter (·.2) = [(wordOf i, true)] := by
  have h : ∀ i : Fin 8, (kindsOf i).filter (·.2) = [(wordOf i, true)] := by decide +kernel
  exact fun i hi => h ⟨i, hi⟩
theorem word_short : ∀ i, i < 8 → (wordOf i).length ≤ 10 := by
  have h : ∀ i : Fin 8, (wordOf i).length ≤ 10 := by decide +kernel
  exact fun i hi => h ⟨i, hi⟩
theorem word_barred : ∀ i, i < 8 → decide (V.str (wordOf i) = V.str "barred") = decide (i = 6) := by
  intro i hi
  rw [dec_str]
  have h : ∀ i : Fin 8, (wordOf i == ("barred" : Str)) = decide ((i : Nat) = 6) := by decide +kernel
  exact h ⟨i, hi⟩
theorem word_many : ∀ i, i < 8 → decide (V.str (wordOf i) = V.str "many") = decide (i = 7) := by
  intro i hi
  rw [dec_str]
  have h : ∀ i : Fin 8, (wordOf i == ("many" : Str)) = decide ((i : Nat) = 7) := by decide +kernel
  exact h ⟨i, hi⟩
/-- (word, isinstance(caught, class)) -/
def tIs (K : PySem.W.Frag) (CL : Nat → Addr) (a : Addr) (cls : Value) (d : Option Addr) (w : Str) (j : Nat) : TE := tTup (tCons (tC (.str w)) (tCons (tCB (rIsX K a cls d) (tCons (tVar 1) (tCons (tC (.ref (CL j))) tNil))) tNil))
theorem is_read {K : PySem.W.Frag} {CL : Nat → Addr} {RE a dd : Addr} {i j : Nat} {w : Str} {σ : L2.St} {H : Hp} {Q : VK} {fs : List (Str × V)} (C : ErrC K CL RE i) (hj : j < 8) (h1 : σ[1]? = some (some (.ref a))) (hd : H dd = some (.xd fs))
    (q : ∀ p, H p = none → Q (.ref p) (upd H p (.tup [.str w, .bl (decide (i = j))]))) : tIs K CL a (.ref (CL i)) (some dd) w j σ H Q :=
  ⟨_, h1, CL i, dd, .ref (CL j), .ref (CL j), _, fs, rfl, rfl, rfl, C.exc, fun u r => r, C.kits j hj, hd, two_le, q⟩
section
variable {X : Cx}
theorem takes_len {W : WX} (tk : Takes X W) : Takes X fun cls d σ H => σ.length = X.N.length → W cls d σ H := fun u s' ⟨a, B, sI, pins, σ, H, cls, d, e, I, nb, up, sky, na, os, ag, w⟩ => tk u s' ⟨a, B, sI, pins, σ, H, cls, d, e, I, nb, up, sky, na, os, ag, w I.len⟩
theorem ref_gives {CL : Nat → Addr} {RE g : Addr} {cdg : Value} {q : Str} {k : Nat} (T : TB X.mg) (Nm : ErrN X.mg CL RE) (hgd : X.A.guards = some []) (hr : Room k X.A) :
    LamX.GivesTo X nRef "_law_refused" (defScope sRef) g cdg (defBody sRef) "deed" q (TTref X.K CL RE) := by
  intro f c' s H Q tl act hc h
  have nd := scRef.nd
  let cx : Cx := cxOf C8.CX0 X.prog X.w X.K X.mg X.base nRef "_law_refused" (defScope sRef) g cdg X.A X.stack s H C8.E0
  have hu : (X.A.deeper (envOfC "_law_refused" (defScope sRef) s.heap.objs.size g cdg)).units + 64 < cLine := by
    show X.A.units + 3 + 64 < cLine
    have := hr.un
    omega
  have gl : ∀ {x : Str}, (defScope sRef).names.lookup x = some .globalImplicit → Gl cx.nox x := fun h => h
  have iw : ∀ {a : Addr} {oe : Obj} {cls : Value} {d : Option Addr} {pn : List (Addr × Obj)} {w x : Str} {j n : Nat} {p0 p1 p2 p3 p4 p5 : Pos} (hz : Zc cls d oe) (hf : ∃ vs, oe.data = .fields vs) (hx : (defScope sRef).names.lookup x = some .globalImplicit) (hm : X.mg x = some (.ref (CL j))) (hdb : (x == ("__debug__" : Str)) = false),
      PE (cx.nox.tr ((a, oe) :: pn) cx.nox.xe) (.Tuple [.Constant (.str w) n p0, .Call (.Name "isinstance" p1) [.Name "caught" p2, .Name x p3] [] p4] 0 p5) (tIs X.K CL a cls d w j) := fun hz hf hx hm hdb =>
    pe_tup (pa_cons pe_str (pa_cons (pe_callB (cr_isX hz hf) (gl (by decide +kernel)) T.isinstance boot_isinstance (pa_cons (pv 1) (pa_cons (pe_glob (v := .ref (CL _)) (gl hx) hm rfl hdb) pa_nil))) pa_nil))
  have ixl : ∀ {a : Addr} {oe : Obj} {pn : List (Addr × Obj)}, IxR (cx.nox.tr ((a, oe) :: pn) cx.nox.xe) (rIxL X.K) := ix_list
  have opc : ∀ {a : Addr} {oe : Obj} {pn : List (Addr × Obj)}, OpR (cx.nox.tr ((a, oe) :: pn) cx.nox.xe) (binaryOp .Add) (rCatS X.K) := op_catS
  have lenc : ∀ {a : Addr} {oe : Obj} {pn : List (Addr × Obj)}, CallR (cx.nox.tr ((a, oe) :: pn) cx.nox.xe) (.builtin "len") (fun xs H Q => ∃ p ys, xs = [.ref p] ∧ (SqL X.K H p ys ∨ SqT X.K H p ys) ∧ Q (.int ys.length) H) := call_len_seq
  have repc : ∀ {a : Addr} {oe : Obj} {pn : List (Addr × Obj)}, CallR (cx.nox.tr ((a, oe) :: pn) cx.nox.xe) (.builtin "repr") (rRepV X.K) := cr_repV hgd hu
  have pil : ∀ {a : Addr} {oe : Obj} {pn : List (Addr × Obj)} {tg : Expr} {p : Pos}, PI (cx.nox.tr ((a, oe) :: pn) cx.nox.xe) tg (.Name "kinds" p) (iList X.K (tVar 3)) := pi_list (pv 3)
  have fld : ∀ {a : Addr} {oe : Obj} {cls : Value} {d : Option Addr} {pn : List (Addr × Obj)} {n : Str} {p0 p1 : Pos} (hz : Zc cls d oe) (hf : ∃ vs, oe.data = .fields vs), PE (cx.nox.tr ((a, oe) :: pn) cx.nox.xe) (.Attribute (.Name "caught" p0) n p1) (tFld X.K a cls d n (tVar 1)) := fun hz hf => pe_fld hz hf (pv 1)
  refine ⟨_, pss_cons (ps_set (i := 1) nd rfl (Or.inl rfl) pe_non) (pss_hold (X := cx.nox) (i := 2) (j := 1) (c := .ref RE) (Wout := fun _ _ _ _ => False)
    (tb := fun W D σ H => ∃ Ech : XK, (∀ cls d σ' H', Ech cls d H' → σ'.length = 7 → W cls d σ' H') ∧ σ[0]? = some (some (.ref f)) ∧ H c' = some (LamX.CodeO c' q) ∧ tl Ech H fun _ H' => D.nx σ H')
    rfl rfl nd rfl rfl rfl rfl ⟨gl (by decide +kernel), by decide +kernel, .inl Nm.re⟩ LamX.takes0 (by decide +kernel) (by decide +kernel) (fun W pn xe tk _ => ?_)
    (pss_cons (ps_if (pt_cmpR op_isN (pv 1) pe_non (nomark _)) (pss_one (ps_ret pe_str)) pss_nil) pss_never)
    (fun a oe cls d pn hz hf => pss_cons (ps_if (pt_cmpR op_isN (pv 1) pe_non (nomark _)) (pss_one (ps_ret pe_str)) pss_nil)
      (pss_cons (ps_set (i := 3) nd rfl (Or.inl rfl) (pe_lst (pa_cons (iw (j := 0) hz hf (by decide +kernel) Nm.c0 (by decide +kernel)) (pa_cons (iw (j := 1) hz hf (by decide +kernel) Nm.c1 (by decide +kernel)) pa_nil))))
      (pss_cons (ps_set (i := 3) nd rfl (Or.inl rfl) (pe_op opc (pv 3) (pe_lst (pa_cons (iw (j := 2) hz hf (by decide +kernel) Nm.c2 (by decide +kernel)) (pa_cons (iw (j := 3) hz hf (by decide +kernel) Nm.c3 (by decide +kernel)) pa_nil)))))
      (pss_cons (ps_set (i := 3) nd rfl (Or.inl rfl) (pe_op opc (pv 3) (pe_lst (pa_cons (iw (j := 4) hz hf (by decide +kernel) Nm.c4 (by decide +kernel)) (pa_cons (iw (j := 5) hz hf (by decide +kernel) Nm.c5 (by decide +kernel)) pa_nil)))))
      (pss_cons (ps_set (i := 3) nd rfl (Or.inl rfl) (pe_op opc (pv 3) (pe_lst (pa_cons (iw (j := 6) hz hf (by decide +kernel) Nm.c6 (by decide +kernel)) (pa_cons (iw (j := 7) hz hf (by decide +kernel) Nm.c7 (by decide +kernel)) pa_nil)))))
      (pss_cons (ps_setLc (i := 4) (own := [("word", 5), ("is_one", 6)]) (g := gTup X.K 2 (gCons (gName 5) (gCons (gName 6) gNil))) (tt := tB (tVar 6)) (te := tVar 5) rfl nd rfl rfl (sw_true rfl rfl rfl (by decide +kernel)) pil (blkOk_by (N := nRef) (sc := defScope sRef) (by decide +kernel))
          (fun _ _ _ _ _ => pg_tup rfl (pgs_cons (pg_name (i := 5) nd rfl (Or.inl rfl)) (pgs_cons (pg_name (i := 6) nd rfl (Or.inl rfl)) pgs_nil))) (fun _ _ _ _ _ => pts_one (pt_val (pv 6))) (fun _ _ _ _ _ => pv 5))
      (pss_cons (ps_if (PW.pt (pw_or (pt_cmpR op_ne (pe_callB lenc (gl (by decide +kernel)) T.len PySem.boot_len (pa_cons (pv 4) pa_nil)) pe_int (nomark _))
          (pw_or1 (pt_not (pt_val (pe_callB (cr_isX hz hf) (gl (by decide +kernel)) T.isinstance boot_isinstance (pa_cons (pv 1) (pa_cons (pe_bltn (v := .ty "ValueError") (gl (by decide +kernel)) Nm.ve PyProof.Rows.Boot.«ValueError» rfl) pa_nil)))))))) (pss_one (ps_ret pe_str)) pss_nil)
      (pss_cons (ps_if (pt_cmpR op_eq (pe_ix ixl (pv 4) pe_int (fun _ _ => rfl)) pe_str (nomark _)) (pss_one (ps_ret (pe_op op_add_str pe_str (pe_callB repc (gl (by decide +kernel)) T.repr boot_repr (pa_cons (fld hz hf) pa_nil))))) pss_nil)
      (pss_one (ps_ret (pe_op op_add_str (pe_op op_add_str (pe_ix ixl (pv 4) pe_int (fun _ _ => rfl)) pe_str)
          (pe_callB repc (gl (by decide +kernel)) T.repr boot_repr (pa_cons (pe_ifExp (pt_cmpR op_eq (pe_ix ixl (pv 4) pe_int (fun _ _ => rfl)) pe_str (nomark _)) (fld hz hf) (fld hz hf)) pa_nil)))))))))))))), ?_⟩
  · exact ⟨fun pins s' σ H' D I ⟨Ech, hW, h1, h2, h3⟩ => (pss_one (ps_expr (act (fun cls d σ H => σ.length = 7 → W cls d σ H) pn xe Ech _ _ (takes_len tk) hW))).run pins s' σ H' D I ⟨h1, h2, h3⟩⟩
  · refine ⟨XTold X.K CL RE Q, fun cls d σ' H1 hx hl => ?_, rfl, hc, ?_⟩
    · obtain ⟨i, dd, v, t, C, rfl, rfl, hd, hv, ht, k⟩ := hx
      refine ⟨true, C.exm, fun _ a ha => ?_, fun z => nomatch z⟩
      obtain ⟨s0, s1, s2, s3, s4, s5, s6, rfl⟩ : ∃ s0 s1 s2 s3 s4 s5 s6, σ' = [s0, s1, s2, s3, s4, s5, s6] := by
        match σ', hl with
        | [s0, s1, s2, s3, s4, s5, s6], _ => exact ⟨s0, s1, s2, s3, s4, s5, s6, rfl⟩
      refine ⟨_, rfl, rfl, _, rfl, iteF ?_⟩
      -- the kinds
      refine ⟨_, rfl, CL i, dd, .ref (CL 0), .ref (CL 0), _, _, rfl, rfl, rfl, C.exc, fun u r => r, C.kits 0 (by decide), hd, two_le, fun p0 hp0 => ?_⟩
      have z0 := Same.new (o := .tup [.str "yard", .bl (decide (i = 0))]) hp0
      refine ⟨_, rfl, CL i, dd, .ref (CL 1), .ref (CL 1), _, _, rfl, rfl, rfl, C.exc, fun u r => r, C.kits 1 (by decide), z0 _ _ hd, two_le, fun p1 hp1 => ?_⟩
      have z1 := z0.trans (Same.new (o := .tup [.str "text", .bl (decide (i = 1))]) hp1)
      refine ⟨two_le, fun l1 hl1 => ?_⟩
      have y1 := z1.trans (Same.new (o := .lst [V.ref p0, V.ref p1]) hl1)
      refine ⟨_, rfl, ?_⟩
      refine ⟨_, rfl, CL i, dd, .ref (CL 2), .ref (CL 2), _, _, rfl, rfl, rfl, C.exc, fun u r => r, C.kits 2 (by decide), y1 _ _ hd, two_le, fun p2 hp2 => ?_⟩
      have z2 := Same.new (o := .tup [.str "end", .bl (decide (i = 2))]) hp2
      refine ⟨_, rfl, CL i, dd, .ref (CL 3), .ref (CL 3), _, _, rfl, rfl, rfl, C.exc, fun u r => r, C.kits 3 (by decide), z2 _ _ (y1 _ _ hd), two_le, fun p3 hp3 => ?_⟩
      have z3 := z2.trans (Same.new (o := .tup [.str "setting", .bl (decide (i = 3))]) hp3)
      refine ⟨two_le, fun m1 hm1 => ?_⟩
      have x1 := z3.trans (Same.new (o := .lst [V.ref p2, V.ref p3]) hm1)
      refine ⟨_, _, _, _, rfl, rfl, SqL.of (x1 _ _ upd_same), upd_same, (by show 4 ≤ sizeLine; decide), fun l2 hl2 => ?_⟩
      have w1 := x1.trans (Same.new (o := .lst [V.ref p0, V.ref p1, V.ref p2, V.ref p3]) hl2)
      have y2 := y1.trans w1
      refine ⟨_, rfl, ?_⟩
      refine ⟨_, rfl, CL i, dd, .ref (CL 4), .ref (CL 4), _, _, rfl, rfl, rfl, C.exc, fun u r => r, C.kits 4 (by decide), y2 _ _ hd, two_le, fun p4 hp4 => ?_⟩
      have z4 := Same.new (o := .tup [.str "draft", .bl (decide (i = 4))]) hp4
      refine ⟨_, rfl, CL i, dd, .ref (CL 5), .ref (CL 5), _, _, rfl, rfl, rfl, C.exc, fun u r => r, C.kits 5 (by decide), z4 _ _ (y2 _ _ hd), two_le, fun p5 hp5 => ?_⟩
      have z5 := z4.trans (Same.new (o := .tup [.str "place", .bl (decide (i = 5))]) hp5)
      refine ⟨two_le, fun m2 hm2 => ?_⟩
      have x2 := z5.trans (Same.new (o := .lst [V.ref p4, V.ref p5]) hm2)
      refine ⟨_, _, _, _, rfl, rfl, SqL.of (x2 _ _ upd_same), upd_same, (by show 6 ≤ sizeLine; decide), fun l3 hl3 => ?_⟩
      have w2 := x2.trans (Same.new (o := .lst [V.ref p0, V.ref p1, V.ref p2, V.ref p3, V.ref p4, V.ref p5]) hl3)
      have y3 := y2.trans w2
      refine ⟨_, rfl, ?_⟩
      refine ⟨_, rfl, CL i, dd, .ref (CL 6), .ref (CL 6), _, _, rfl, rfl, rfl, C.exc, fun u r => r, C.kits 6 (by decide), y3 _ _ hd, two_le, fun p6 hp6 => ?_⟩
      have z6 := Same.new (o := .tup [.str "barred", .bl (decide (i = 6))]) hp6
      refine ⟨_, rfl, CL i, dd, .ref (CL 7), .ref (CL 7), _, _, rfl, rfl, rfl, C.exc, fun u r => r, C.kits 7 (by decide), z6 _ _ (y3 _ _ hd), two_le, fun p7 hp7 => ?_⟩
      have z7 := z6.trans (Same.new (o := .tup [.str "many", .bl (decide (i = 7))]) hp7)
      refine ⟨two_le, fun m3 hm3 => ?_⟩
      have x3 := z7.trans (Same.new (o := .lst [V.ref p6, V.ref p7]) hm3)
      refine ⟨_, _, _, _, rfl, rfl, SqL.of (x3 _ _ upd_same), upd_same, (by show 8 ≤ sizeLine; decide), fun l4 hl4 => ?_⟩
      have w3 := x3.trans (Same.new (o := .lst [V.ref p0, V.ref p1, V.ref p2, V.ref p3, V.ref p4, V.ref p5, V.ref p6, V.ref p7]) hl4)
      have y4 := y3.trans w3
      have d0 := w3 _ _ (w2 _ _ (w1 _ _ (Same.new (o := .lst [V.ref p0, V.ref p1]) hl1 _ _ (Same.new (o := .tup [.str "text", .bl (decide (i = 1))]) hp1 _ _ (upd_same (o := HO.tup [.str "yard", .bl (decide (i = 0))]))))))
      have d1 := w3 _ _ (w2 _ _ (w1 _ _ (Same.new (o := .lst [V.ref p0, V.ref p1]) hl1 _ _ (upd_same (o := HO.tup [.str "text", .bl (decide (i = 1))])))))
      have d2 := w3 _ _ (w2 _ _ (Same.new (o := .lst [V.ref p0, V.ref p1, V.ref p2, V.ref p3]) hl2 _ _ (Same.new (o := .lst [V.ref p2, V.ref p3]) hm1 _ _ (Same.new (o := .tup [.str "setting", .bl (decide (i = 3))]) hp3 _ _ (upd_same (o := HO.tup [.str "end", .bl (decide (i = 2))]))))))
      have d3 := w3 _ _ (w2 _ _ (Same.new (o := .lst [V.ref p0, V.ref p1, V.ref p2, V.ref p3]) hl2 _ _ (Same.new (o := .lst [V.ref p2, V.ref p3]) hm1 _ _ (upd_same (o := HO.tup [.str "setting", .bl (decide (i = 3))])))))
      have d4 := w3 _ _ (Same.new (o := .lst [V.ref p0, V.ref p1, V.ref p2, V.ref p3, V.ref p4, V.ref p5]) hl3 _ _ (Same.new (o := .lst [V.ref p4, V.ref p5]) hm2 _ _ (Same.new (o := .tup [.str "place", .bl (decide (i = 5))]) hp5 _ _ (upd_same (o := HO.tup [.str "draft", .bl (decide (i = 4))])))))
      have d5 := w3 _ _ (Same.new (o := .lst [V.ref p0, V.ref p1, V.ref p2, V.ref p3, V.ref p4, V.ref p5]) hl3 _ _ (Same.new (o := .lst [V.ref p4, V.ref p5]) hm2 _ _ (upd_same (o := HO.tup [.str "place", .bl (decide (i = 5))]))))
      have d6 := Same.new (o := .lst [V.ref p0, V.ref p1, V.ref p2, V.ref p3, V.ref p4, V.ref p5, V.ref p6, V.ref p7]) hl4 _ _ (Same.new (o := .lst [V.ref p6, V.ref p7]) hm3 _ _ (Same.new (o := .tup [.str "many", .bl (decide (i = 7))]) hp7 _ _ (upd_same (o := HO.tup [.str "barred", .bl (decide (i = 6))]))))
      have d7 := Same.new (o := .lst [V.ref p0, V.ref p1, V.ref p2, V.ref p3, V.ref p4, V.ref p5, V.ref p6, V.ref p7]) hl4 _ _ (Same.new (o := .lst [V.ref p6, V.ref p7]) hm3 _ _ (upd_same (o := HO.tup [.str "many", .bl (decide (i = 7))])))
      have hK : KL _ [p0, p1, p2, p3, p4, p5, p6, p7] (kindsOf i) := .cons d0 (.cons d1 (.cons d2 (.cons d3 (.cons d4 (.cons d5 (.cons d6 (.cons d7 .nil)))))))
      have hl4' := last_of w3
      have hl4' : _ = some (HO.lst (refs [p0, p1, p2, p3, p4, p5, p6, p7])) := hl4'
      have hd4 := y4 _ _ hd
      generalize hPs : [p0, p1, p2, p3, p4, p5, p6, p7] = ps at hK hl4'
      clear d0 d1 d2 d3 d4 d5 d6 d7
      refine ⟨_, rfl, l4, rfl, ⟨_, SqL.of hl4'⟩, fun D hD => ?_⟩
      have sD := Same.new (o := .lst []) hD
      have lenP : ps.length = 8 := by rw [← hPs]; rfl
      refine lc_it (walk_list (K := X.K) (a := l4) (xs := refs ps)) (fun n H6 => ∃ acc : List V, H6 D = some (.lst acc) ∧ acc = (((kindsOf i).take n).filter (·.2)).map (fun p => V.str p.1) ∧ n ≤ 8 ∧ Same _ H6) ⟨[], upd_same, rfl, Nat.zero_le _, sD⟩ (fun n H6 _ ⟨_, _, _, _, s6⟩ => SqL.of (s6 _ _ hl4')) ?_ ?_
      · rintro n x H6 H7 hn ⟨acc, hD6, ea, h8, s6⟩ ⟨rfl, hx⟩
        have hn8 : n < 8 := by rw [List.length_map, lenP] at hn; exact hn
        have hx : (refs ps)[n]? = some x := hx
        rw [List.getElem?_map, List.getElem?_eq_getElem (by omega : n < ps.length)] at hx
        cases hx
        obtain ⟨p, hp, hpa⟩ := hK.get (List.getElem?_eq_getElem (by omega : n < ps.length))
        have h6 := s6 _ _ hpa
        have step : (kindsOf i).take (n + 1) = (kindsOf i).take n ++ [p] := by
          rw [List.take_succ, hp]
          rfl
        refine ⟨_, _, rfl, SqT.of h6, rfl, _, _, rfl, _, _, rfl, rfl, rfl, ?_⟩
        refine ⟨_, rfl, _, rfl, ?_⟩
        refine ite2 (fun hb => ?_) (fun hb => ?_)
        · have hlen : acc.length ≤ 8 := by
            rw [ea, List.length_map]
            exact Nat.le_trans (List.length_filter_le _ _) (by rw [List.length_take]; omega)
          refine ⟨_, rfl, acc, hD6, small1000 (by omega), acc ++ [V.str p.1], upd_same, ?_, by omega, fun b o e => ?_⟩
          · rw [step, List.filter_append, List.map_append, ← ea]
            have : [p].filter (·.2) = [p] := by rw [List.filter_cons, if_pos hb, List.filter_nil]
            rw [this]
            rfl
          · rw [upd_ne (ne_of_none e hD)]
            exact s6 _ _ e
        · refine ⟨acc, hD6, ?_, by omega, s6⟩
          rw [step, List.filter_append]
          have : [p].filter (·.2) = [] := by rw [List.filter_cons, if_neg hb, List.filter_nil]
          rw [this, List.append_nil]
          exact ea
      · rintro H6 ⟨acc, hD6, ea, _, s6⟩
        have e8 : (refs ps).length = 8 := by rw [List.length_map, lenP]
        rw [e8, show (kindsOf i).take 8 = kindsOf i from rfl, kinds_one i C.lt] at ea
        have ea : acc = [V.str (wordOf i)] := ea
        subst ea
        have hd6 := s6 _ _ hd4
        have sA := y4.trans s6
        have hw := word_short i C.lt
        refine ⟨_, rfl, D, _, rfl, .inl (SqL.of hD6), rfl, _, rfl, ?_⟩
        refine ite2 (fun hb => absurd hb (by simp)) fun _ => ?_
        refine ⟨_, rfl, CL i, dd, .ty "ValueError", .type "ValueError", true, _, rfl, rfl, rfl, C.exc, fun u r => r, C.ve, hd6, true, rfl, iteF ?_⟩
        refine ⟨_, rfl, D, _, 0, _, rfl, rfl, SqL.of hD6, rfl, rfl, _, rfl, ?_⟩
        have hv6 := hv _ sA
        have hq := k _ sA
        have big : (2000000 : Nat) ≤ sizeLine := by decide
        by_cases h6 : i = 6
        · subst h6
          rw [show decide (V.str (wordOf 6) = V.str "barred") = true from word_barred 6 C.lt]
          refine iteT ⟨_, rfl, CL 6, dd, _, v, rfl, rfl, rfl, C.xf, C.no, hd6, lookup_one, v, t, rfl, hv6, _, _, rfl, rfl, ?_, hq⟩
          have : ("barred " : Str).length = 7 := rfl
          omega
        · rw [show decide (V.str (wordOf i) = V.str "barred") = false from (word_barred i C.lt).trans (decide_eq_false h6)]
          refine iteF ?_
          have et : toldOf i t = wordOf i ++ (" " : Str) ++ t := if_neg h6
          rw [et] at hq
          refine ⟨_, rfl, D, _, 0, _, rfl, rfl, SqL.of hD6, rfl, _, _, rfl, rfl, ?_, ?_⟩
          · have : (" " : Str).length = 1 := rfl
            omega
          refine ⟨_, rfl, D, _, 0, _, rfl, rfl, SqL.of hD6, rfl, rfl, _, rfl, ?_⟩
          have fin : ((wordOf i ++ (" " : Str)).length + t.length ≤ sizeLine) := by
            rw [strLen_append]
            have : (" " : Str).length = 1 := rfl
            omega
          by_cases h7 : i = 7
          · subst h7
            rw [show decide (V.str (wordOf 7) = V.str "many") = true from word_many 7 C.lt]
            exact iteT ⟨_, rfl, CL 7, dd, _, v, rfl, rfl, rfl, C.xf, C.no, hd6, lookup_one, v, t, rfl, hv6, _, _, rfl, rfl, fin, hq⟩
          · rw [show decide (V.str (wordOf i) = V.str "many") = false from (word_many i C.lt).trans (decide_eq_false h7)]
            refine iteF ?_
            have ef : fldOf i = "place" := by
              unfold fldOf
              rw [if_neg h6, if_neg h7]
            rw [ef] at hd6
            refine ⟨_, rfl, CL i, dd, _, v, rfl, rfl, rfl, C.xf, ef ▸ C.no, hd6, lookup_one, v, t, rfl, hv6, _, _, rfl, rfl, fin, hq⟩
    · have e : (fun (_ : V) (H' : Hp) => tSeq (tIfS (tTest (tOp (fun x y H Q => y = V.non ∧ Q (V.bl (decide (x = V.non))) H) (tVar 1) (tC V.non))) (tRet (tC (V.str ("" : Str)))) tNext) tNever { nx := fun _ H' => Q V.non H', rt := Q } ((L2.start nRef [V.ref f]).set 1 (some V.non)) H') = fun _ H' => Q (.str "") H' := by
        funext _ H'
        refine propext ⟨fun ⟨v, hv, e1, b, eb, hi⟩ => ?_, fun hq => ⟨_, rfl, rfl, _, rfl, iteT hq⟩⟩
        cases hv
        cases eb
        have hi : if (true : Bool) = true then _ else _ := hi
        rw [if_pos rfl] at hi
        exact hi
      exact Eq.mpr (congrArg (tl (XTold X.K CL RE Q) H) e) h
end
end One
end P_X6

section P_DA
set_option linter.all false
set_option maxRecDepth 100000
set_option maxHeartbeats 16000000
namespace One
open PySem PySem.Spec PyProof.Rows L2
theorem tup_off {H : Hp} {p c t : Addr} {n : Nat} {xs : List V} (M : MS H p c n) (h : H t = some (.tup xs)) : t ≠ p := by
  obtain ⟨_, _, _, _, h1, _⟩ := M.ex
  exact ne_of h h1 (by intro z; cases z)
theorem MS.apart {H : Hp} {p c t : Addr} {n : Nat} (M : MS H p c n) (h : H t = none) : t ≠ p := by
  obtain ⟨_, _, _, _, h1, _⟩ := M.ex
  exact fun z => by rw [z, h1] at h; cases h
/-- all stays but the dice and the tables -/
def ExtT (p l : Addr) (H H' : Hp) : Prop := ∀ b o, b ≠ p → b ≠ l → (∀ ps, o ≠ .tbl ps) → H b = some o → H' b = some o
theorem ExtT.refl (p l : Addr) (H : Hp) : ExtT p l H H := fun _ _ _ _ _ e => e
theorem ExtT.trans {p l : Addr} {H H1 H2 : Hp} (a : ExtT p l H H1) (b : ExtT p l H1 H2) : ExtT p l H H2 := fun c o x y z e => b c o x y z (a c o x y z e)
theorem ExtT.ofE {p l : Addr} {H H1 : Hp} (a : Ext p H H1) : ExtT p l H H1 := fun c o x _ _ e => a c o x e
theorem ExtT.ofS {p l : Addr} {H H1 : Hp} (a : Same H H1) : ExtT p l H H1 := fun c o _ _ _ e => a c o e
theorem ExtT.ofN {p l : Addr} {H H1 : Hp} (a : LamX.ExtN H H1) : ExtT p l H H1 := fun c o _ _ z e => a c o e z
/-! ### things as data, away from the dice -/
mutual
inductive Da (p l : Addr) (H : Hp) : V → PyData → Prop
  | non : Da p l H .non .none
  | bl (b : Bool) : Da p l H (.bl b) (.bool b)
  | int (i : Int) : Da p l H (.int i) (.int i)
  | str (x : Str) : Da p l H (.str x) (.str x)
  | lst {a : Addr} {xs : List V} {ds : List PyData} : a ≠ p → a ≠ l → a ≠ sysModules → H a = some (.lst xs) → DaAll p l H xs ds → Da p l H (.ref a) (.list ds)
  | tup {a : Addr} {xs : List V} {ds : List PyData} : a ≠ p → a ≠ l → H a = some (.tup xs) → DaAll p l H xs ds → Da p l H (.ref a) (.tuple ds)
  | emp {a : Addr} : a ≠ p → a ≠ l → H a = some (.dK []) → Da p l H (.ref a) (.dict [])
inductive DaAll (p l : Addr) (H : Hp) : List V → List PyData → Prop
  | nil : DaAll p l H [] []
  | cons {v : V} {vs : List V} {d : PyData} {ds : List PyData} : Da p l H v d → DaAll p l H vs ds → DaAll p l H (v :: vs) (d :: ds)
end
mutual
theorem Da.extT {p l : Addr} {H H' : Hp} (e : ExtT p l H H') : ∀ (d : PyData) (v : V), Da p l H v d → Da p l H' v d
  | .none, _, h => by cases h; exact .non
  | .bool _, _, h => by cases h; exact .bl _
  | .int _, _, h => by cases h; exact .int _
  | .str _, _, h => by cases h; exact .str _
  | .list ds, _, h => by
    cases h with
    | lst a b c f g => exact .lst a b c (e _ _ a b (by intro _ z; cases z) f) (DaAll.extT e ds _ g)
  | .tuple ds, _, h => by
    cases h with
    | tup a b f g => exact .tup a b (e _ _ a b (by intro _ z; cases z) f) (DaAll.extT e ds _ g)
  | .dict _, _, h => by
    cases h with
    | emp a b f => exact .emp a b (e _ _ a b (by intro _ z; cases z) f)
theorem DaAll.extT {p l : Addr} {H H' : Hp} (e : ExtT p l H H') : ∀ (ds : List PyData) (vs : List V), DaAll p l H vs ds → DaAll p l H' vs ds
  | [], _, h => by cases h; exact .nil
  | d :: ds, _, h => by
    cases h with
    | cons a b => exact .cons (Da.extT e d _ a) (DaAll.extT e ds _ b)
end
mutual
theorem Da.q {p l : Addr} {H : Hp} : ∀ (d : PyData) (v : V), Da p l H v d → Dq H v d
  | .none, _, h => by cases h; exact .non
  | .bool _, _, h => by cases h; exact .bl _
  | .int _, _, h => by cases h; exact .int _
  | .str _, _, h => by cases h; exact .str _
  | .list ds, _, h => by
    cases h with
    | lst a b c f g => exact .lst c f (DaAll.q ds _ g)
  | .tuple ds, _, h => by
    cases h with
    | tup a b f g => exact .tup f (DaAll.q ds _ g)
  | .dict _, _, h => by
    cases h with
    | emp a b f => exact .emp f
theorem DaAll.q {p l : Addr} {H : Hp} : ∀ (ds : List PyData) (vs : List V), DaAll p l H vs ds → DqAll H vs ds
  | [], _, h => by cases h; exact .nil
  | d :: ds, _, h => by
    cases h with
    | cons a b => exact .cons (Da.q d _ a) (DaAll.q ds _ b)
end
theorem Da.tv {p l : Addr} {H : Hp} {v : V} {d : PyData} (h : Da p l H v d) : ∃ T, TV H v T := by
  cases h with
  | non => exact ⟨_, .non⟩
  | bl b => exact ⟨_, .bl b⟩
  | int i => exact ⟨_, .int i⟩
  | str x => exact ⟨_, .str x⟩
  | lst a b c f g => exact ⟨_, .lst f⟩
  | tup a b f g => exact ⟨_, .tup f⟩
  | emp a b f => exact ⟨_, .dct f⟩
section
variable {p l : Addr} {H : Hp}
theorem DaAll.len {vs : List V} {ds : List PyData} : DaAll p l H vs ds → vs.length = ds.length := by
  induction ds generalizing vs with
  | nil => intro h; cases h; rfl
  | cons d ds ih =>
    intro h
    cases h with
    | cons a b => exact congrArg (· + 1) (ih b)
theorem DaAll.app {vs ws : List V} {ds es : List PyData} (k : DaAll p l H ws es) : DaAll p l H vs ds → DaAll p l H (vs ++ ws) (ds ++ es) := by
  induction ds generalizing vs with
  | nil => intro h; cases h; exact k
  | cons d ds ih =>
    intro h
    cases h with
    | cons a b => exact .cons a (ih b)
theorem DaAll.take {vs : List V} {ds : List PyData} (n : Nat) : DaAll p l H vs ds → DaAll p l H (vs.take n) (ds.take n) := by
  induction ds generalizing vs n with
  | nil => intro h; cases h; rw [List.take_nil, List.take_nil]; exact .nil
  | cons d ds ih =>
    intro h
    cases h with
    | cons a b =>
      cases n with
      | zero => exact .nil
      | succ n => exact .cons a (ih n b)
theorem DaAll.drop {vs : List V} {ds : List PyData} (n : Nat) : DaAll p l H vs ds → DaAll p l H (vs.drop n) (ds.drop n) := by
  induction ds generalizing vs n with
  | nil => intro h; cases h; rw [List.drop_nil, List.drop_nil]; exact .nil
  | cons d ds ih =>
    intro h
    cases h with
    | cons a b =>
      cases n with
      | zero => exact .cons a b
      | succ n => exact ih n b
theorem DaAll.rev {vs : List V} {ds : List PyData} : DaAll p l H vs ds → DaAll p l H vs.reverse ds.reverse := by
  induction ds generalizing vs with
  | nil => intro h; cases h; exact .nil
  | cons d ds ih =>
    intro h
    cases h with
    | cons a b =>
      rw [List.reverse_cons, List.reverse_cons]
      exact DaAll.app (.cons a .nil) (ih b)
theorem DaAll.get {vs : List V} {ds : List PyData} {i : Nat} {v : V} : DaAll p l H vs ds → vs[i]? = some v → ∃ d, ds[i]? = some d ∧ Da p l H v d := by
  induction ds generalizing vs i with
  | nil => intro h e; cases h; simp at e
  | cons d ds ih =>
    intro h e
    cases h with
    | cons a b =>
      cases i with
      | zero =>
        cases e
        exact ⟨_, rfl, a⟩
      | succ i => exact ih b (by simpa using e)
theorem DaAll.got {vs : List V} {ds : List PyData} {i : Nat} {d : PyData} (h : DaAll p l H vs ds) (e : ds[i]? = some d) : ∃ v, vs[i]? = some v ∧ Da p l H v d := by
  have hi := (List.getElem?_eq_some_iff.mp e).1
  obtain ⟨d', e', h'⟩ := h.get (List.getElem?_eq_getElem (by rw [h.len]; exact hi))
  cases e.symm.trans e'
  exact ⟨_, List.getElem?_eq_getElem (by rw [h.len]; exact hi), h'⟩
theorem da_nats : ∀ ns : List Nat, DaAll p l H (nats ns) (ns.map fun x => PyData.int (x : Nat))
  | [] => .nil
  | _ :: ns => .cons (.int _) (da_nats ns)
end
/-! ### how large: what is shown -/
structure Fx (d : PyData) (k n : Nat) : Prop where
  sh : d.showable = true
  dp : d.depth ≤ k
  lf : d.leavesShort 48 = true
  bk : d.bulk ≤ n
structure FxA (ds : List PyData) (k n : Nat) : Prop where
  sh : PyData.showableAll ds = true
  dp : PyData.depthAll ds ≤ k
  lf : PyData.leavesShortAll 48 ds = true
  bk : PyData.bulkAll ds ≤ n
theorem FxA.nil {k n : Nat} : FxA [] k n := ⟨rfl, Nat.zero_le _, rfl, Nat.zero_le _⟩
theorem FxA.cons {d : PyData} {ds : List PyData} {k n m : Nat} (a : Fx d k n) (b : FxA ds k m) : FxA (d :: ds) k (n + 1 + m) := by
  refine ⟨?_, ?_, ?_, ?_⟩
  · show (d.showable && PyData.showableAll ds) = true
    rw [a.sh, b.sh]; rfl
  · show max d.depth (PyData.depthAll ds) ≤ k
    exact Nat.max_le.mpr ⟨a.dp, b.dp⟩
  · show (d.leavesShort 48 && PyData.leavesShortAll 48 ds) = true
    rw [a.lf, b.lf]; rfl
  · show d.bulk + 1 + PyData.bulkAll ds ≤ _
    have := a.bk
    have := b.bk
    omega
theorem FxA.tup {ds : List PyData} {k n : Nat} (a : FxA ds k n) : Fx (.tuple ds) (k + 1) n := ⟨a.sh, Nat.succ_le_succ a.dp, a.lf, a.bk⟩
theorem FxA.lst {ds : List PyData} {k n : Nat} (a : FxA ds k n) : Fx (.list ds) (k + 1) n := ⟨a.sh, Nat.succ_le_succ a.dp, a.lf, a.bk⟩
theorem Fx.up {d : PyData} {k j n m : Nat} (a : Fx d k n) (h : k ≤ j) (h2 : n ≤ m) : Fx d j m := ⟨a.sh, Nat.le_trans a.dp h, a.lf, Nat.le_trans a.bk h2⟩
/-- items of a size each -/
theorem fxA_all {k n : Nat} : ∀ {ds : List PyData}, (∀ d ∈ ds, Fx d k n) → FxA ds k ((n + 1) * ds.length)
  | [], _ => .nil
  | d :: ds, h => by
    have a := FxA.cons (h d (List.mem_cons_self ..)) (fxA_all fun e he => h e (List.mem_cons_of_mem _ he))
    refine ⟨a.sh, a.dp, a.lf, ?_⟩
    have b := a.bk
    rw [List.length_cons, Nat.mul_succ]
    omega
theorem Fx.short {d : PyData} {k n : Nat} (h : Fx d k n) (hn : n ≤ 10000) : d.shown.length ≤ 500048 := by
  have q := PyData.shown_le_bulk 48 (by decide) d h.lf
  have := h.bk
  omega
theorem rq_da {K : PySem.W.Frag} {p l : Addr} {H : Hp} {v : V} {d : PyData} {k n : Nat} {Q : VK} (h : Da p l H v d) (f : Fx d k n) (hk : k ≤ 16) (hn : n ≤ 10000) (q : Q (.str d.shown) H) : rReprQ K [v] H Q :=
  ⟨v, d, rfl, .inr (Da.q d v h), f.sh, Nat.le_trans f.dp hk, Nat.le_trans (f.short hn) (by decide), q⟩
/-! ### list(t), where a list stands that is not the modules' dict -/
section
variable {X : Cx}
def rListN (K : PySem.W.Frag) : List V → Hp → VK → Prop := fun xs H Q => ∃ p ys, xs = [.ref p] ∧ SqT K H p ys ∧ ∀ l, l ≠ sysModules → H l = none → Q (.ref l) (upd H l (.lst ys))
theorem call_listN : CallR X (.type "list") (rListN X.K) := by
  intro pins s σ H xs us Q I r h
  obtain ⟨p, ys, rfl, hq, q⟩ := h
  obtain ⟨u, rfl, rx⟩ := vals1 r
  cases rx
  have fin : ∀ (its : List Value), Vals ys its → ys.length ≤ sizeLine → ∀ (h' : Heap) (c' : Nat), (∀ b o', s.heap.get? b = some o' → h'.get? b = some o') →
      h'.get? s.heap.objs.size = some { cls := .type "list", dict := none, data := .seq its.toArray c', slots := #[] } → EP X pins σ Q (.ref s.heap.objs.size) { s with heap := h' } := fun its r' hz h' c' kp e =>
    ⟨.ref s.heap.objs.size, _, I.laid (t' := s.toks) kp (Nat.le_refl _) (show ObjOk X.prog X.w _ h' _ (.lst ys) from ⟨hz, its, c', r', e⟩), rfl, q _ (Nat.ne_of_gt I.big) (I.hok.fresh (Nat.le_refl _))⟩
  obtain ⟨its, r', pl, hz⟩ := I.tuple hq
  have hlen := r'.length
  obtain ⟨o, ho, hc, n, hd⟩ := pl
  exact call_list_seq p (.inr rfl) ho hc hd (fun h' c' kp e => fin its r' hz h' c' kp e) (by simp only [List.size_toArray] <;> omega)
/-! ### [a, ..] the same -/
def tLstN (t : TA) : TE := fun σ H Q => t σ H fun xs H1 => xs.length ≤ sizeLine ∧ ∀ p, p ≠ sysModules → H1 p = none → Q (.ref p) (upd H1 p (.lst xs))
theorem pe_lstN {es : List Expr} {t : TA} {pos : Pos} (h : PA X es t) : PE X (.List es pos) (tLstN t) := by
  refine ⟨fun pins s σ H Q I hq => ?_⟩
  refine wpAny_List_spliced (thn (h.run pos pins s σ H _ I hq) fun us s1 ⟨xs, H1, I1, r, z, q⟩ => ⟨by rw [← r.length]; exact z, ?_⟩)
  have hf : H1 s1.heap.objs.size = none := I1.hok.fresh (Nat.le_refl _)
  refine ⟨.ref s1.heap.objs.size, upd H1 s1.heap.objs.size (.lst xs), I1.laid (t' := s1.toks) (fun b u e => Heap.get?_push_of_some _ e) (Nat.le_refl _) ?_, rfl, q _ (Nat.ne_of_gt I1.big) hf⟩
  exact ⟨z, us, 0, r, Heap.get?_push_size _ rfl⟩
end
/-! ### the same in own words -/
theorem rq_of {K : PySem.W.Frag} {H : Hp} {xs : List V} {Q : VK} (h : rRepr K xs H Q) : rReprQ K xs H Q := by
  obtain ⟨a, d, e, hd, h1, h2, h3, h4, q⟩ := h
  exact ⟨.ref a, d, e, .inl ⟨hd, h2⟩, h1, h3, h4, q⟩
/-- a statement that does not end, then anything -/
theorem pss_stop {X : Cx} {st : Stmt} {rest : List Stmt} {t : TS} (h1 : PS X st t) : PSs X (st :: rest) (fun D σ H => t { D with nx := fun _ _ => False } σ H) := by
  refine ⟨fun pins s σ H D I h => ?_⟩
  refine wpAny_execs_cons (thn (h1.run pins s σ H { D with nx := fun _ _ => False } I h) fun f s1 q => ?_)
  cases f with
  | next =>
    obtain ⟨σ', H', I', q⟩ := q
    exact q.elim
  | ret v => exact q
  | brk => exact q
  | cont => exact q
end One
end P_DA

section P_F4
set_option linter.all false
set_option maxRecDepth 100000
set_option maxHeartbeats 8000000
namespace One
open PySem PySem.Spec PyProof.Rows L2
abbrev sNeed : Stmt := top 18
abbrev sIsYard : Stmt := top 19
abbrev sBadYard : Stmt := top 2
theorem scNeed : FnScope ["thing", "place"] ["thing"] (defScope sNeed) := ⟨rfl, rfl, rfl, by decide +kernel, rfl, by decide +kernel, by decide +kernel⟩
theorem scIsYard : FnScope ["thing"] ["thing"] (defScope sIsYard) := ⟨rfl, rfl, rfl, by decide +kernel, rfl, by decide +kernel, by decide +kernel⟩
theorem il_of {H : Hp} {N : Nat} {as : List Addr} {ps : List (Nat × Nat)} (h : PL H as ps) (k : ∀ p ∈ ps, p.1 < p.2 ∧ p.2 < N) : IL H N (refs as) (ps.map some) := by
  induction h with
  | nil => exact .nil
  | cons h1 _ ih =>
    obtain ⟨k1, k2⟩ := k _ (List.mem_cons_self ..)
    exact .line h1 k1 k2 (ih fun p m => k p (List.mem_cons_of_mem _ m))
theorem map_some_inj {α : Type} : ∀ {a b : List α}, a.map some = b.map some → a = b
  | [], [], _ => rfl
  | [], _ :: _, h => by cases h
  | _ :: _, [], h => by cases h
  | x :: a, y :: b, h => by
    rw [List.map_cons, List.map_cons] at h
    obtain ⟨h1, h2⟩ := List.cons.inj h
    rw [Option.some.inj h1, map_some_inj h2]
theorem Yard.lt {n : Nat} {ps : List (Nat × Nat)} (y : Yard n ps) : ∀ p ∈ ps, p.1 < p.2 ∧ p.2 < 4 * n := fun p m => ⟨y.low p m, y.lines.lt _ (mem_ends.mpr ⟨p, m, .inr rfl⟩)⟩
/-- a yard has no fault -/
theorem fault_good {H : Hp} {t : Addr} {n : Nat} {ps : List (Nat × Nat)} {Q : VK} {E : XK} (y : YAt H t n ps) (hn : n ≤ 40) (q : ∀ H', Same H H' → Q .non H') : spFault [.ref t] H Q E := by
  obtain ⟨Y, as, ht, hP⟩ := y
  have hl : (refs as).length = 2 * n := by rw [List.length_map, hP.len, Y.lines.len]
  have hpos := Y.pos
  refine ⟨_, rfl, .inr ⟨t, refs as, ps.map some, rfl, ht, ?_, ?_, fun k hk => ?_, fun _ qs e => ?_⟩⟩
  · unfold canBe
    rw [hl]
    simp only [Bool.and_eq_true, decide_eq_true_eq]
    omega
  · rw [hl]
    exact il_of hP fun p m => ⟨(Y.lt p m).1, by have := (Y.lt p m).2; omega⟩
  · rw [yard_good Y] at hk
    cases hk
  · cases map_some_inj e
    rw [hl, show 2 * n / 2 = n by omega]
    exact ⟨fun _ => q, fun z => absurd Y.whole z⟩
theorem fault_mono {H : Hp} {v : V} {Q Q' : VK} {E E' : XK} (h : spFault [v] H Q E) (k : ∀ r H', Q r H' → Q' r H') : spFault [v] H Q' E' := by
  obtain ⟨v', e, h⟩ := h
  refine ⟨v', e, ?_⟩
  rcases h with ⟨h1, h2⟩ | ⟨t, xs, os, h1, h2, h3, h4, h5, h6⟩
  · exact .inl ⟨h1, fun H' p a b => k _ _ (h2 H' p a b)⟩
  · exact .inr ⟨t, xs, os, h1, h2, h3, h4, fun j e H' p a b => k _ _ (h5 j e H' p a b), fun e ps eo => ⟨fun z H' a => k _ _ ((h6 e ps eo).1 z H' a), fun z H' p a b => k _ _ ((h6 e ps eo).2 z H' p a b)⟩⟩
/-- a tuple of no good length: () -/
theorem fault_len {H : Hp} {t : Addr} {xs : List V} {Q : VK} {E : XK} (ht : H t = some (.tup xs)) (hc : canBe (xs.length : Nat) = false) (q : ∀ (H' : Hp) (p : Addr), Same H H' → H' p = some (.tup []) → Q (.ref p) H') : spFault [.ref t] H Q E :=
  ⟨_, rfl, .inl ⟨.inr ⟨t, xs, rfl, ht, hc⟩, q⟩⟩
/-- a fault told -/
def Wrong (C0 : Addr) (E : XK) (r : V) (H : Hp) : Prop := ∃ (p : Addr) (ns : List Nat), r = .ref p ∧ H p = some (.tup (nats ns)) ∧ ns.length ≤ 100 ∧ (∀ n ∈ ns, n < 1000) ∧ ∀ d, H d = none → E (.ref C0) (some d) (upd H d (.xd [("place", .ref p)]))
def spNeed (C0 : Addr) : Sp := fun vs H Q E => ∃ v, vs = [v] ∧ spFault [v] H (fun r H' => (r = .non ∧ Q v H') ∨ Wrong C0 E r H') E0
def spIsYard : Sp := fun vs H Q _ => ∃ v, vs = [v] ∧ spFault [v] H (fun r H' => Q (.bl (decide (r = .non))) H') E0
section
variable {P : Program} {w : World} {K : PySem.W.Frag} {mg : Str → Option Value} {base : Heap} {C0 fI : Addr} {sX : Stmt}
theorem ok_need {f fF : Addr} {fd fdF : FuncData} (F : Fun K "need_yard" "need_yard" sNeed f fd) (T : OwnTxt P K sX "place" C0 fI) (O : OwnCls K mg "BadYard" C0 fI) (noS : mg "super" = none) (B : Cal K mg "yard_fault" fF fdF ["thing"]) (GF : FnOk P w K mg base CX0 4 fF fdF ["thing"] spFault) :
    FnOk P w K mg base (L2.CX P w) 5 f fd ["thing"] (spNeed C0) := by
  refine F.okX scNeed (fun vs H Q E h => ?_) (fun cdv A outer s H vs Q E hr h => ?_)
  · obtain ⟨v, rfl, _⟩ := h
    rfl
  · obtain ⟨v, rfl, h⟩ := h
    have nd := scNeed.nd
    refine ⟨_, pss_cons (ps_set (i := 1) nd rfl (Or.inl rfl) (pe_call GF hr rfl B.g B.kp B.b .nil pass0 (pa_cons (pv 0) pa_nil)))
      (pss_cons (ps_if (pt_cmpR op_notN (pv 1) pe_non (nomark _)) (pss_one (ps_raiseX rfl (Or.inl rfl) T O noS hr (takes_of rfl rfl rfl rfl) (pa_cons (pv 1) pa_nil) (by rfl))) pss_nil)
      (pss_one (ps_ret (pv 0)))), ?_⟩
    refine ⟨_, rfl, ?_⟩
    unfold tNil
    refine fault_mono (Q := fun r H' => (r = .non ∧ Q v H') ∨ Wrong C0 E r H') h fun r H' hq => ?_
    rcases hq with ⟨rfl, q⟩ | ⟨p, ns, rfl, hp, hl, hs, q⟩
    · exact ⟨_, rfl, rfl, _, rfl, iteF ⟨_, rfl, q⟩⟩
    · refine ⟨_, rfl, rfl, _, rfl, iteT ⟨_, rfl, _, rfl, .tup ns (SqT.of hp) hl hs, fun d hd => q d hd⟩⟩
theorem ok_isyard {f fF : Addr} {fd fdF : FuncData} (F : Fun K "is_yard" "is_yard" sIsYard f fd) (B : Cal K mg "yard_fault" fF fdF ["thing"]) (GF : FnOk P w K mg base CX0 4 fF fdF ["thing"] spFault) :
    FnOk P w K mg base CX0 5 f fd ["thing"] spIsYard := by
  refine F.ok scIsYard (fun vs H Q E h => ?_) (fun cdv A outer s H vs Q E hr h => ?_)
  · obtain ⟨v, rfl, _⟩ := h
    rfl
  · obtain ⟨v, rfl, h⟩ := h
    refine ⟨_, pss_one (ps_ret (pe_cmpR op_isN (pe_call GF hr rfl B.g B.kp B.b .nil pass0 (pa_cons (pv 0) pa_nil)) pe_non (nomark _))), ?_⟩
    refine ⟨_, rfl, ?_⟩
    unfold tNil
    exact fault_mono h fun r H' hq => ⟨rfl, hq⟩
end
end One
end P_F4

section P_YA
set_option linter.all false
set_option maxRecDepth 100000
set_option maxHeartbeats 16000000
namespace One
open PySem PySem.Spec PyProof.Rows L2
/-! ### a list against an empty one -/
section
variable {X : Cx}
def rNil (K : PySem.W.Frag) (f : Bool → Bool) : R2 := fun x y H Q => ∃ l m xs, x = .ref l ∧ y = .ref m ∧ SqL K H l xs ∧ H m = some (.lst []) ∧ Q (.bl (f (decide (xs.length = 0)))) H
theorem op_eqNil (hu : X.A.units + 64 < cLine) : OpR X (compareOp .Eq) (rNil X.K id) := by
  intro pins s σ H x y v u Q I rx ry h
  obtain ⟨l, m, xs, rfl, rfl, hl, hm, q⟩ := h
  cases rx
  cases ry
  obtain ⟨its, r, ⟨o, n, ho, hc, ex, hd⟩, _⟩ := I.list hl
  obtain ⟨z2, its2, n2, r2, hl2, e2⟩ := I.lstM hm
  have e0 : its2 = [] := by
    cases r2
    rfl
  subst e0
  have i1 : s.heap.IsList l its.toArray := ⟨_, ho, hc, n, hd⟩
  have i2 : s.heap.IsList m #[] := ⟨_, e2, rfl, _, rfl⟩
  have hlen := r.length
  by_cases h0 : xs.length = 0
  · rw [decide_eq_true h0] at q
    exact SeqAt.RcAt.lists (e := fun _ => true) i1 i2 (by rw [List.size_toArray]; show its.length = 0; omega) (by omega) (fun j _ h2 => absurd h2 (by simp)) X.prog X.w X.xe _ ⟨.bl _, H, I, rfl, by
      have e : (List.range its.toArray.size).all (fun _ => true) = true := List.all_eq_true.mpr fun _ _ => rfl
      rw [e]
      exact q⟩
  · rw [decide_eq_false h0] at q
    exact SeqAt.RcAt.lists_lengths i1 i2 (by
      rw [List.size_toArray]
      show (its.length != 0) = true
      simp
      intro e
      rw [e] at hlen
      exact h0 hlen) (by omega) X.prog X.w X.xe _ ⟨.bl _, H, I, rfl, q⟩
theorem op_neNil (hu : X.A.units + 64 < cLine) : OpR X (compareOp .NotEq) (rNil X.K not) := by
  intro pins s σ H x y v u Q I rx ry h
  obtain ⟨l, m, xs, rfl, rfl, hl, hm, q⟩ := h
  cases rx
  cases ry
  obtain ⟨its, r, ⟨o, n, ho, hc, ex, hd⟩, _⟩ := I.list hl
  obtain ⟨z2, its2, n2, r2, hl2, e2⟩ := I.lstM hm
  have e0 : its2 = [] := by
    cases r2
    rfl
  subst e0
  have i1 : s.heap.IsList l its.toArray := ⟨_, ho, hc, n, hd⟩
  have i2 : s.heap.IsList m #[] := ⟨_, e2, rfl, _, rfl⟩
  have hlen := r.length
  by_cases h0 : xs.length = 0
  · rw [decide_eq_true h0] at q
    exact SeqAt.RcNeAt.lists (e := fun _ => true) i1 i2 (by rw [List.size_toArray]; show its.length = 0; omega) (by omega) (fun j _ h2 => absurd h2 (by simp)) X.prog X.w X.xe _ ⟨.bl _, H, I, rfl, by
      have e : (List.range its.toArray.size).all (fun _ => true) = true := List.all_eq_true.mpr fun _ _ => rfl
      rw [e]
      exact q⟩
  · rw [decide_eq_false h0] at q
    exact SeqAt.RcNeAt.lists_lengths i1 i2 (by
      rw [List.size_toArray]
      show (its.length != 0) = true
      simp
      intro e
      rw [e] at hlen
      exact h0 hlen) (by omega) X.prog X.w X.xe _ ⟨.bl _, H, I, rfl, q⟩
end
/-! ### a, b = l, l a list or a tuple -/
section
variable {prog : Program} {w : World} {A : Around} {E : Value → Shared → Prop}
theorem draw_list {it l : Addr} {items : Array Value} (hne : l ≠ it) : ∀ (n i : Nat) (s : Shared) (Q : List Value → Shared → Prop), s.heap.IsListIter it l i → s.heap.IsList l items → i + n ≤ items.size →
    (∀ h', h'.IsListIter it l (i + n) → Heap.SameBut it s.heap h' → Q ((items.toList.drop i).take n) { s with heap := h' }) → wpAny (model prog w) A (draw (.ref it) n) Q E s
  | 0, i, s, Q, hit, _, _, hQ => by
    show wpAny _ _ (pure []) Q E s
    exact wpAny_pure (by simpa using hQ s.heap hit (Heap.SameBut.refl ..))
  | n + 1, i, s, Q, hit, ht, hle, hQ => by
    have hlt : i < items.size := by omega
    show wpAny _ _ (pyNext (.ref it) >>= _) Q E s
    refine wpAny_bind (wpAny_pyNext_list_item hit ht (x := items[i]) (by simp [hlt]) fun h₁ hit₁ hs₁ => ?_)
    refine wpAny_bind (wpAny_holding (draw_list hne n (i + 1) _ _ hit₁ (ht.extBut hs₁.extBut hne) (by omega) fun h₂ hit₂ hs₂ => wpAny_pure ?_))
    have hd : items.toList.drop i = items[i] :: items.toList.drop (i + 1) := by simp [List.drop_eq_getElem_cons, hlt]
    have := hQ h₂ (by rw [show i + (n + 1) = i + 1 + n by omega]; exact hit₂) (hs₁.trans hs₂)
    rw [hd, List.take_succ_cons] at this
    exact this
variable {s : Shared}
theorem unpackItems_list {t : Addr} {items : Array Value} {Q : List Value → Shared → Prop} (hh : A.handled = none) (ht : s.heap.IsList t items)
    (hQ : ∀ h', Heap.ExtBut s.heap.objs.size s.heap h' → Q items.toList { s with heap := h' }) : wpAny (model prog w) A (unpackItems (.ref t) items.size none) Q E s := by
  have hlt : t ≠ s.heap.objs.size := by obtain ⟨o, ho, _⟩ := ht; exact Nat.ne_of_lt (Heap.lt_size ho)
  unfold unpackItems
  refine wpAny_bind ?_
  · unfold notIterableAtAll
    refine wpAny_bind (wpAny_specialOf ht.typeIs slot_list_iter.lookup ?_)
    refine wpAny_pure ?_
    simp only [Bool.false_eq_true, if_false]
    refine wpAny_bind (wpAny_holding (wpAny_pyIter_list ht ?_))
    refine wpAny_bind (wpAny_holding (draw_list hlt items.size 0 _ _ ⟨_, Heap.get?_push_size _ rfl, rfl, rfl⟩ (ht.push _) (by omega) fun h₁ hit₁ hs₁ => ?_))
    have hall : List.take items.size (List.drop 0 items.toList) = items.toList := by
      rw [List.drop_zero]; exact List.take_of_length_le (by simp)
    rw [hall]
    rw [if_neg (by simp)]
    have ht₁ : h₁.IsList t items := (ht.push _).extBut hs₁.extBut hlt
    refine wpAny_bind (wpAny_holding (wpAny_pyNext_list_end hh hit₁ ht₁ (by simp) fun h₂ he₂ => ?_))
    simp only [Option.isSome_none, Bool.false_eq_true, if_false]
    refine wpAny_pure (hQ h₂ fun b o hb e => he₂ b o hb (hs₁.extBut b o hb (Heap.get?_push_of_some _ e)))
theorem assign_Tuple_list {env : Env} {elts : List Expr} {x1} {pos : Pos} {t : Addr} {items : Array Value} {Q : Unit → Shared → Prop} (hh : A.handled = none) (ht : s.heap.IsList t items)
    (hn : (assignEach elts env).length = items.size) (hstar : (assignEach elts env).findIdx? (·.1) = none)
    (h : ∀ h', Heap.ExtBut s.heap.objs.size s.heap h' → wpAny (model prog w) A (assignInOrder ((assignEach elts env).map (·.2)) items.toList) Q E { s with heap := h' }) :
    wpAny (model prog w) A (assign (.Tuple elts x1 pos) env (.ref t)) Q E s := by
  rw [assign_Tuple]
  refine wpAny_bind (wpAny_standAt ?_)
  unfold unpack
  rw [hn, hstar]
  exact wpAny_bind (wpAny_holding (unpackItems_list hh ht h))
end
section
variable {X : Cx}
def gSeq (K : PySem.W.Frag) (n : Nat) (t : TGs) : TG := fun v σ H Q => ∃ a xs, v = .ref a ∧ (SqL K H a xs ∨ SqT K H a xs) ∧ xs.length = n ∧ t xs σ H Q
theorem pg_seq {es : List Expr} {k : Nat} {t : TGs} {n : Nat} {pos : Pos} (hc : X.calm = true) (h : PGs X es t)
    (hn : (assignEach es X.env).length = n := by rfl) (hst : (assignEach es X.env).findIdx? (·.1) = none := by rfl) : PG X (.Tuple es k pos) (gSeq X.K n t) := by
  refine ⟨fun pins s σ H v u Q I r hw => ?_⟩
  obtain ⟨a, xs, e1, hq, hl, hw⟩ := hw
  subst e1
  rcases hq with hq | hq
  · cases r
    obtain ⟨its, rv, ⟨o, n', ho, hcl, ex, hd⟩, hz⟩ := I.list hq
    have ht : s.heap.IsList a its.toArray := ⟨_, ho, hcl, n', hd⟩
    refine assign_Tuple_list (I.ok.hd hc) ht (by simp [hn, ← hl, rv.length]) hst fun h' hx => ?_
    have I1 : Inv X pins σ H { s with heap := h' } := I.kept (t' := s.toks) fun b o e => hx b o (Nat.ne_of_lt (Heap.lt_size e)) e
    exact h.run pins _ σ H xs _ Q I1 (by simpa using rv) hw
  · exact (pg_tup hc h hn hst).run pins s σ H (.ref a) u Q I r ⟨a, xs, rfl, hq, hl, hw⟩
/-! ### what is walked either way -/
theorem pi_alt2 {tg e : Expr} {w1 w2 : TI} (h1 : PI X tg e w1) (h2 : PI X tg e w2) : PI X tg e (fun σ H R => w1 σ H R ∨ w2 σ H R) :=
  ⟨fun pins s σ H R I h => h.elim (h1.run pins s σ H R I) (h2.run pins s σ H R I)⟩
theorem pe_alt2 {e : Expr} {t1 t2 : TE} (h1 : PE X e t1) (h2 : PE X e t2) : PE X e (fun σ H Q => t1 σ H Q ∨ t2 σ H Q) :=
  ⟨fun pins s σ H Q I h => h.elim (h1.run pins s σ H Q I) (h2.run pins s σ H Q I)⟩
end
/-! ### isinstance(x, (list, tuple)) -/
def isLst (T : String) : Bool := T == "list"
theorem TV.kLst {K : PySem.W.Frag} {H : Hp} {v : V} {T : String} (h : TV H v T) : PySem.W.kitOne K (.type T) (.type "list") = some (isLst T) := by
  cases h <;> first | rfl | decide +kernel
theorem TV.kSeq {K : PySem.W.Frag} {H : Hp} {v : V} {T : String} (h : TV H v T) : PySem.W.kitAny K (.type T) [.type "list", .type "tuple"] = some (isLst T || isTup T) := by
  unfold PySem.W.kitAny
  rw [h.kLst (K := K)]
  cases isLst T with
  | true => rfl
  | false =>
    unfold PySem.W.kitAny
    rw [h.kTup (K := K)]
    cases isTup T <;> rfl
end One
end P_YA

section P_PF
set_option linter.all false
set_option maxRecDepth 100000
set_option maxHeartbeats 16000000
namespace One
open PySem PySem.Spec PyProof.Rows L2
/-! ### str(x) of anything -/
def strD : PyData → Str
  | .str x => x
  | d => d.shown
section
variable {X : Cx}
theorem call_strD (hgd : X.A.guards = some []) (hu : X.A.units + 64 < cLine) : CallR X (.type "str") (fun xs H Q => ∃ (v : V) (d : PyData), xs = [v] ∧ Dq H v d ∧ d.showable = true ∧ d.depth ≤ 16 ∧ d.shown.length ≤ sizeLine ∧ Q (.str (strD d)) H) := by
  intro pins s σ H xs us Q I r h
  obtain ⟨v, d, rfl, hd, h1, h3, h4, q⟩ := h
  obtain ⟨u, rfl, e⟩ := vals1 r
  have big : ∀ {a : Addr}, u = .ref a → strD d = d.shown → wpAny (model X.prog X.w) X.A (call (.type "str") [u]) (EP X pins σ Q) X.xe s := fun {a} ea es => by
    obtain ⟨as, hR, hn⟩ := Dq.reads I d _ _ hd e
    subst ea
    exact str_of_reads hR h1 (fun _ => hn) hgd (by omega) (fun _ _ e => e) (fun h' u tk hk => ⟨.str d.shown, H, I.kept hk, ⟨_, rfl⟩, by rw [← es]; exact q⟩) h4
  cases hd with
  | non =>
    cases e
    exact P.str_of_none ⟨.str _, H, I.tok _, ⟨_, rfl⟩, q⟩
  | bl b =>
    cases e
    exact P.str_of_bool ⟨.str _, H, I.tok _, ⟨_, rfl⟩, q⟩
  | int i =>
    obtain ⟨t, rfl⟩ := e
    exact P.str_of_int (of_decide_eq_true h1) ⟨.str _, H, I.tok _, ⟨_, rfl⟩, q⟩
  | str x =>
    obtain ⟨t, rfl⟩ := e
    exact P.str_of_str ⟨.str _, H, I, ⟨_, rfl⟩, q⟩
  | lst a b c =>
    cases e
    exact big rfl rfl
  | tup a b =>
    cases e
    exact big rfl rfl
  | emp a =>
    cases e
    exact big rfl rfl
end
/-- its text is short -/
def OkS (d : PyData) : Prop := Fx (.str (strD d)) 0 60
theorem okS_of {d : PyData} (h : ((strD d).cps.toList.all fun c => decide (c < 16 ^ 8)) = true ∧ (strD d).cps.size ≤ 60) : OkS d := ⟨rfl, Nat.le_refl _, h.1, h.2⟩
theorem okS_int : ∀ i : Int, 0 ≤ i → i < 2000 → OkS (.int i) := by
  have h : ∀ n : Fin 2000, ((strD (.int ((n : Nat) : Int))).cps.toList.all fun c => decide (c < 16 ^ 8)) = true ∧ (strD (.int ((n : Nat) : Int))).cps.size ≤ 60 := by decide +kernel
  intro i h0 h1
  have := h ⟨i.toNat, by omega⟩
  rw [show (((⟨i.toNat, by omega⟩ : Fin 2000) : Nat) : Int) = i by
    show ((i.toNat : Nat) : Int) = i
    omega] at this
  exact okS_of this
theorem okS_one : OkS (.int (-1)) := okS_of (by decide +kernel)
theorem okS_big : OkS (.int (10 ^ 40)) := okS_of (by decide +kernel)
theorem okS_bl (b : Bool) : OkS (.bool b) := okS_of (by cases b <;> decide +kernel)
theorem okS_non : OkS .none := okS_of (by decide +kernel)
theorem okS_str {d : PyData} (h : OkS d) : OkS (.str (strD d)) := h
theorem okS_four : ∀ a b : Nat, a < 4 → b < 4 → OkS (.tuple [.int (a : Nat), .int (b : Nat)]) := by
  have h : ∀ a b : Fin 4, ((strD (.tuple [.int ((a : Nat) : Int), .int ((b : Nat) : Int)])).cps.toList.all fun c => decide (c < 16 ^ 8)) = true ∧ (strD (.tuple [.int ((a : Nat) : Int), .int ((b : Nat) : Int)])).cps.size ≤ 60 := by decide +kernel
  exact fun a b ha hb => okS_of (h ⟨a, ha⟩ ⟨b, hb⟩)
/-! ### sizes, all in all -/
theorem bulk_sub {es ds : List PyData} (h : es.Sublist ds) : PyData.bulkAll es ≤ PyData.bulkAll ds := by
  induction h with
  | slnil => exact Nat.le_refl _
  | cons a _ ih =>
    show _ ≤ a.bulk + 1 + PyData.bulkAll _
    omega
  | cons_cons a _ ih =>
    show a.bulk + 1 + PyData.bulkAll _ ≤ a.bulk + 1 + PyData.bulkAll _
    omega
theorem bulk_perm {es ds : List PyData} (h : es.Perm ds) : PyData.bulkAll es = PyData.bulkAll ds := by
  induction h with
  | nil => rfl
  | cons a _ ih =>
    show a.bulk + 1 + PyData.bulkAll _ = a.bulk + 1 + PyData.bulkAll _
    omega
  | swap a b l =>
    show b.bulk + 1 + (a.bulk + 1 + PyData.bulkAll l) = a.bulk + 1 + (b.bulk + 1 + PyData.bulkAll l)
    omega
  | trans _ _ i1 i2 => exact i1.trans i2
theorem bulk_app : ∀ (ds es : List PyData), PyData.bulkAll (ds ++ es) = PyData.bulkAll ds + PyData.bulkAll es
  | [], es => (Nat.zero_add _).symm
  | d :: ds, es => by
    show d.bulk + 1 + PyData.bulkAll (ds ++ es) = d.bulk + 1 + PyData.bulkAll ds + PyData.bulkAll es
    rw [bulk_app ds es]
    omega
theorem bulk_len : ∀ ds : List PyData, ds.length ≤ PyData.bulkAll ds
  | [] => Nat.le_refl _
  | d :: ds => by
    show ds.length + 1 ≤ d.bulk + 1 + PyData.bulkAll ds
    have := bulk_len ds
    omega
theorem bulk_mem : ∀ {ds : List PyData} {d : PyData}, d ∈ ds → d.bulk + 1 ≤ PyData.bulkAll ds
  | e :: ds, d, h => by
    show _ ≤ e.bulk + 1 + PyData.bulkAll ds
    rcases List.mem_cons.mp h with rfl | h
    · omega
    · have := bulk_mem h
      omega
theorem FxA.all : ∀ {ds : List PyData} {k n : Nat}, FxA ds k n → ∀ d ∈ ds, d.showable = true ∧ d.depth ≤ k ∧ d.leavesShort 48 = true
  | [], _, _, _, d, h => absurd h (by simp)
  | e :: ds, k, n, a, d, h => by
    obtain ⟨h1, h2, h3, h4⟩ := a
    have h1 : (e.showable && PyData.showableAll ds) = true := h1
    have h2 : max e.depth (PyData.depthAll ds) ≤ k := h2
    have h3 : (e.leavesShort 48 && PyData.leavesShortAll 48 ds) = true := h3
    rw [Bool.and_eq_true] at h1 h3
    rcases List.mem_cons.mp h with rfl | h
    · exact ⟨h1.1, by omega, h3.1⟩
    · exact FxA.all (ds := ds) (k := k) (n := PyData.bulkAll ds) ⟨h1.2, by omega, h3.2, Nat.le_refl _⟩ d h
theorem FxA.of : ∀ {ds : List PyData} {k n : Nat}, (∀ d ∈ ds, d.showable = true ∧ d.depth ≤ k ∧ d.leavesShort 48 = true) → PyData.bulkAll ds ≤ n → FxA ds k n
  | [], _, _, _, _ => FxA.nil
  | e :: ds, k, n, h, hb => by
    have hb : e.bulk + 1 + PyData.bulkAll ds ≤ n := hb
    obtain ⟨h1, h2, h3⟩ := h e (List.mem_cons_self ..)
    have a := FxA.cons (d := e) (k := k) (n := e.bulk) ⟨h1, h2, h3, Nat.le_refl _⟩ (FxA.of (ds := ds) (k := k) (n := PyData.bulkAll ds) (fun d hd => h d (List.mem_cons_of_mem _ hd)) (Nat.le_refl _))
    exact ⟨a.sh, a.dp, a.lf, Nat.le_trans a.bk hb⟩
theorem FxA.mem {ds : List PyData} {k n : Nat} (a : FxA ds k n) {d : PyData} (h : d ∈ ds) : Fx d k n := by
  obtain ⟨h1, h2, h3⟩ := a.all d h
  have := bulk_mem h
  have := a.bk
  exact ⟨h1, h2, h3, by omega⟩
theorem FxA.app {ds es : List PyData} {k n m : Nat} (a : FxA ds k n) (b : FxA es k m) : FxA (ds ++ es) k (n + m) := by
  refine FxA.of (fun d hd => (List.mem_append.mp hd).elim (a.all d) (b.all d)) ?_
  have := a.bk
  have := b.bk
  rw [bulk_app]
  omega
theorem FxA.sub {ds es : List PyData} {k n : Nat} (a : FxA ds k n) (h : es.Sublist ds) : FxA es k n := FxA.of (fun d hd => a.all d (h.subset hd)) (Nat.le_trans (bulk_sub h) a.bk)
theorem FxA.perm {ds es : List PyData} {k n : Nat} (a : FxA ds k n) (h : es.Perm ds) : FxA es k n := FxA.of (fun d hd => a.all d (h.mem_iff.mp hd)) (by rw [bulk_perm h]; exact a.bk)
theorem FxA.up {ds : List PyData} {k j n m : Nat} (a : FxA ds k n) (h : k ≤ j) (h2 : n ≤ m) : FxA ds j m := ⟨a.sh, Nat.le_trans a.dp h, a.lf, Nat.le_trans a.bk h2⟩
theorem FxA.len {ds : List PyData} {k n : Nat} (a : FxA ds k n) : ds.length ≤ n := Nat.le_trans (bulk_len ds) a.bk
theorem Fx.items {ds : List PyData} {k n : Nat} (a : Fx (.tuple ds) (k + 1) n) : FxA ds k n := ⟨a.sh, Nat.le_of_succ_le_succ a.dp, a.lf, a.bk⟩
/-! ### pairs whose parts have short texts -/
def Sec (d : PyData) : Prop := ∀ x y, d = .tuple [x, y] → OkS y
def Two (d : PyData) : Prop := ∀ x y, d = .tuple [x, y] → OkS x ∧ OkS y
theorem Two.sec {d : PyData} (h : Two d) : Sec d := fun x y e => (h x y e).2
/-- rows of data -/
def Rw (G : PyData → Prop) (p : Addr) (H : Hp) (xs : List V) (k n : Nat) : Prop := ∃ ds, DaAll p p H xs ds ∧ FxA ds k n ∧ ∀ d ∈ ds, G d
section
variable {G G' : PyData → Prop} {p : Addr} {H H' : Hp} {xs ys : List V} {k n m : Nat}
theorem Rw.extT (h : Rw G p H xs k n) (e : ExtT p p H H') : Rw G p H' xs k n := by
  obtain ⟨ds, a, b, c⟩ := h
  exact ⟨ds, DaAll.extT e _ _ a, b, c⟩
theorem Rw.same (h : Rw G p H xs k n) (e : Same H H') : Rw G p H' xs k n := h.extT (ExtT.ofS e)
theorem Rw.cut (h : Rw G p H xs k n) (lo hi : Option Int) : Rw G p H (cutV xs lo hi) k n := by
  obtain ⟨ds, a, b, c⟩ := h
  unfold cutV
  have sb := (List.take_sublist (HT.sIx xs.length xs.length hi - HT.sIx xs.length 0 lo) (ds.drop (HT.sIx xs.length 0 lo))).trans (List.drop_sublist _ _)
  exact ⟨_, (a.drop _).take _, b.sub sb, fun d hd => c d (sb.subset hd)⟩
theorem Rw.app (h : Rw G p H xs k n) (g : Rw G p H ys k m) : Rw G p H (xs ++ ys) k (n + m) := by
  obtain ⟨ds, a, b, c⟩ := h
  obtain ⟨es, a', b', c'⟩ := g
  exact ⟨_, DaAll.app a' a, b.app b', fun d hd => (List.mem_append.mp hd).elim (c d) (c' d)⟩
theorem Rw.rev (h : Rw G p H xs k n) : Rw G p H xs.reverse k n := by
  obtain ⟨ds, a, b, c⟩ := h
  exact ⟨_, a.rev, b.perm (List.reverse_perm _), fun d hd => c d (List.mem_reverse.mp hd)⟩
theorem Rw.one {v : V} {d : PyData} (h : Da p p H v d) (f : Fx d k n) (g : G d) : Rw G p H [v] k (n + 1) := ⟨[d], .cons h .nil, (FxA.cons f (FxA.nil (n := 0))).up (Nat.le_refl _) (by omega), fun e he => by rw [List.mem_singleton.mp he]; exact g⟩
theorem Rw.len (h : Rw G p H xs k n) : xs.length ≤ n := by
  obtain ⟨ds, a, b, c⟩ := h
  rw [a.len]
  exact b.len
theorem Rw.up {j : Nat} (h : Rw G p H xs k n) (h1 : k ≤ j) (h2 : n ≤ m) : Rw G p H xs j m := by
  obtain ⟨ds, a, b, c⟩ := h
  exact ⟨ds, a, b.up h1 h2, c⟩
theorem Rw.imp (h : Rw G p H xs k n) (f : ∀ d, G d → G' d) : Rw G' p H xs k n := by
  obtain ⟨ds, a, b, c⟩ := h
  exact ⟨ds, a, b, fun d hd => f d (c d hd)⟩
end
end One
end P_PF

section P_YB
set_option linter.all false
set_option maxRecDepth 100000
set_option maxHeartbeats 16000000
namespace One
open PySem PySem.Spec PyProof.Rows L2
section
variable {X : Cx}
/-- l[::-1], l a list of two -/
def tRevP (K : PySem.W.Frag) (te : TE) : TE := fun σ H Q => te σ H fun x H1 => ∃ a y z, x = .ref a ∧ SqL K H1 a [y, z] ∧ ∀ p, p ≠ sysModules → H1 p = none → Q (.ref p) (upd H1 p (.lst [z, y]))
theorem pe_revP {e : Expr} {te : TE} {k : Nat} {p1 p2 p3 pos : Pos} (he : PE X e te) : PE X (.Subscript e (.Slice none none (some (.UnaryOp .USub (.Constant (.int 1) k p1) p2)) p3) pos) (tRevP X.K te) := by
  have hst : PO X (some (.UnaryOp .USub (.Constant (.int 1) k p1) p2)) (tPart (tUn (rU fun i => V.int (-i)) (tC (V.int 1)))) := po_some (pe_un un_neg pe_int)
  refine ⟨fun pins s σ H Q I w0 => Subscript_ (thn (he.run pins s σ H _ I w0) fun v s1 ⟨x, H1, I1, r1, a, y, z, ex, hx, q⟩ => ?_)⟩
  subst ex
  cases r1
  have none1 := fun (z : Shared) (G : Hp) (J : Inv X pins σ G z) => (po_none (X := X)).run pins z σ G (fun o G' => o = none ∧ G' = G) J ⟨rfl, rfl⟩
  refine wpAny_Slice (thn (none1 s1 H1 I1) fun vl s2 ⟨l, H2, I2, pl, el, e2⟩ => ?_)
  subst el e2
  refine thn (none1 s2 H2 I2) fun vu s3 ⟨u, H3, I3, pu, eu, e3⟩ => ?_
  subst eu e3
  refine thn (hst.run pins s3 σ H3 (fun o G => o = some (-1) ∧ G = H3) I3 ⟨1, rfl, -1, rfl, rfl, rfl⟩) fun vs s4 ⟨o, H4, I4, ps, eo, e4⟩ => ?_
  subst eo e4
  have I5 : Inv X pins σ H4 { s4 with heap := s4.heap.push { cls := .type "slice", data := .fields #[vl, vu, vs] } } := I4.kept (t' := s4.toks) fun b ob q => Heap.get?_push_of_some _ q
  obtain ⟨its, r, ⟨o, n, ho, hc, ex, hd⟩, hz⟩ := I5.list hx
  have hlen := r.length
  show wpAny (model X.prog X.w) X.A (subscriptTail e (.Slice none none (some (.UnaryOp .USub (.Constant (.int 1) k p1) p2)) p3) (.ref a) (.ref s4.heap.objs.size)) (EP X pins σ Q) X.xe { s4 with heap := s4.heap.push { cls := .type "slice", data := .fields #[vl, vu, vs] } }
  refine tail_any (ops := [.ref a, .ref s4.heap.objs.size]) (T := "list") ⟨_, ho, hc⟩ list_getitem_lookup ?_ (by with_unfolding_all rfl)
  match its, r with
  | [u1, u2], .cons r1 (.cons r2 .nil) =>
    refine wpAny_getItem_list_slice (items := #[u1, u2]) (lo := none) (hi := none) (st := some (-1)) ⟨_, ho, hc, n, hd⟩ (Heap.IsSliceOf.new _ vl vu vs) pl pu ps (by decide) ?_ (by show 2 ≤ sizeLine; decide)
    have e : slicePick #[u1, u2] none none (some (-1)) = #[u2, u1] := by
      simp [slicePick, sliceBounds, sliceRange]
      rfl
    rw [e]
    refine ⟨.ref _, _, I5.laid (t' := s4.toks) (o := .lst [z, y]) (fun b ob q => Heap.get?_push_of_some _ q) (Nat.le_refl _) ?_, rfl, q _ (Nat.ne_of_gt I5.big) (I5.hok.fresh (Nat.le_refl _))⟩
    exact ⟨two_le, [u2, u1], 0, .cons r2 (.cons r1 .nil), Heap.get?_push_size _ rfl⟩
/-- a[i], a list or a tuple -/
theorem pe_ixS {e i : Expr} {te ti : TE} {pos : Pos} (he : PE X e te) (hi : PE X i ti) (hm : ∀ x1 x2 : Unit, True := fun _ _ => trivial) (h1 : PE X (.Subscript e i pos) (tOp (rIxL X.K) te ti)) (h2 : PE X (.Subscript e i pos) (tOp (rIxT X.K) te ti)) : PE X (.Subscript e i pos) (fun σ H Q => tOp (rIxL X.K) te ti σ H Q ∨ tOp (rIxT X.K) te ti σ H Q) := pe_alt2 h1 h2
def rCatN (K : PySem.W.Frag) : R2 := fun x y H Q => ∃ l b xs zs, x = .ref l ∧ y = .ref b ∧ SqL K H l xs ∧ H b = some (.lst zs) ∧ xs.length + zs.length ≤ sizeLine ∧ ∀ p, p ≠ sysModules → H p = none → Q (.ref p) (upd H p (.lst (xs ++ zs)))
theorem op_catN : OpR X (binaryOp .Add) (rCatN X.K) := by
  intro pins s σ H x y v u Q I rx ry h
  obtain ⟨l, b, xs, zs, rfl, rfl, hS, hB, hz, q⟩ := h
  cases rx
  cases ry
  obtain ⟨its, r, ⟨⟨oc, od, oda, osl⟩, n, e, ec, ed, edd⟩, hl⟩ := I.list hS
  dsimp only at ec ed edd
  subst ec ed edd
  obtain ⟨z2, its2, n2, r2, hl2, e2⟩ := I.lstM hB
  have ha : s.TypeIs (.ref l) "list" := ⟨_, e, rfl⟩
  have hb : s.TypeIs (.ref b) "list" := ⟨_, e2, rfl⟩
  have hsz : its.toArray.size + its2.toArray.size ≤ sizeLine := by
    rw [List.size_toArray, List.size_toArray, ← r.length, ← r2.length]
    exact hz
  refine PySem.concat_meets ha hb PySem.noFill_list_add PySem.seq_list_add F.slot_list_add F.entry_list_add (F.args_list_add_2 _ _) (add_read l its.toArray n osl b its2.toArray n2 hsz) ⟨e, e2, ?_⟩
  have ea : its.toArray ++ its2.toArray = (its ++ its2).toArray := by simp
  rw [ea]
  exact ⟨.ref _, _, I.lnew (t' := s.toks) (r.append r2) (by rw [List.length_append]; exact hz), rfl, q _ (Nat.ne_of_gt I.big) I.fresh⟩
def rRepN : R2 := fun x y H Q => ∃ l k xs, x = .ref l ∧ y = .int k ∧ H l = some (.lst xs) ∧ 0 ≤ k ∧ k < 2 ^ 63 ∧ xs.length * k.toNat ≤ sizeLine ∧ ∀ p, p ≠ sysModules → H p = none → Q (.ref p) (upd H p (.lst (List.replicate k.toNat xs).flatten))
theorem op_repN : OpR X (binaryOp .Mult) rRepN := by
  intro pins s σ H x y v u Q I rx ry h
  obtain ⟨l, k, xs, rfl, rfl, hH, k0, k1, hz, q⟩ := h
  cases rx
  obtain ⟨tk, rfl⟩ := ry
  obtain ⟨zz, us, n, rv, hl, e⟩ := I.lstM hH
  have km : -(2 ^ 63) ≤ k := by omega
  have szu : us.toArray.size * k.toNat ≤ sizeLine := by
    rw [List.size_toArray, ← hl]
    exact hz
  have c1 : ¬ us.toArray.size * k.toNat > (2 ^ 63 - 1) / 8 := by
    have q9 : (sizeLine : Nat) ≤ (2 ^ 63 - 1) / 8 := by decide
    omega
  have c2 : ¬ (!Builtin.List.listFitsIndex k) = true := by
    rw [fitsIndex_both km k1]
    decide
  have c3 : ¬ Builtin.List.listTooLong (us.toArray.size * k.toNat) = true := by
    rw [notLongL szu]
    decide
  have both : ∀ m : Nat, List.foldl (fun x1 x2 => x1 ++ x2) #[] (List.replicate m us.toArray) = (List.replicate m us).flatten.toArray := fun m => by
    have fr := foldl_rep us m []
    rw [List.nil_append] at fr
    exact fr
  have made : List.foldl (fun x1 x2 => x1 ++ x2) #[] (List.replicate (if us.toArray.isEmpty = true then 0 else k.toNat) us.toArray) = (List.replicate k.toNat us).flatten.toArray := by
    rw [both]
    match us with
    | [] => simp
    | a :: rr => rw [if_neg (by simp)]
  refine wpAny_binaryOp_repeat_ref (U := "int") (T := "list") (by decide) ⟨_, e, rfl⟩ (fun s9 => typeIs_int s9 k tk) noFill_list_mul F.fills_int_mul F.slot_int_rmul repeat_list F.slot_int_index.lookup ?_
  refine call_meets F.slot_int_rmul (typeIs_int s k tk) F.entry_int_rmul (F.args_int_rmul_2 _ _) (int___rmul___int_list k tk l us.toArray n) ⟨e, rfl, ⟨_, e, rfl⟩, ?_⟩
  refine call_meets F.slot_list_mul ⟨_, e, rfl⟩ F.entry_list_mul (F.args_list_mul_2 _ _) (AutoListH.list___mul___list_int_3 l us.toArray n k tk c2 c1 c3) ⟨e, ?_⟩
  rw [made]
  exact ⟨.ref _, _, I.lnew (t' := s.toks) (rv.rep k.toNat) (by rw [PyProof.Rows.lm_len_rep_flat, Nat.mul_comm]; exact hz), rfl, q _ (Nat.ne_of_gt I.big) I.fresh⟩
def rLo (K : PySem.W.Frag) : List V → Hp → VK → Prop := fun xs H Q => ∃ p ys, xs = [.ref p] ∧ (SqL K H p ys ∨ SqT K H p ys) ∧ ∀ l, H l = none → Q (.ref l) (upd H l (.lst ys))
theorem cr_lo : CallR X (.type "list") (rLo X.K) := call_list_of
end
/-! ### what pairs come to, told of data -/
def pair2 : List PyData → Option (Int × Int)
  | [.int a, .int b] => if a = b then none else some (a, b)
  | _ => none
def itemsD : PyData → Option (List PyData)
  | .list ds => some ds
  | .tuple ds => some ds
  | _ => none
def pairD (d : PyData) : Option (Int × Int) := (itemsD d).bind pair2
theorem seq_kind {p l : Addr} {H : Hp} {v : V} {d : PyData} (h : Da p l H v d) : (∃ (t : Addr) (xs : List V) (ds : List PyData) (T : String), v = .ref t ∧ (H t = some (.lst xs) ∨ H t = some (.tup xs)) ∧ itemsD d = some ds ∧ DaAll p l H xs ds ∧ TV H v T ∧ (isLst T || isTup T) = true) ∨
    (itemsD d = none ∧ ∃ T, TV H v T ∧ (isLst T || isTup T) = false) := by
  cases h with
  | non => exact .inr ⟨rfl, _, .non, by decide⟩
  | bl b => exact .inr ⟨rfl, _, .bl b, by decide⟩
  | int i => exact .inr ⟨rfl, _, .int i, by decide⟩
  | str x => exact .inr ⟨rfl, _, .str x, by decide⟩
  | lst a b c f g => exact .inl ⟨_, _, _, _, rfl, .inl f, rfl, g, .lst f, by decide⟩
  | emp a b f => exact .inr ⟨rfl, _, .dct f, by decide⟩
  | tup a b f g => exact .inl ⟨_, _, _, _, rfl, .inr f, rfl, g, .tup f, by decide⟩
theorem seq_of {K : PySem.W.Frag} {H : Hp} {t : Addr} {xs : List V} (h : H t = some (.lst xs) ∨ H t = some (.tup xs)) : SqL K H t xs ∨ SqT K H t xs := h.imp SqL.of SqT.of
theorem seq_same {H H' : Hp} {t : Addr} {xs : List V} (h : H t = some (.lst xs) ∨ H t = some (.tup xs)) (s : Same H H') : H' t = some (.lst xs) ∨ H' t = some (.tup xs) := h.imp (s _ _) (s _ _)
abbrev sLl : Stmt := top 27
abbrev nLl : List Str := ["thing", "one", "other"]
theorem scLl : FnScope nLl ["thing"] (defScope sLl) := ⟨rfl, rfl, rfl, by decide +kernel, rfl, by decide +kernel, by decide +kernel⟩
def spLl : Sp := fun vs H Q _ => ∃ (v : V) (p l : Addr) (d : PyData), vs = [v] ∧ Da p l H v d ∧ ∀ H', Same H H' → Q (.bl (pairD d).isSome) H'
section
variable {P : Program} {w : World} {K : PySem.W.Frag} {mg : Str → Option Value} {base : Heap}
theorem ok_ll {f fN : Addr} {fd dN : FuncData} (F : Fun K "is_loose_line" "is_loose_line" sLl f fd) (T : TB mg) (N : Cal K mg "is_number" fN dN ["thing"]) (GN : FnOk P w K mg base CX0 1 fN dN ["thing"] spIsNum) : FnOk P w K mg base CX0 2 f fd ["thing"] spLl := by
  refine F.ok scLl (fun vs H Q E h => ?_) (fun cdv A outer s H vs Q E hr h => ?_)
  · obtain ⟨v, p, l, d, rfl, _⟩ := h
    rfl
  · obtain ⟨v, p, l, d, rfl, hd, k⟩ := h
    have nd := scLl.nd
    have hr1 : Room 1 _ := hr
    refine ⟨_, pss_cons (ps_if (PW.pt (pw_or (pt_not (pt_val (pe_callB call_isiT (by rfl) T.isinstance boot_isinstance (pa_cons (pv 0) (pa_cons (pe_tup (pa_cons (pe_bltn (v := .ty "list") (by rfl) T.list (by decide +kernel) rfl) (pa_cons (pe_bltn (v := .ty "tuple") (by rfl) T.tuple boot_tuple rfl) pa_nil))) pa_nil))))) (pw_or1 (pt_cmpR op_ne (pe_callB call_len_seq (by rfl) T.len PySem.boot_len (pa_cons (pv 0) pa_nil)) pe_int (nomark _))))) (pss_one (ps_ret pe_bl)) pss_nil)
      (pss_cons (ps_asg (pv 0) (pg_seq rfl (pgs_cons (pg_name (i := 1) nd rfl (Or.inl rfl)) (pgs_cons (pg_name (i := 2) nd rfl (Or.inl rfl)) pgs_nil))))
      (pss_one (ps_ret (pe_and (pe_call GN hr1 rfl N.g N.kp N.b .nil pass0 (pa_cons (pv 1) pa_nil)) (pe_and (pe_call GN hr1 rfl N.g N.kp N.b .nil pass0 (pa_cons (pv 2) pa_nil)) (pe_one (pe_cmpR op_ne (pv 1) (pv 2) (nomark _)))))))), ?_⟩
    rcases seq_kind hd with ⟨t, xs, ds, T', rfl, ht, hi, hds, hv, hT⟩ | ⟨hi, T', hv, hT⟩
    · refine ⟨_, rfl, two_le, fun q hq => ?_⟩
      have s1 := Same.new (o := .tup [V.ty "list", V.ty "tuple"]) hq
      have hv1 := hv.mono s1
      refine ⟨_, _, _, _, _, _, rfl, upd_same, .cons (.ty _) (.cons (.ty _) .nil), hv1.tyx, hv1.kSeq, _, rfl, ?_⟩
      generalize upd H q (.tup [V.ty "list", V.ty "tuple"]) = H1 at s1
      have ht1 := seq_same ht s1
      have hk := k H1 s1
      have e : pairD d = pair2 ds := by unfold pairD; rw [hi]; rfl
      rw [e] at hk
      rw [hT]
      refine iteF ⟨_, rfl, t, _, rfl, seq_of ht1, rfl, _, rfl, ?_⟩
      have hle := hds.len
      by_cases h2 : xs.length = 2
      · match xs, ds, hds, h2, ht1, hk with
        | [x, y], [dx, dy], .cons hx (.cons hy .nil), _, ht1, hk =>
          refine iteF ⟨_, rfl, t, _, rfl, seq_of ht1, rfl, _, _, rfl, _, _, rfl, rfl, ?_⟩
          have hx1 := Da.extT (ExtT.ofS s1) _ _ hx
          have hy1 := Da.extT (ExtT.ofS s1) _ _ hy
          obtain ⟨Tx, vx⟩ := hx1.tv
          obtain ⟨Ty, vy⟩ := hy1.tv
          refine ⟨_, rfl, x, Tx, rfl, vx, _, rfl, ?_⟩
          have nox : isI x = false → Q (.bl false) H1 := fun h => by
            have e0 : pair2 [dx, dy] = none := by
              cases hx with
              | int i => cases h
              | _ => rfl
            rw [e0] at hk
            exact hk
          have noy : isI x = true → isI y = false → Q (.bl false) H1 := fun h h' => by
            have e0 : pair2 [dx, dy] = none := by
              cases hx with
              | int i =>
                cases hy with
                | int j => cases h'
                | _ => rfl
              | _ => cases h
            rw [e0] at hk
            exact hk
          cases bx : isI x with
          | false => exact iteF (nox bx)
          | true =>
            refine iteT ⟨_, rfl, y, Ty, rfl, vy, _, rfl, ?_⟩
            cases bY : isI y with
            | false => exact iteF (noy bx bY)
            | true =>
              refine iteT ?_
              cases hx with
              | int i =>
                cases hy with
                | int j =>
                  refine ⟨_, rfl, _, rfl, rfl, ?_⟩
                  have e0 : (pair2 [.int i, .int j]).isSome = !decide (V.int i = V.int j) := by
                    show (if i = j then none else some (i, j)).isSome = _
                    by_cases q : i = j
                    · rw [if_pos q, decide_eq_true (by rw [q])]
                      rfl
                    · rw [if_neg q, decide_eq_false (fun z => q (V.int.inj z))]
                      rfl
                  rw [← e0]
                  exact hk
                | _ => cases bY
              | _ => cases bx
      · have e2 : (!decide (V.int ((xs.length : Nat) : Int) = V.int 2)) = true := by
          rw [decide_eq_false fun z => h2 (by have := V.int.inj z; omega)]
          rfl
        rw [e2]
        refine iteT ?_
        have e0 : pair2 ds = none := by
          match ds, hle with
          | [], _ => rfl
          | [a], _ => cases a <;> rfl
          | [_, _], hle => exact absurd hle h2
          | _ :: _ :: _ :: _, _ => rename_i a b c r _; cases a <;> first | rfl | (cases b <;> rfl)
        rw [e0] at hk
        exact hk
    · refine ⟨_, rfl, two_le, fun q hq => ?_⟩
      have s1 := Same.new (o := .tup [V.ty "list", V.ty "tuple"]) hq
      have hv1 := hv.mono s1
      refine ⟨_, _, _, _, _, _, rfl, upd_same, .cons (.ty _) (.cons (.ty _) .nil), hv1.tyx, hv1.kSeq, _, rfl, ?_⟩
      rw [hT]
      refine iteT (iteT ?_)
      have hk := k _ s1
      have e : pairD d = none := by unfold pairD; rw [hi]; rfl
      rw [e] at hk
      exact hk
end
abbrev sAl : Stmt := top 26
abbrev nAl : List Str := ["thing", "pair"]
theorem scAl : FnScope nAl ["thing"] (defScope sAl) := ⟨rfl, rfl, rfl, by decide +kernel, rfl, by decide +kernel, by decide +kernel⟩
/-- the pairs, where a thing is so many of them -/
def pairsD (d : PyData) : Option (List (Int × Int)) := (itemsD d).bind fun ds => if canBe (ds.length : Nat) && ds.all fun e => (pairD e).isSome then some (ds.filterMap pairD) else none
def spAl : Sp := fun vs H Q _ => ∃ (v : V) (p l : Addr) (d : PyData), vs = [v] ∧ Da p l H v d ∧ ∀ H', Same H H' → Q (.bl (pairsD d).isSome) H'
section
variable {P : Program} {w : World} {K : PySem.W.Frag} {mg : Str → Option Value} {base : Heap}
theorem ok_al {f fL fC : Addr} {fd dL dC : FuncData} (F : Fun K "are_loose_lines" "are_loose_lines" sAl f fd) (T : TB mg) (L : Cal K mg "is_loose_line" fL dL ["thing"]) (GL : FnOk P w K mg base CX0 2 fL dL ["thing"] spLl) (C : Cal K mg "can_be_many_lines" fC dC ["many"]) (GC : FnOk P w K mg base CX0 1 fC dC ["many"] spCanBe) : FnOk P w K mg base CX0 3 f fd ["thing"] spAl := by
  refine F.ok scAl (fun vs H Q E h => ?_) (fun cdv A outer s H vs Q E hr h => ?_)
  · obtain ⟨v, p, l, d, rfl, _⟩ := h
    rfl
  · obtain ⟨v, p, l, d, rfl, hd, k⟩ := h
    have nd := scAl.nd
    have hr2 : Room 2 _ := hr
    have hr1 : Room 1 _ := hr.mono (by decide)
    refine ⟨_, pss_cons (ps_if (PW.pt (pw_or (pt_not (pt_val (pe_callB call_isiT (by rfl) T.isinstance boot_isinstance (pa_cons (pv 0) (pa_cons (pe_tup (pa_cons (pe_bltn (v := .ty "list") (by rfl) T.list (by decide +kernel) rfl) (pa_cons (pe_bltn (v := .ty "tuple") (by rfl) T.tuple boot_tuple rfl) pa_nil))) pa_nil))))) (pw_or1 (pt_not (pt_val (pe_call GC hr1 rfl C.g C.kp C.b .nil pass0 (pa_cons (pe_callB call_len_seq (by rfl) T.len PySem.boot_len (pa_cons (pv 0) pa_nil)) pa_nil))))))) (pss_one (ps_ret pe_bl)) pss_nil)
      (pss_one (ps_ret (pe_callB (cr_all rfl) (by rfl) T.all boot_all (pa_cons (pe_lc (own := [("pair", 1)]) (g := (gName 1)) (tt := tYes) (te := (tCall spLl [] E0 (tCons (tVar 1) tNil))) rfl nd (pi_alt2 (pi_list (pv 0)) (pi_tup (pv 0))) (blkOk_by (N := nAl) (sc := defScope sAl) (by decide +kernel)) (fun _ _ _ _ _ => pg_name (i := 1) nd rfl (Or.inl rfl)) (fun _ _ _ _ _ => pts_nil) (fun _ _ _ _ _ => by exact (pe_call GL hr2 rfl L.g L.kp L.b .nil pass0 (pa_cons (pv 1) pa_nil)))) pa_nil)))), ?_⟩
    rcases seq_kind hd with ⟨t, xs, ds, T', rfl, ht, hi, hds, hv, hT⟩ | ⟨hi, T', hv, hT⟩
    · refine ⟨_, rfl, two_le, fun q hq => ?_⟩
      have s1 := Same.new (o := .tup [V.ty "list", V.ty "tuple"]) hq
      have hv1 := hv.mono s1
      refine ⟨_, _, _, _, _, _, rfl, upd_same, .cons (.ty _) (.cons (.ty _) .nil), hv1.tyx, hv1.kSeq, _, rfl, ?_⟩
      generalize upd H q (.tup [V.ty "list", V.ty "tuple"]) = H1 at s1
      have ht1 := seq_same ht s1
      have e : pairsD d = if canBe (ds.length : Nat) && ds.all (fun e => (pairD e).isSome) then some (ds.filterMap pairD) else none := by unfold pairsD; rw [hi]; rfl
      rw [hT]
      have hle := hds.len
      refine iteF ⟨_, rfl, t, _, rfl, seq_of ht1, ((xs.length : Nat) : Int), rfl, fun H2 s2 => ⟨_, rfl, ?_⟩⟩
      rw [hle]
      have s12 := s1.trans s2
      have ht2 := seq_same ht s12
      cases hc : canBe ((ds.length : Nat) : Int) with
      | false =>
        rw [hc, Bool.false_and] at e
        refine iteT ?_
        have hk := k _ s12
        rw [e] at hk
        exact hk
      | true =>
        rw [hc, Bool.true_and] at e
        refine iteF ?_
        have h80 : xs.length ≤ 80 := by
          unfold canBe at hc
          simp only [Bool.and_eq_true, decide_eq_true_eq] at hc
          omega
        have fin : ∀ (H3 : Hp) (D : Addr), Same H H3 → H3 D = some (.lst ((ds.map fun e => (pairD e).isSome).map V.bl)) → rAll K [.ref D] H3 Q := fun H3 D s3 hD => ⟨D, _, rfl, SqL.of hD, by
          have hk := k _ s3
          rw [e] at hk
          have e3 : (ds.map fun e => (pairD e).isSome).all id = (if ds.all (fun e => (pairD e).isSome) then some (ds.filterMap pairD) else none).isSome := by
            rw [List.all_map]
            show ds.all (fun e => (pairD e).isSome) = _
            cases ds.all (fun e => (pairD e).isSome) <;> rfl
          rw [e3]
          exact hk⟩
        have step : ∀ (D : Addr) (j : Nat) (x : V) (H4 : Hp), H2 D = none → j < xs.length → xs[j]? = some x → (H4 D = some (.lst (((ds.take j).map fun e => (pairD e).isSome).map V.bl)) ∧ Same H H4) → ∀ R : Hp → Prop, (∀ H5 : Hp, H5 D = some (.lst (((ds.take (j + 1)).map fun e => (pairD e).isSome).map V.bl)) ∧ Same H H5 → R H5) →
            spLl [x] H4 (fun y H5 => ∃ acc, H5 D = some (.lst acc) ∧ acc.length < sizeLine ∧ R (upd H5 D (.lst (acc ++ [y])))) E0 := fun D j x H4 hD hj hx ⟨h4, s4⟩ R hR => by
          obtain ⟨d', hd', hda'⟩ := hds.get hx
          refine ⟨x, p, l, d', rfl, Da.extT (ExtT.ofS s4) _ _ hda', fun H5 s5 => ⟨_, s5 _ _ h4, small1000 (by rw [List.length_map, List.length_map, List.length_take]; omega), hR _ ⟨?_, fun b o eo => ?_⟩⟩⟩
          · rw [upd_same, List.take_succ, hd', Option.toList_some, List.map_append, List.map_append]
            rfl
          · rw [upd_ne (ne_of_none (s12 _ _ eo) hD)]
            exact s5 _ _ (s4 _ _ eo)
        have last : ∀ (H5 : Hp) (D : Addr), (H5 D = some (.lst (((ds.take xs.length).map fun e => (pairD e).isSome).map V.bl)) ∧ Same H H5) → rAll K [.ref D] H5 Q := fun H5 D h => fin H5 D h.2 (by
          have h1 := h.1
          rw [hle, List.take_length] at h1
          exact h1)
        rcases ht with ht | ht
        · refine .inl ⟨_, rfl, t, rfl, ⟨_, SqL.of (s12 _ _ ht)⟩, fun D hD => ?_⟩
          refine lc_it (walk_list (K := K) (a := t) (xs := xs)) (fun j H4 => H4 D = some (.lst (((ds.take j).map fun e => (pairD e).isSome).map V.bl)) ∧ Same H H4) ⟨upd_same, s12.trans (Same.new hD)⟩ (fun j H4 _ h => SqL.of (h.2 _ _ ht)) ?_ ?_
          · rintro j x H4 H3 hj h ⟨rfl, hx⟩
            exact ⟨rfl, yes ⟨_, rfl, step D j x _ hD hj hx h _ fun _ z => z⟩⟩
          · exact fun H4 h => last _ _ h
        · refine .inr ⟨_, rfl, t, rfl, ⟨_, SqT.of (s12 _ _ ht)⟩, fun D hD => ?_⟩
          refine lc_it (walk_tup (K := K) (a := t) (xs := xs)) (fun j H4 => H4 D = some (.lst (((ds.take j).map fun e => (pairD e).isSome).map V.bl)) ∧ Same H H4) ⟨upd_same, s12.trans (Same.new hD)⟩ (fun j H4 _ h => SqT.of (h.2 _ _ ht)) ?_ ?_
          · rintro j x H4 H3 hj h ⟨rfl, hx⟩
            exact ⟨rfl, yes ⟨_, rfl, step D j x _ hD hj hx h _ fun _ z => z⟩⟩
          · exact fun H4 h => last _ _ h
    · refine ⟨_, rfl, two_le, fun q hq => ?_⟩
      have s1 := Same.new (o := .tup [V.ty "list", V.ty "tuple"]) hq
      have hv1 := hv.mono s1
      refine ⟨_, _, _, _, _, _, rfl, upd_same, .cons (.ty _) (.cons (.ty _) .nil), hv1.tyx, hv1.kSeq, _, rfl, ?_⟩
      rw [hT]
      refine iteT (iteT ?_)
      have hk := k _ s1
      have e : pairsD d = none := by unfold pairsD; rw [hi]; rfl
      rw [e] at hk
      exact hk
end
end One
end P_YB

section P_M5
set_option linter.all false
/-! Far ends; sewing the newest crossing out again. -/
namespace One
/-- strictly sorted lists with the same items are the same -/
theorem sorted_ext {α : Type} {lt : α → α → Prop} (irr : ∀ a, ¬ lt a a) (tr : ∀ a b c, lt a b → lt b c → lt a c) : ∀ {L M : List α}, L.Pairwise lt → M.Pairwise lt → (∀ x, x ∈ L ↔ x ∈ M) → L = M
  | [], [], _, _, _ => rfl
  | [], b :: M, _, _, h => absurd ((h b).mpr (List.mem_cons_self ..)) (by simp)
  | a :: L, [], _, _, h => absurd ((h a).mp (List.mem_cons_self ..)) (by simp)
  | a :: L, b :: M, hL, hM, h => by
    obtain ⟨h1, h2⟩ := List.pairwise_cons.mp hL
    obtain ⟨h3, h4⟩ := List.pairwise_cons.mp hM
    have e : a = b := by
      rcases List.mem_cons.mp ((h a).mp (List.mem_cons_self ..)) with e | m
      · exact e
      · rcases List.mem_cons.mp ((h b).mpr (List.mem_cons_self ..)) with e | m'
        · exact e.symm
        · exact absurd (tr _ _ _ (h1 b m') (h3 a m)) (irr a)
    subst e
    refine congrArg (a :: ·) (sorted_ext irr tr h2 h4 fun x => ⟨fun m => ?_, fun m => ?_⟩)
    · rcases List.mem_cons.mp ((h x).mp (List.mem_cons_of_mem _ m)) with e | m'
      · subst e
        exact absurd (h1 x m) (irr x)
      · exact m'
    · rcases List.mem_cons.mp ((h x).mpr (List.mem_cons_of_mem _ m)) with e | m'
      · subst e
        exact absurd (h3 x m) (irr x)
      · exact m'
theorem ltP_irr (a : Nat × Nat) : ¬ ltP a a := fun h => by
  unfold ltP at h
  omega
theorem ltP_tr (a b c : Nat × Nat) (h : ltP a b) (k : ltP b c) : ltP a c := by
  unfold ltP at *
  omega
theorem Yard.eq {n m : Nat} {L M : List (Nat × Nat)} (y : Yard n L) (z : Yard m M) (h : ∀ x, x ∈ L ↔ x ∈ M) : L = M := sorted_ext ltP_irr ltP_tr y.up z.up h
/-- the far end -/
def far : List (Nat × Nat) → Nat → Nat
  | [], _ => 0
  | p :: r, e => if e = p.1 then p.2 else if e = p.2 then p.1 else far r e
theorem far_out : ∀ {ps : List (Nat × Nat)} {e : Nat}, e ∉ ends ps → far ps e = 0
  | [], _, _ => rfl
  | p :: r, e, h => by
    have h : e ∉ p.1 :: p.2 :: ends r := h
    simp only [List.mem_cons, not_or] at h
    unfold far
    rw [if_neg h.1, if_neg h.2.1, far_out h.2.2]
theorem far_of : ∀ {ps : List (Nat × Nat)}, (ends ps).Nodup → ∀ {p : Nat × Nat}, p ∈ ps → far ps p.1 = p.2 ∧ far ps p.2 = p.1
  | q :: r, h, p, m => by
    have h : (q.1 :: q.2 :: ends r).Nodup := h
    obtain ⟨h1, h2⟩ := List.nodup_cons.mp h
    obtain ⟨h3, h4⟩ := List.nodup_cons.mp h2
    unfold far
    rcases List.mem_cons.mp m with e | m
    · subst e
      refine ⟨if_pos rfl, ?_⟩
      rw [if_neg (fun e => h1 (List.mem_cons.mpr (.inl e.symm))), if_pos rfl]
    · have m1 : p.1 ∈ ends r := mem_ends.mpr ⟨p, m, .inl rfl⟩
      have m2 : p.2 ∈ ends r := mem_ends.mpr ⟨p, m, .inr rfl⟩
      obtain ⟨i1, i2⟩ := far_of h4 m
      have n1 : p.1 ≠ q.1 := fun e => h1 (List.mem_cons.mpr (.inr (e ▸ m1)))
      have n2 : p.1 ≠ q.2 := fun e => h3 (e ▸ m1)
      have n3 : p.2 ≠ q.1 := fun e => h1 (List.mem_cons.mpr (.inr (e ▸ m2)))
      have n4 : p.2 ≠ q.2 := fun e => h3 (e ▸ m2)
      rw [if_neg n1, if_neg n2, if_neg n3, if_neg n4]
      exact ⟨i1, i2⟩
theorem far_line {ps : List (Nat × Nat)} (h : (ends ps).Nodup) {e : Nat} (m : e ∈ ends ps) : ((e, far ps e) ∈ ps ∨ (far ps e, e) ∈ ps) ∧ far ps (far ps e) = e := by
  obtain ⟨p, hp, z | z⟩ := mem_ends.mp m
  · obtain ⟨i1, i2⟩ := far_of h hp
    rw [z, i1, i2]
    exact ⟨.inl hp, rfl⟩
  · obtain ⟨i1, i2⟩ := far_of h hp
    rw [z, i2, i1]
    exact ⟨.inr hp, rfl⟩
theorem far_snoc {p : Nat × Nat} : ∀ {ps : List (Nat × Nat)}, (ends (ps ++ [p])).Nodup → ∀ e, far (ps ++ [p]) e = if e = p.1 then p.2 else if e = p.2 then p.1 else far ps e
  | ps, h, e => by
    have hp : p ∈ ps ++ [p] := List.mem_append_right _ (List.mem_cons_self ..)
    obtain ⟨i1, i2⟩ := far_of h hp
    by_cases e1 : e = p.1
    · rw [if_pos e1, e1, i1]
    · rw [if_neg e1]
      by_cases e2 : e = p.2
      · rw [if_pos e2, e2, i2]
      · rw [if_neg e2]
        have go : ∀ (l : List (Nat × Nat)), far (l ++ [p]) e = far l e := by
          intro l
          induction l with
          | nil =>
            show (if e = p.1 then p.2 else if e = p.2 then p.1 else far [] e) = far [] e
            rw [if_neg e1, if_neg e2]
          | cons q r ih =>
            show (if e = q.1 then q.2 else if e = q.2 then q.1 else far (r ++ [p]) e) = (if e = q.1 then q.2 else if e = q.2 then q.1 else far r e)
            rw [ih]
        exact go ps
theorem pigeon : ∀ (m : Nat) (l : List Nat), l.Nodup → (∀ x ∈ l, x < m) → l.length ≤ m
  | 0, [], _, _ => Nat.le_refl _
  | 0, a :: l, _, h => absurd (h a (List.mem_cons_self ..)) (by omega)
  | m + 1, l, nd, h => by
    by_cases hm : m ∈ l
    · have e := List.length_erase_of_mem hm
      have ih := pigeon m (l.erase m) (nd.erase m) fun x hx => by
        have q := (nd.mem_erase_iff).mp hx
        have := h x q.2
        have := q.1
        omega
      omega
    · have ih := pigeon m l nd fun x hx => by
        have := h x hx
        have : x ≠ m := fun e => hm (e ▸ hx)
        omega
      omega
/-- every end below 4n stands in lines of n crossings -/
theorem ends_full {n : Nat} {ps : List (Nat × Nat)} (L : Lines n ps) {e : Nat} (h : e < 4 * n) : e ∈ ends ps := by
  by_cases m : e ∈ ends ps
  · exact m
  · exfalso
    have hl : (ends ps).length = 4 * n := by rw [ends_length, L.len]; omega
    have nd : (e :: ends ps).Nodup := List.nodup_cons.mpr ⟨m, L.nd⟩
    have := pigeon (4 * n) (e :: ends ps) nd fun x hx => by
      rcases List.mem_cons.mp hx with z | z
      · rw [z]; exact h
      · exact L.lt x z
    rw [List.length_cons, hl] at this
    omega
theorem far_lt {n : Nat} {ps : List (Nat × Nat)} (L : Lines n ps) {e : Nat} (h : e < 4 * n) : far ps e < 4 * n := by
  obtain ⟨z | z, _⟩ := far_line L.nd (ends_full L h)
  · exact L.lt _ (mem_ends.mpr ⟨_, z, .inr rfl⟩)
  · exact L.lt _ (mem_ends.mpr ⟨_, z, .inl rfl⟩)
/-- the lines told from the far ends -/
def linesOf (F : Nat → Nat) (m : Nat) : List (Nat × Nat) := (List.range m).filterMap fun e => if e < F e then some (e, F e) else none
theorem linesOf_snoc (F : Nat → Nat) (m : Nat) : linesOf F (m + 1) = linesOf F m ++ (if m < F m then [(m, F m)] else []) := by
  unfold linesOf
  rw [List.range_succ, List.filterMap_append]
  by_cases h : m < F m
  · simp [h]
  · simp [h]
theorem linesOf_mem {F : Nat → Nat} {m : Nat} {p : Nat × Nat} : p ∈ linesOf F m ↔ p.1 < m ∧ F p.1 = p.2 ∧ p.1 < p.2 := by
  unfold linesOf
  rw [List.mem_filterMap]
  constructor
  · rintro ⟨e, he, h⟩
    split at h
    · cases h
      exact ⟨List.mem_range.mp he, rfl, by assumption⟩
    · cases h
  · rintro ⟨h1, h2, h3⟩
    refine ⟨p.1, List.mem_range.mpr h1, ?_⟩
    rw [h2, if_pos h3]
theorem linesOf_up (F : Nat → Nat) : ∀ m, (linesOf F m).Pairwise ltP
  | 0 => .nil
  | m + 1 => by
    rw [linesOf_snoc]
    refine List.pairwise_append.mpr ⟨linesOf_up F m, ?_, fun a ha b hb => ?_⟩
    · split
      · exact List.pairwise_singleton _ _
      · exact .nil
    · split at hb
      · rw [List.mem_singleton.mp hb]
        exact .inl (linesOf_mem.mp ha).1
      · cases hb
theorem yard_linesOf {n : Nat} {ps : List (Nat × Nat)} (y : Yard n ps) : linesOf (far ps) (4 * n) = ps := by
  refine sorted_ext ltP_irr ltP_tr (linesOf_up _ _) y.up fun p => ⟨fun h => ?_, fun h => ?_⟩
  · obtain ⟨h1, h2, h3⟩ := linesOf_mem.mp h
    obtain ⟨z | z, _⟩ := far_line y.lines.nd (ends_full y.lines h1)
    · rw [h2] at z
      exact z
    · rw [h2] at z
      have := y.low _ z
      simp only at this
      omega
  · have h1 := y.lines.lt _ (mem_ends.mpr ⟨p, h, .inl rfl⟩)
    exact linesOf_mem.mpr ⟨h1, (far_of y.lines.nd h).1, y.low p h⟩
end One
end P_M5

section P_YC
set_option linter.all false
set_option maxRecDepth 100000
set_option maxHeartbeats 16000000
namespace One
open PySem PySem.Spec PyProof.Rows L2
/-! ### the first pair with no end, or one that stands ahead -/
def bad (N : Nat) (met : List Nat) (a : Int) : Bool := !(decide (0 ≤ a) && decide (a < (N : Int))) || met.contains a.toNat
def dupF (N : Nat) : Nat → List Nat → List (Int × Int) → Option Nat
  | _, _, [] => none
  | k, met, p :: r => if bad N met p.1 || bad N met p.2 then some k else dupF N (k + 1) (met ++ [p.1.toNat, p.2.toNat]) r
def prsL (prs : List (Int × Int)) : List (Nat × Nat) := prs.map fun p => low p.1.toNat p.2.toNat
theorem bad_not {N : Nat} {met : List Nat} {a : Int} (h : bad N met a = false) : 0 ≤ a ∧ a < (N : Int) ∧ ¬ a.toNat ∈ met := by
  unfold bad at h
  rw [Bool.or_eq_false_iff, Bool.not_eq_false', Bool.and_eq_true, decide_eq_true_eq, decide_eq_true_eq] at h
  refine ⟨h.1.1, h.1.2, fun m => ?_⟩
  have := List.contains_iff_mem.mpr m
  rw [h.2] at this
  cases this
theorem ends_low (x y : Nat) (r : List Nat) : ((low x y).1 :: (low x y).2 :: r).Perm (x :: y :: r) := by
  unfold low
  split
  · exact .swap _ _ _
  · exact .refl _
theorem dup_none {N : Nat} : ∀ {prs : List (Int × Int)} {k : Nat} {met : List Nat}, dupF N k met prs = none → met.Nodup → (∀ p ∈ prs, p.1 ≠ p.2) → (met ++ ends (prsL prs)).Nodup ∧ ∀ e ∈ ends (prsL prs), e < N
  | [], _, met, _, hm, _ => by
    show (met ++ []).Nodup ∧ ∀ e ∈ ([] : List Nat), e < N
    rw [List.append_nil]
    exact ⟨hm, fun e he => absurd he (by simp)⟩
  | p :: r, k, met, h, hm, hne => by
    have h : (if bad N met p.1 || bad N met p.2 then some k else dupF N (k + 1) (met ++ [p.1.toNat, p.2.toNat]) r) = none := h
    cases b1 : bad N met p.1 with
    | true => rw [b1, Bool.true_or, if_pos rfl] at h; cases h
    | false =>
      cases b2 : bad N met p.2 with
      | true => rw [b1, b2, Bool.or_true, if_pos rfl] at h; cases h
      | false =>
        rw [b1, b2, Bool.or_false, if_neg (by decide)] at h
        obtain ⟨a0, a1, a2⟩ := bad_not b1
        obtain ⟨c0, c1, c2⟩ := bad_not b2
        have hpq := hne p (List.mem_cons_self ..)
        have n2 : p.1.toNat ≠ p.2.toNat := fun z => hpq (by omega)
        have hm2 : (met ++ [p.1.toNat, p.2.toNat]).Nodup := by
          refine List.nodup_append.mpr ⟨hm, by simp [n2], fun a ha b hb => ?_⟩
          simp only [List.mem_cons, List.not_mem_nil, or_false] at hb
          rcases hb with rfl | rfl
          · exact fun z => a2 (z ▸ ha)
          · exact fun z => c2 (z ▸ ha)
        obtain ⟨i1, i2⟩ := dup_none h hm2 fun q hq => hne q (List.mem_cons_of_mem _ hq)
        have e : ends (prsL (p :: r)) = (low p.1.toNat p.2.toNat).1 :: (low p.1.toNat p.2.toNat).2 :: ends (prsL r) := rfl
        have pm := ends_low p.1.toNat p.2.toNat (ends (prsL r))
        rw [e]
        refine ⟨?_, fun x hx => ?_⟩
        · rw [List.append_assoc] at i1
          exact (List.Perm.append_left met pm).nodup_iff.mpr i1
        · have hx := pm.mem_iff.mp hx
          rcases List.mem_cons.mp hx with rfl | hx
          · omega
          · rcases List.mem_cons.mp hx with rfl | hx
            · omega
            · exact i2 x hx
theorem dup_lines {n : Nat} {prs : List (Int × Int)} (hl : prs.length = 2 * n) (h : dupF (2 * prs.length) 0 [] prs = none) (hne : ∀ p ∈ prs, p.1 ≠ p.2) : Lines n (prsL prs) := by
  obtain ⟨h1, h2⟩ := dup_none h .nil hne
  exact ⟨(List.length_map _).trans hl, by simpa using h1, fun e he => by have := h2 e he; omega⟩
theorem dup_lt {N : Nat} : ∀ {prs : List (Int × Int)} {k r : Nat} {met : List Nat}, dupF N k met prs = some r → r < k + prs.length
  | [], _, _, _, h => by cases h
  | p :: q, k, r, met, h => by
    have h : (if bad N met p.1 || bad N met p.2 then some k else dupF N (k + 1) (met ++ [p.1.toNat, p.2.toNat]) q) = some r := h
    rw [List.length_cons]
    split at h
    · have := Option.some.inj h
      omega
    · have := dup_lt h
      omega
/-- the place by which pairs are refused; none of those of a yard -/
noncomputable def placeP (d : PyData) : Option (List Nat) := match pairsD d with
  | none => some []
  | some prs => match dupF (2 * prs.length) 0 [] prs with
    | some k => some [k]
    | none => open Classical in if Whole (prs.length / 2) (prsL prs) then none else some [prs.length]
theorem pairs_of {d : PyData} {prs : List (Int × Int)} (h : pairsD d = some prs) : ∃ ds, itemsD d = some ds ∧ canBe (ds.length : Nat) = true ∧ ds.map pairD = prs.map some := by
  unfold pairsD at h
  cases hi : itemsD d with
  | none => rw [hi] at h; cases h
  | some ds =>
    rw [hi] at h
    replace h : (if canBe (ds.length : Nat) && ds.all fun e => (pairD e).isSome then some (ds.filterMap pairD) else none) = some prs := h
    split at h
    · rename_i hc
      rw [Bool.and_eq_true] at hc
      refine ⟨ds, rfl, hc.1, ?_⟩
      cases h
      have ha := hc.2
      clear hc hi
      induction ds with
      | nil => rfl
      | cons e ds ih =>
        rw [List.all_cons, Bool.and_eq_true] at ha
        cases he : pairD e with
        | none => rw [he] at ha; cases ha.1
        | some q => rw [List.filterMap_cons, he, List.map_cons, List.map_cons, he, ih ha.2]
    · cases h
theorem pair_ne {d : PyData} {p : Int × Int} (h : pairD d = some p) : p.1 ≠ p.2 := by
  unfold pairD at h
  cases hi : itemsD d with
  | none => rw [hi] at h; cases h
  | some ds =>
    rw [hi] at h
    have h : pair2 ds = some p := h
    unfold pair2 at h
    split at h
    · split at h
      · cases h
      · cases h
        assumption
    · cases h
/-- a pair of data is one of the heap -/
theorem pair_at {p l : Addr} {H : Hp} {v : V} {d : PyData} {q : Int × Int} (h : Da p l H v d) (e : pairD d = some q) : ∃ a, v = .ref a ∧ (H a = some (.lst [.int q.1, .int q.2]) ∨ H a = some (.tup [.int q.1, .int q.2])) := by
  rcases seq_kind h with ⟨t, xs, ds, T', rfl, ht, hi, hds, _, _⟩ | ⟨hi, _⟩
  · unfold pairD at e
    rw [hi] at e
    have e : pair2 ds = some q := e
    unfold pair2 at e
    split at e
    · split at e
      · cases e
      · cases e
        cases hds with
        | cons g1 g2 =>
          cases g1
          cases g2 with
          | cons g3 g4 =>
            cases g3
            cases g4
            exact ⟨t, rfl, ht⟩
    · cases e
  · unfold pairD at e
    rw [hi] at e
    cases e
/-- sorted lines, whole or not -/
theorem fault_lines {H : Hp} {t : Addr} {n : Nat} {as : List Addr} {qs ps : List (Nat × Nat)} {Q : VK} {E : XK} (ht : H t = some (.tup (refs as))) (hP : PL H as qs) (L : Lines n ps) (hl : ∀ p ∈ ps, p.1 ≤ p.2) (hn0 : 0 < n) (hn : n ≤ 40) (hp : qs.Perm ps) (hs : qs.Pairwise leP)
    (good : Whole n ps → ∀ H', Same H H' → Q .non H') (bad : ¬ Whole n ps → ∀ (H' : Hp) (q : Addr), Same H H' → H' q = some (.tup (nats [2 * n])) → Q (.ref q) H') : spFault [.ref t] H Q E := by
  have hM := L.perm hp.symm
  have hlen : (refs as).length = 2 * n := by rw [List.length_map, hP.len, hM.len]
  have lo : ∀ p ∈ qs, p.1 < p.2 ∧ p.2 < 4 * n := fun p m => by
    have h1 := hl p (hp.mem_iff.mp m)
    have h2 := nodup_pair hM.nd p m
    have h3 := hM.lt _ (mem_ends.mpr ⟨p, m, .inr rfl⟩)
    omega
  have up : qs.Pairwise ltP := (hs.and (nodup_firsts hM.nd)).imp fun {p q} ⟨h1, h2, _⟩ => by
    rcases h1 with h1 | ⟨h1, _⟩
    · exact .inl h1
    · exact absurd h1 h2
  refine ⟨_, rfl, .inr ⟨t, refs as, qs.map some, rfl, ht, ?_, ?_, fun k hk => ?_, fun _ rs e => ?_⟩⟩
  · unfold canBe
    rw [hlen]
    simp only [Bool.and_eq_true, decide_eq_true_eq]
    omega
  · rw [hlen]
    exact il_of hP fun p m => ⟨(lo p m).1, by have := (lo p m).2; omega⟩
  · rw [goF_good qs 0 [] none (fun _ e => by cases e) up (by simpa using hM.nd)] at hk
    cases hk
  · cases map_some_inj e
    rw [hlen, show 2 * n / 2 = n by omega]
    exact ⟨fun w => good (w.perm hp), fun w => bad fun z => w (z.perm hp.symm)⟩
abbrev sYo : Stmt := top 25
abbrev nYo : List Str := ["pairs", "many_ends", "taken", "lines", "number", "one", "other", "end"]
theorem scYo : FnScope nYo ["pairs"] (defScope sYo) := ⟨rfl, rfl, rfl, by decide +kernel, rfl, by decide +kernel, by decide +kernel⟩
def RW3 (C0 : Addr) (E : XK) (H : Hp) (pl : List Nat) : Prop := ∀ (H' : Hp) (q dd : Addr), Same H H' → H' q = some (.tup (nats pl)) → H' dd = none → E (.ref C0) (some dd) (upd H' dd (.xd [("place", .ref q)]))
def spYo (C0 : Addr) : Sp := fun vs H Q E => ∃ (v : V) (p l : Addr) (d : PyData), vs = [v] ∧ Da p l H v d ∧ (∀ pl, placeP d = some pl → RW3 C0 E H pl) ∧
  (placeP d = none → ∀ prs, pairsD d = some prs → ∀ (H' : Hp) (t : Addr) (as : List Addr) (qs : List (Nat × Nat)), Same H H' → H' t = some (.tup (refs as)) → PL H' as qs → qs.Perm (prsL prs) → qs.Pairwise leP → Q (.ref t) H')
section
def rMin2 : List V → Hp → VK → Prop := fun xs H Q => ∃ i j : Int, xs = [.int i, .int j] ∧ Q (.int (if j < i then j else i)) H
theorem min2b {X : Cx} (hc : X.calm = true) : CallR X (.builtin "min") rMin2 := call_min2 hc
def rMax2 : List V → Hp → VK → Prop := fun xs H Q => ∃ i j : Int, xs = [.int i, .int j] ∧ Q (.int (if j > i then j else i)) H
theorem max2b {X : Cx} (hc : X.calm = true) : CallR X (.builtin "max") rMax2 := call_max2 hc
variable {P : Program} {w : World} {K : PySem.W.Frag} {mg : Str → Option Value} {base : Heap} {C0 fI : Addr} {x0 : Stmt}
theorem ok_yo {f fA fB fN : Addr} {fd dA dB dN : FuncData} (F : Fun K "yard_of" "yard_of" sYo f fd) (T : TB mg) (hmin : mg "min" = none) (hmax : mg "max" = none) (T0 : OwnTxt P K x0 "place" C0 fI) (O0 : OwnCls K mg "BadYard" C0 fI) (noS : mg "super" = none)
    (AL : Cal K mg "are_loose_lines" fA dA ["thing"]) (GA : FnOk P w K mg base CX0 3 fA dA ["thing"] spAl) (B : Cal K mg "is_below" fB dB ["thing", "many"]) (GB : FnOk P w K mg base CX0 2 fB dB ["thing", "many"] spIsBelow)
    (N : Cal K mg "need_yard" fN dN ["thing"]) (GN : FnOk P w K mg base (L2.CX P w) 5 fN dN ["thing"] (spNeed C0)) : FnOk P w K mg base (L2.CX P w) 6 f fd ["pairs"] (spYo C0) := by
  refine F.okX scYo (fun vs H Q E h => ?_) (fun cdv A outer s H vs Q E hr h => ?_)
  · obtain ⟨v, p, l, d, rfl, _⟩ := h
    rfl
  · obtain ⟨v, p, l, d, rfl, hd, kb, kg⟩ := h
    have nd := scYo.nd
    have hr5 : Room 5 _ := hr
    have hr3 : Room 3 _ := hr.mono (by decide)
    have hr2 : Room 2 _ := hr.mono (by decide)
    refine ⟨_, pss_cons (ps_if (pt_not (pt_val (pe_call GA hr3 rfl AL.g AL.kp AL.b .nil pass0 (pa_cons (pv 0) pa_nil)))) (pss_one (ps_raiseX rfl (Or.inl rfl) T0 O0 noS hr (takes_of rfl rfl rfl rfl) (pa_cons (pe_tup pa_nil) pa_nil) (by rfl))) pss_nil)
      (pss_cons (ps_set (i := 1) nd rfl (Or.inl rfl) (pe_op op_mul pe_int (pe_callB call_len_seq (by rfl) T.len PySem.boot_len (pa_cons (pv 0) pa_nil))))
      (pss_cons (ps_set (i := 2) nd rfl (Or.inl rfl) (pe_op op_rep (pe_lst (pa_cons pe_bl pa_nil)) (pv 1)))
      (pss_cons (ps_set (i := 3) nd rfl (Or.inl rfl) (pe_lst pa_nil))
      (pss_cons (ps_for (passes_of rfl) rfl (pi_alt2 (pi_enum (by rfl) T.enumerate (pa_cons (pv 0) pa_nil)) (pi_enumT (by rfl) T.enumerate (pa_cons (pv 0) pa_nil))) (pg_tup rfl (pgs_cons (pg_name (i := 4) nd rfl (Or.inl rfl)) (pgs_cons (pg_seq rfl (pgs_cons (pg_name (i := 5) nd rfl (Or.inl rfl)) (pgs_cons (pg_name (i := 6) nd rfl (Or.inl rfl)) pgs_nil))) pgs_nil)))
        (pss_cons (ps_for (passes_of rfl) rfl (pi_tup (pe_tup (pa_cons (pv 5) (pa_cons (pv 6) pa_nil)))) (pg_name (i := 7) nd rfl (Or.inl rfl))
        (pss_cons (ps_if (PW.pt (pw_or (pt_not (pt_val (pe_call GB hr2 rfl B.g B.kp B.b .nil pass0 (pa_cons (pv 7) (pa_cons (pv 1) pa_nil))))) (pw_or1 (pt_val (pe_ix ix_list (pv 2) (pv 7) (fun _ _ => rfl)))))) (pss_one (ps_raiseX rfl (Or.inl rfl) T0 O0 noS hr (takes_of rfl rfl rfl rfl) (pa_cons (pe_tup (pa_cons (pv 4) pa_nil)) pa_nil) (by rfl))) pss_nil)
      (pss_one (ps_asg pe_bl (pg_sub (pv 2) (pv 7) set_list)))))
      (pss_one (ps_expr (pe_bm PySem.F.plainAttrs_list PySem.F.slot_list_append PySem.F.type_list_append mt_append (pv 3) (pa_cons (pe_tup (pa_cons (pe_callB (min2b rfl) (by rfl) hmin boot_min (pa_cons (pv 5) (pa_cons (pv 6) pa_nil))) (pa_cons (pe_callB (max2b rfl) (by rfl) hmax boot_max (pa_cons (pv 5) (pa_cons (pv 6) pa_nil))) pa_nil))) pa_nil))))))
      (pss_one (ps_ret (pe_call GN hr5 rfl N.g N.kp N.b .nil (passes_call (takes_of rfl rfl rfl rfl) (fun _ _ _ _ h => h)) (pa_cons (pe_tupleOf (by rfl) T.tuple (pe_callB cr_sortedPO (by rfl) T.sorted boot_sorted (pa_cons (pv 3) pa_nil))) pa_nil)))))))), ?_⟩
    refine ⟨_, rfl, v, p, l, d, rfl, hd, fun H1 s1 => ⟨_, rfl, ?_⟩⟩
    cases hp : pairsD d with
    | none =>
      have e : placeP d = some [] := by unfold placeP; rw [hp]
      exact iteT ⟨Nat.zero_le _, fun q hq => ⟨_, rfl, .tup [] (SqT.of upd_same) (by simp) (by simp), fun dd hdd => kb _ e _ q dd (s1.trans (Same.new hq)) upd_same hdd⟩⟩
    | some prs =>
      obtain ⟨ds, hi, hc, hm⟩ := pairs_of hp
      have e : placeP d = match dupF (2 * prs.length) 0 [] prs with
        | some k => some [k]
        | none => open Classical in if Whole (prs.length / 2) (prsL prs) then none else some [prs.length] := by unfold placeP; rw [hp]
      rcases seq_kind hd with ⟨t, xs, ds', T', rfl, ht, hi', hds, _, _⟩ | ⟨hi', _⟩
      case inr => rw [hi] at hi'; cases hi'
      rw [hi] at hi'
      cases hi'
      have hle := hds.len
      have hpl : prs.length = xs.length := by
        have := congrArg List.length hm
        rw [List.length_map, List.length_map] at this
        omega
      have hcb : 2 ≤ xs.length ∧ xs.length ≤ 80 ∧ xs.length % 2 = 0 := by
        unfold canBe at hc
        simp only [Bool.and_eq_true, decide_eq_true_eq] at hc
        omega
      have hneq : ∀ q ∈ prs, q.1 ≠ q.2 := fun q hq => by
        have : some q ∈ ds.map pairD := by rw [hm]; exact List.mem_map.mpr ⟨q, hq, rfl⟩
        obtain ⟨x, _, hx⟩ := List.mem_map.mp this
        exact pair_ne hx
      generalize hR0 : dupF (2 * prs.length) 0 [] prs = R0 at e
      rw [hpl] at hR0 e
      have ht1 := seq_same ht s1
      have e2 : (2 : Int) * (xs.length : Nat) = ((2 * xs.length : Nat) : Int) := by omega
      refine iteF ⟨_, rfl, t, _, rfl, seq_of ht1, _, _, rfl, rfl, .inl ⟨by decide, by decide⟩, ?_⟩
      refine ⟨by show 1 ≤ sizeLine; decide, fun l1 hl1 => ⟨_, rfl, l1, ((2 * xs.length : Nat) : Int), _, rfl, (by show V.int ((2 : Int) * (xs.length : Nat)) = _; rw [e2]), upd_same, by omega, by omega, (by show 1 * _ ≤ _; exact Nat.le_of_lt (small1000 (by omega))), fun tk htk => ?_⟩⟩
      have eR : (List.replicate ((2 * xs.length : Nat) : Int).toNat [V.bl false]).flatten = (List.replicate (2 * xs.length) false).map V.bl := by
        rw [show ((2 * xs.length : Nat) : Int).toNat = 2 * xs.length by omega, List.map_replicate]
        exact flat_rep _ _
      have s2 := Same.new (o := .lst [V.bl false]) hl1
      have s3 := Same.new (o := .lst (List.replicate ((2 * xs.length : Nat) : Int).toNat [V.bl false]).flatten) htk
      refine ⟨Nat.zero_le _, fun ln hln => ?_⟩
      have s4 := Same.new (o := .lst []) hln
      have sA := s1.trans (s2.trans (s3.trans s4))
      have htk0 : H tk = none := (s1.trans s2).free htk
      have hln0 : H ln = none := (s1.trans (s2.trans s3)).free hln
      have ntl : tk ≠ ln := fun z => by
        rw [← z, upd_same] at hln
        cases hln
      rw [eR] at s3 s4 sA hln ⊢
      have g0 : (upd (upd (upd H1 l1 (.lst [V.bl false])) tk (.lst ((List.replicate (2 * xs.length) false).map V.bl))) ln (.lst [])) tk = some (.lst ((List.replicate (2 * xs.length) false).map V.bl)) := s4 _ _ upd_same
      have g1 := upd_same (H := upd (upd H1 l1 (.lst [V.bl false])) tk (.lst ((List.replicate (2 * xs.length) false).map V.bl))) (a := ln) (o := .lst [])
      generalize upd (upd (upd H1 l1 (.lst [V.bl false])) tk (.lst ((List.replicate (2 * xs.length) false).map V.bl))) ln (.lst []) = H2 at sA g0 g1
      rcases ht with ht | ht
      case' inl => refine .inl ⟨_, rfl, t, _, rfl, SqL.of (sA _ _ ht), for_it (walk_enum (K := K) (a := t) (xs := xs)) (fun i σ H3 => ∃ (as : List Addr) (bs : List Bool) (met : List Nat) (v4 v5 v6 v7 : Option V), σ = [some (.ref t), some (.int ((2 : Int) * (xs.length : Nat))), some (.ref tk), some (.ref ln), v4, v5, v6, v7] ∧ Same H H3 ∧ H3 tk = some (.lst (bs.map V.bl)) ∧ bs.length = 2 * xs.length ∧ (∀ e, e < 2 * xs.length → bs[e]? = some (met.contains e)) ∧ H3 ln = some (.lst (refs as)) ∧ PL H3 as (prsL (prs.take i)) ∧ dupF (2 * xs.length) i met (prs.drop i) = R0) ⟨[], List.replicate (2 * xs.length) false, [], none, none, none, none, rfl, sA, g0, List.length_replicate, fun e he => by rw [List.getElem?_replicate, if_pos he]; rfl, g1, .nil, hR0⟩ (fun i σ H3 _ ⟨_, _, _, _, _, _, _, _, s', _⟩ => SqL.of (s' _ _ ht)) ?stepL ?doneL⟩
      case' inr => refine .inr ⟨_, rfl, t, _, rfl, SqT.of (sA _ _ ht), for_it (walk_enumT (K := K) (a := t) (xs := xs)) (fun i σ H3 => ∃ (as : List Addr) (bs : List Bool) (met : List Nat) (v4 v5 v6 v7 : Option V), σ = [some (.ref t), some (.int ((2 : Int) * (xs.length : Nat))), some (.ref tk), some (.ref ln), v4, v5, v6, v7] ∧ Same H H3 ∧ H3 tk = some (.lst (bs.map V.bl)) ∧ bs.length = 2 * xs.length ∧ (∀ e, e < 2 * xs.length → bs[e]? = some (met.contains e)) ∧ H3 ln = some (.lst (refs as)) ∧ PL H3 as (prsL (prs.take i)) ∧ dupF (2 * xs.length) i met (prs.drop i) = R0) ⟨[], List.replicate (2 * xs.length) false, [], none, none, none, none, rfl, sA, g0, List.length_replicate, fun e he => by rw [List.getElem?_replicate, if_pos he]; rfl, g1, .nil, hR0⟩ (fun i σ H3 _ ⟨_, _, _, _, _, _, _, _, s', _⟩ => SqT.of (s' _ _ ht)) ?stepR ?doneR⟩
      case stepL | stepR =>
        have ht0 := ht
        rintro i x σ H3' H3 hi ⟨as, bs, met, v4, v5, v6, v7, rfl, s5, htk5, hbl, hbs, hln5, hP5, hgo⟩ ⟨T', x', y', rfl, hT', rfl, ex, ey⟩
        cases ex
        have hi : i < xs.length := hi
        have ey : xs[i]? = some y' := ey
        obtain ⟨di, hdi, hdai⟩ := hds.get ey
        obtain ⟨q, hq, hqd⟩ : ∃ q, prs[i]? = some q ∧ pairD di = some q := by
          have h1 : (ds.map pairD)[i]? = (prs.map some)[i]? := by rw [hm]
          rw [List.getElem?_map, List.getElem?_map, hdi] at h1
          cases h2 : prs[i]? with
          | none => rw [h2] at h1; cases h1
          | some q =>
            rw [h2] at h1
            exact ⟨q, rfl, Option.some.inj h1⟩
        obtain ⟨a, rfl, ha⟩ := pair_at hdai hqd
        have hqn := pair_ne hqd
        have hdrop : prs.drop i = q :: prs.drop (i + 1) := by
          obtain ⟨hlt, e⟩ := List.getElem?_eq_some_iff.mp hq
          rw [List.drop_eq_getElem_cons hlt, e]
        rw [hdrop] at hgo
        have hgo : (if bad (2 * xs.length) met q.1 || bad (2 * xs.length) met q.2 then some i else dupF (2 * xs.length) (i + 1) (met ++ [q.1.toNat, q.2.toNat]) (prs.drop (i + 1))) = R0 := hgo
        have s6 := Same.new (o := .tup [V.int (i : Nat), V.ref a]) hT'
        refine ⟨T', _, rfl, SqT.of upd_same, rfl, _, _, rfl, _, _, rfl, a, [.int q.1, .int q.2], rfl, seq_of (seq_same ha (s5.trans s6)), rfl, _, _, rfl, _, _, rfl, rfl, rfl, ?_⟩
        have s56 := s5.trans s6
        have htk6 := s6 _ _ htk5
        have hln6 := s6 _ _ hln5
        have hP6 := hP5.mono (sameT s6)
        generalize upd H3' T' (.tup [V.int (i : Nat), V.ref a]) = H6 at s6 s56 htk6 hln6 hP6
        have ntk : ∀ {b : Addr} {o : HO}, H b = some o → b ≠ tk := fun e => ne_of_none e htk0
        have boom : R0 = some i → ∀ H7 : Hp, Same H H7 → ∀ (pq : Addr), H7 pq = some (.tup (nats [i])) → ∀ dd, H7 dd = none → E (.ref C0) (some dd) (upd H7 dd (.xd [("place", .ref pq)])) := fun hb H7 s7 pq hpq dd hdd => kb [i] (by rw [e, hb]) H7 pq dd s7 hpq hdd
        refine ⟨_, rfl, _, rfl, two_le, fun u hu => ?_⟩
        have s7 := Same.new (o := .tup [V.int q.1, V.int q.2]) hu
        have gu := upd_same (H := H6) (a := u) (o := .tup [V.int q.1, V.int q.2])
        have htk7 := s7 _ _ htk6
        have hln7 := s7 _ _ hln6
        have hP7 := hP6.mono (sameT s7)
        have s57 := s56.trans s7
        generalize upd H6 u (.tup [V.int q.1, V.int q.2]) = H7 at s7 gu htk7 hln7 hP7 s57
        have nu : u ≠ tk := ne_of gu htk7 (by intro z; cases z)
        refine ⟨u, rfl, ⟨_, SqT.of gu⟩, for_it (walk_tup (K := K) (a := u) (xs := [V.int q.1, V.int q.2])) (fun j σ H8 => ∃ (bs : List Bool) (v7 : Option V), σ = [some (.ref t), some (.int ((2 : Int) * (xs.length : Nat))), some (.ref tk), some (.ref ln), some (.int (i : Nat)), some (.int q.1), some (.int q.2), v7] ∧ Same H H8 ∧ H8 u = some (.tup [V.int q.1, V.int q.2]) ∧ H8 tk = some (.lst (bs.map V.bl)) ∧ bs.length = 2 * xs.length ∧ (∀ e, e < 2 * xs.length → bs[e]? = some ((met ++ [q.1.toNat, q.2.toNat].take j).contains e)) ∧ H8 ln = some (.lst (refs as)) ∧ PL H8 as (prsL (prs.take i)) ∧ (0 < j → bad (2 * xs.length) met q.1 = false) ∧ (1 < j → bad (2 * xs.length) met q.2 = false))
          ⟨bs, _, rfl, s57, gu, htk7, hbl, fun e he => by rw [hbs e he]; simp, hln7, hP7, fun h => by omega, fun h => by omega⟩ (fun j σ H8 _ ⟨_, _, _, _, h, _⟩ => SqT.of h) ?_ ?_⟩
        · rintro j z σ H8' H8 hj ⟨bs, v7, rfl, s8, gu8, htk8, hbl, hbs, hln8, hP8, j0, j1⟩ ⟨rfl, hz⟩
          have hj : j < 2 := hj
          obtain ⟨c, rfl, hc, hcl⟩ : ∃ c : Int, z = .int c ∧ (j = 0 ∧ c = q.1 ∨ j = 1 ∧ c = q.2) ∧ ∀ x, x = c.toNat → ((met ++ [q.1.toNat, q.2.toNat].take j).contains x = true → 0 ≤ c → (j = 1 → 0 ≤ q.1) → met.contains c.toNat = true) := by
            rcases (by omega : j = 0 ∨ j = 1) with rfl | rfl
            · cases hz
              exact ⟨q.1, rfl, .inl ⟨rfl, rfl⟩, fun x hx h _ _ => by rw [hx] at h; simpa using h⟩
            · cases hz
              refine ⟨q.2, rfl, .inr ⟨rfl, rfl⟩, fun x hx h h0 h1 => ?_⟩
              rw [hx] at h
              have h := List.contains_iff_mem.mp h
              rcases List.mem_append.mp h with h | h
              · exact List.contains_iff_mem.mpr h
              · have h : q.2.toNat ∈ [q.1.toNat] := h
                have := List.mem_singleton.mp h
                exact absurd (by have := h1 rfl; omega) hqn
          have hbel : belowV (.int c) ((2 : Int) * (xs.length : Nat)) = (decide (0 ≤ c) && decide (c < ((2 * xs.length : Nat) : Int))) := by rw [e2]; rfl
          have isbad : bad (2 * xs.length) met c = true → R0 = some i := fun h => by
            rcases hc with ⟨_, rfl⟩ | ⟨_, rfl⟩
            · rw [h, Bool.true_or, if_pos rfl] at hgo
              exact hgo.symm
            · rw [h, Bool.or_true, if_pos rfl] at hgo
              exact hgo.symm
          refine ⟨_, rfl, _, rfl, .int c, _, _, rfl, .int c, _, rfl, ?_⟩
          rw [hbel]
          have raise : ∀ (H9 : Hp), R0 = some i → Same H H9 → ∀ (p' : Addr), H9 p' = none → ∀ dd, (upd H9 p' (.tup [V.int (i : Nat)])) dd = none → E (.ref C0) (some dd) (upd (upd H9 p' (.tup [V.int (i : Nat)])) dd (.xd [("place", .ref p')])) := fun H9 hb s9 p' hp' dd hdd =>
            boom hb _ (s9.trans (Same.new hp')) p' upd_same dd hdd
          cases hb : (decide (0 ≤ c) && decide (c < ((2 * xs.length : Nat) : Int))) with
          | false =>
            have hR : R0 = some i := isbad (by unfold bad; rw [hb]; rfl)
            exact iteT (iteT ⟨_, rfl, by show 1 ≤ sizeLine; decide, fun p' hp' => ⟨_, rfl, .tup [i] (SqT.of upd_same) (by simp) (fun n hn => by rw [List.mem_singleton.mp hn]; omega), fun dd hdd => raise _ hR s8 p' hp' dd hdd⟩⟩)
          | true =>
            rw [Bool.and_eq_true, decide_eq_true_eq, decide_eq_true_eq] at hb
            obtain ⟨cn, rfl⟩ : ∃ cn : Nat, c = (cn : Nat) := ⟨c.toNat, by omega⟩
            have hcn : cn < 2 * xs.length := by omega
            have at1 : atI (bs.map V.bl) ((cn : Nat) : Int) = some (V.bl ((met ++ [q.1.toNat, q.2.toNat].take j).contains cn)) := at_of (j := cn) rfl (by rw [List.getElem?_map, hbs cn hcn]; rfl)
            refine iteF ⟨_, rfl, _, rfl, tk, _, _, _, rfl, rfl, SqL.of htk8, at1, _, rfl, ?_⟩
            refine ite2 (fun h1 => ?_) (fun h1 => ?_)
            · have hmc : met.contains cn = true := hcl cn (by omega) h1 hb.1 (fun h => by have := bad_not (j0 (by omega)); omega)
              have hR : R0 = some i := isbad (by
                unfold bad
                rw [show (((cn : Nat) : Int)).toNat = cn by omega, hmc, Bool.or_true])
              exact ⟨_, rfl, by show 1 ≤ sizeLine; decide, fun p' hp' => ⟨_, rfl, .tup [i] (SqT.of upd_same) (by simp) (fun n hn => by rw [List.mem_singleton.mp hn]; omega), fun dd hdd => raise _ hR s8 p' hp' dd hdd⟩⟩
            · have h1 := Bool.eq_false_iff.mpr h1
              have hmc : met.contains cn = false := by
                cases hx : met.contains cn with
                | false => rfl
                | true =>
                  have : (met ++ [q.1.toNat, q.2.toNat].take j).contains cn = true := List.contains_iff_mem.mpr (List.mem_append.mpr (.inl (List.contains_iff_mem.mp hx)))
                  rw [h1] at this
                  cases this
              have good : bad (2 * xs.length) met ((cn : Nat) : Int) = false := by
                unfold bad
                rw [show (((cn : Nat) : Int)).toNat = cn by omega, hmc, decide_eq_true hb.1, decide_eq_true hb.2]
                rfl
              have htj : [q.1.toNat, q.2.toNat].take (j + 1) = [q.1.toNat, q.2.toNat].take j ++ [cn] := by
                rcases hc with ⟨rfl, h⟩ | ⟨rfl, h⟩
                · rw [show cn = q.1.toNat by omega]
                  rfl
                · rw [show cn = q.2.toNat by omega]
                  rfl
              have setB : ∀ (r : List Bool) (j : Nat), (r.map V.bl).set j (V.bl true) = (r.set j true).map V.bl := fun r j => (List.map_set).symm
              refine ⟨_, rfl, _, rfl, tk, _, _, cn, rfl, rfl, htk8, ix_nat (by rw [List.length_map, hbl]; exact hcn), ?_⟩
              rw [setB]
              have k8 : ∀ b zs, H8 b = some (.tup zs) → (upd H8 tk (.lst ((bs.set cn true).map V.bl))) b = some (.tup zs) := fun b zs h => (upd_ne (ne_of h htk8 (by intro z; cases z))).trans h
              refine ⟨bs.set cn true, _, rfl, fun b o eo => (upd_ne (ntk eo)).trans (s8 _ _ eo), k8 _ _ gu8, upd_same, by rw [List.length_set]; exact hbl, fun e' he' => ?_, (upd_ne (Ne.symm ntl)).trans hln8, hP8.mono k8, fun h => ?_, fun h => ?_⟩
              · rw [htj, ← List.append_assoc]
                by_cases hec : e' = cn
                · subst hec
                  rw [List.getElem?_set_self (by rw [hbl]; exact hcn)]
                  congr 1
                  exact (List.contains_iff_mem.mpr (by simp)).symm
                · rw [List.getElem?_set_ne (fun z => hec z.symm), hbs e' he']
                  congr 1
                  rw [Bool.eq_iff_iff, List.contains_iff_mem, List.contains_iff_mem]
                  simp [hec]
              · rcases hc with ⟨rfl, hh⟩ | ⟨rfl, hh⟩
                · rw [← hh]
                  exact good
                · exact j0 (by decide)
              · rcases hc with ⟨rfl, h'⟩ | ⟨rfl, h'⟩
                · omega
                · rw [← h']
                  exact good
        · rintro σ H8 ⟨bs, v7, rfl, s8, gu8, htk8, hbl, hbs, hln8, hP8, j0, j1⟩
          have b1 := j0 (show 0 < 2 by decide)
          have b2 := j1 (show 1 < 2 by decide)
          obtain ⟨a0, a1, _⟩ := bad_not b1
          obtain ⟨c0, c1, _⟩ := bad_not b2
          rw [b1, b2, Bool.or_false, if_neg (by decide)] at hgo
          refine ⟨_, rfl, .inl ⟨rfl, _, SqL.of hln8⟩, _, rfl, _, rfl, q.1, q.2, rfl, _, rfl, _, rfl, q.1, q.2, rfl, two_le, fun c hc => ?_⟩
          have el : [V.int (if q.2 < q.1 then q.2 else q.1), V.int (if q.2 > q.1 then q.2 else q.1)] = [V.int ((low q.1.toNat q.2.toNat).1 : Nat), V.int ((low q.1.toNat q.2.toNat).2 : Nat)] := by
            unfold low
            by_cases h : q.2 < q.1
            · rw [if_pos h, if_neg (by omega), if_pos (by omega)]
              show [V.int q.2, V.int q.1] = [V.int ((q.2.toNat : Nat) : Int), V.int ((q.1.toNat : Nat) : Int)]
              rw [show ((q.2.toNat : Nat) : Int) = q.2 by omega, show ((q.1.toNat : Nat) : Int) = q.1 by omega]
            · rw [if_neg h, if_pos (by omega), if_neg (by omega)]
              show [V.int q.1, V.int q.2] = [V.int ((q.1.toNat : Nat) : Int), V.int ((q.2.toNat : Nat) : Int)]
              rw [show ((q.2.toNat : Nat) : Int) = q.2 by omega, show ((q.1.toNat : Nat) : Int) = q.1 by omega]
          have s9 := Same.new (o := .tup [V.int ((low q.1.toNat q.2.toNat).1 : Nat), V.int ((low q.1.toNat q.2.toNat).2 : Nat)]) hc
          have gc := upd_same (H := H8) (a := c) (o := .tup [V.int ((low q.1.toNat q.2.toNat).1 : Nat), V.int ((low q.1.toNat q.2.toNat).2 : Nat)])
          rw [el]
          generalize upd H8 c (.tup [V.int ((low q.1.toNat q.2.toNat).1 : Nat), V.int ((low q.1.toNat q.2.toNat).2 : Nat)]) = H9 at s9 gc
          have hln9 := s9 _ _ hln8
          have hP9 := hP8.mono (sameT s9)
          have k9 : ∀ b zs, H9 b = some (.tup zs) → (upd H9 ln (.lst (refs as ++ [V.ref c]))) b = some (.tup zs) := fun b zs h => (upd_ne (ne_of h hln9 (by intro z; cases z))).trans h
          have las : as.length = i := by
            rw [hP8.len]
            show ((prs.take i).map _).length = i
            rw [List.length_map, List.length_take]
            omega
          refine ⟨ln, refs as, _, rfl, rfl, hln9, small1000 (by rw [show (refs as).length = as.length from List.length_map _]; omega), ?_⟩
          refine ⟨as ++ [c], bs, met ++ [q.1.toNat, q.2.toNat], _, _, _, _, rfl, fun b o eo => (upd_ne (ne_of_none eo hln0)).trans (s9 _ _ (s8 _ _ eo)), (upd_ne ntl).trans (s9 _ _ htk8), hbl, hbs, by rw [upd_same, refs_app]; rfl, ?_, hgo⟩
          rw [List.take_succ, hq, Option.toList_some, show prsL (prs.take i ++ [q]) = prsL (prs.take i) ++ [low q.1.toNat q.2.toNat] from List.map_append]
          exact (hP9.mono k9).app (.cons (k9 _ _ gc) .nil)
      all_goals
        rintro σ H3 ⟨as, bs, met, v4, v5, v6, v7, rfl, s5, htk5, hbl, hbs, hln5, hP5, hgo⟩
        have hR : R0 = none := by
          rw [← hgo, show prs.drop xs.length = [] from List.drop_of_length_le (by omega)]
          rfl
        rw [show prs.take xs.length = prs by rw [← hpl, List.take_length]] at hP5
        have hL : Lines (xs.length / 2) (prsL prs) := dup_lines (by omega) (by rw [hpl, hR0]; exact hR) hneq
        rw [hR] at e
        have e : placeP d = open Classical in if Whole (xs.length / 2) (prsL prs) then none else some [xs.length] := e
        refine ⟨_, rfl, ?_⟩
        unfold tNil
        dsimp only
        refine rd_sorted (SqL.of hln5) hP5 fun bs' qs l2 hC hperm hle hl2 => ?_
        have s6 := Same.new (o := .lst (refs bs')) hl2
        refine .inl ⟨l2, _, rfl, SqL.of upd_same, fun tb htb => ?_⟩
        have s7 := Same.new (o := .tup (refs bs')) htb
        have gb := upd_same (H := upd H3 l2 (.lst (refs bs'))) (a := tb) (o := .tup (refs bs'))
        have hC7 := hC.mono (sameT (s6.trans s7))
        have s57 := s5.trans (s6.trans s7)
        generalize upd (upd H3 l2 (.lst (refs bs'))) tb (.tup (refs bs')) = H7 at gb hC7 s57
        have hlow : ∀ p ∈ prsL prs, p.1 ≤ p.2 := fun p hp => by
          obtain ⟨x, _, rfl⟩ := List.mem_map.mp hp
          exact low_le _ _
        refine ⟨.ref tb, rfl, fault_lines gb hC7 hL hlow (by omega) (by omega) hperm hle (fun hw H8 s8 => .inl ⟨rfl, ?_⟩) (fun hw H8 q' s8 hq' => .inr ⟨q', [2 * (xs.length / 2)], rfl, hq', by simp, fun n hn => by rw [List.mem_singleton.mp hn]; omega, fun dd hdd => ?_⟩)⟩
        · exact kg (by rw [e]; exact if_pos hw) prs hp H8 tb bs' qs (s57.trans s8) (s8 _ _ gb) (hC7.mono (sameT s8)) hperm hle
        · exact kb [xs.length] (by rw [e]; exact if_neg hw) H8 q' dd (s57.trans s8) (by rw [show xs.length = 2 * (xs.length / 2) by omega]; exact hq') hdd
end
end One
end P_YC

section P_M14
set_option linter.all false
/-! Labels run together line by line. -/
namespace One
structure Runs (n : Nat) (ps : List (Nat × Nat)) (t : List Nat) : Prop where
  len : t.length = n
  done : ∀ p ∈ ps, t.getD (p.1 / 4) 0 = t.getD (p.2 / 4) 0
  sound : ∀ P : Nat → Prop, (∀ p ∈ ps, P (p.1 / 4) ↔ P (p.2 / 4)) → ∀ i j, i < n → j < n → t.getD i 0 = t.getD j 0 → (P i ↔ P j)
theorem getD_range {n i : Nat} (h : i < n) : (List.range n).getD i 0 = i := by
  rw [List.getD_eq_getElem?_getD, List.getElem?_range h]
  rfl
theorem runs_start (n : Nat) : Runs n [] (List.range n) :=
  ⟨List.length_range, fun p h => absurd h (by simp), fun P _ i j hi hj e => by
    rw [getD_range hi, getD_range hj] at e
    rw [e]⟩
def run1 (t : List Nat) (p : Nat × Nat) : List Nat := t.map fun k => if k = t.getD (p.1 / 4) 0 then t.getD (p.2 / 4) 0 else k
theorem run1_get {t : List Nat} {p : Nat × Nat} {i : Nat} (h : i < t.length) : (run1 t p).getD i 0 = if t.getD i 0 = t.getD (p.1 / 4) 0 then t.getD (p.2 / 4) 0 else t.getD i 0 := by
  unfold run1
  rw [List.getD_eq_getElem?_getD, List.getElem?_map, List.getElem?_eq_getElem h]
  show (if t[i] = _ then _ else t[i]) = _
  have e : t.getD i 0 = t[i] := by
    rw [List.getD_eq_getElem?_getD, List.getElem?_eq_getElem h]
    rfl
  rw [e]
theorem runs_step {n : Nat} {ps : List (Nat × Nat)} {t : List Nat} {p : Nat × Nat} (r : Runs n ps t) (hlt : ∀ q ∈ ps ++ [p], q.1 < 4 * n ∧ q.2 < 4 * n) : Runs n (ps ++ [p]) (run1 t p) := by
  have hl : (run1 t p).length = n := by
    unfold run1
    rw [List.length_map]
    exact r.len
  have hp := hlt p (List.mem_append.mpr (.inr (List.mem_singleton.mpr rfl)))
  have a1 : p.1 / 4 < t.length := by rw [r.len]; omega
  have a2 : p.2 / 4 < t.length := by rw [r.len]; omega
  refine ⟨hl, fun q hq => ?_, fun P hP i j hi hj e => ?_⟩
  · rcases List.mem_append.mp hq with hq | hq
    · have b := hlt q (List.mem_append.mpr (.inl hq))
      rw [run1_get (by rw [r.len]; omega), run1_get (by rw [r.len]; omega), r.done q hq]
    · rw [List.mem_singleton.mp hq, run1_get a1, run1_get a2, if_pos rfl]
      split <;> rfl
  · have hP0 : ∀ q ∈ ps, P (q.1 / 4) ↔ P (q.2 / 4) := fun q hq => hP q (List.mem_append.mpr (.inl hq))
    have hPp := hP p (List.mem_append.mpr (.inr (List.mem_singleton.mpr rfl)))
    have s := r.sound P hP0
    rw [run1_get (by rw [r.len]; exact hi), run1_get (by rw [r.len]; exact hj)] at e
    by_cases h1 : t.getD i 0 = t.getD (p.1 / 4) 0
    · by_cases h2 : t.getD j 0 = t.getD (p.1 / 4) 0
      · exact s i j hi hj (h1.trans h2.symm)
      · rw [if_pos h1, if_neg h2] at e
        exact (s i _ hi (by omega) h1).trans (hPp.trans (s _ j (by omega) hj e))
    · by_cases h2 : t.getD j 0 = t.getD (p.1 / 4) 0
      · rw [if_neg h1, if_pos h2] at e
        exact (s i _ hi (by omega) e).trans (hPp.symm.trans (s j _ hj (by omega) h2).symm)
      · rw [if_neg h1, if_neg h2] at e
        exact s i j hi hj e
theorem runs_whole {n : Nat} {ps : List (Nat × Nat)} {t : List Nat} (hn : 0 < n) (r : Runs n ps t) : (∀ i, i < n → t.getD i 0 = t.getD 0 0) ↔ Whole n ps := by
  constructor
  · intro h P hP h0 c hc
    exact (r.sound P hP 0 c hn hc (h c hc).symm).mp h0
  · intro w i hi
    exact w (fun c => t.getD c 0 = t.getD 0 0) (fun p hp => by rw [r.done p hp]) rfl i hi
theorem count_all {t : List Nat} (x : Nat) : t.length = t.count x ↔ ∀ i, i < t.length → t.getD i 0 = x := by
  rw [eq_comm, List.count_eq_length]
  constructor
  · intro h i hi
    rw [List.getD_eq_getElem?_getD, List.getElem?_eq_getElem hi]
    exact (h _ (List.getElem_mem hi)).symm
  · intro h y hy
    obtain ⟨i, hi, e⟩ := List.mem_iff_getElem.mp hy
    have := h i hi
    rw [List.getD_eq_getElem?_getD, List.getElem?_eq_getElem hi] at this
    exact (this.symm.trans e)
end One
end P_M14

section P_W1
set_option linter.all false
set_option maxRecDepth 100000
set_option maxHeartbeats 8000000
namespace One
open PySem PySem.Spec PyProof.Rows L2
/-- what is walked either way -/
theorem pi_alt {X : Cx} {tg e : Expr} {w1 w2 : TI} (h1 : PI X tg e w1) (h2 : PI X tg e w2) : PI X tg e (fun σ H R => w1 σ H R ∨ w2 σ H R) :=
  ⟨fun pins s σ H R I h => h.elim (h1.run pins s σ H R I) (h2.run pins s σ H R I)⟩
abbrev sLWhole : Stmt := top 34
abbrev nLWhole : List Str := ["lines", "together", "one", "other", "old", "new", "k"]
theorem scLWhole : FnScope nLWhole ["lines"] (defScope sLWhole) := ⟨rfl, rfl, rfl, by decide +kernel, rfl, by decide +kernel, by decide +kernel⟩
def spLWhole (K : PySem.W.Frag) : Sp := fun vs H Q _ => ∃ (t : Addr) (n : Nat) (as : List Addr) (ps : List (Nat × Nat)), vs = [.ref t] ∧ H t = some (.tup (refs as)) ∧ PL H as ps ∧ 0 < n ∧ ps.length = 2 * n ∧ (∀ p ∈ ps, p.1 < 4 * n ∧ p.2 < 4 * n) ∧ n ≤ 100 ∧
  ∀ (H' : Hp) (b : Bool), Same H H' → (b = true ↔ Whole n ps) → Q (.bl b) H'
theorem nat_get {ns : List Nat} {i : Nat} (h : i < ns.length) : atI (nats ns) ((i : Nat) : Int) = some (V.int (ns.getD i 0 : Nat)) := by
  refine at_of (j := i) rfl ?_
  rw [List.getElem?_map, List.getElem?_eq_getElem h, List.getD_eq_getElem?_getD, List.getElem?_eq_getElem h]
  rfl
theorem nats_ints (ns : List Nat) : nats ns = (ns.map fun x => ((x : Nat) : Int)).map V.int := by
  rw [List.map_map]
  rfl
theorem count_cast (ns : List Nat) (x : Nat) : (ns.map fun x => ((x : Nat) : Int)).count ((x : Nat) : Int) = ns.count x := by
  rw [List.count_eq_countP, List.count_eq_countP, List.countP_map]
  refine List.countP_congr fun y _ => ?_
  simp only [Function.comp, beq_iff_eq]
  omega
section
variable {P : Program} {w : World} {K : PySem.W.Frag} {mg : Str → Option Value} {base : Heap}
theorem ok_lwhole {f : Addr} {fd : FuncData} (F : Fun K "_law_is_whole" "_law_is_whole" sLWhole f fd) (T : TB mg) : FnOk P w K mg base CX0 1 f fd ["lines"] (spLWhole K) := by
  refine F.ok scLWhole (fun vs H Q E h => ?_) (fun cdv A outer s H vs Q E hr h => ?_)
  · obtain ⟨t, n, as, ps, rfl, _⟩ := h
    rfl
  · obtain ⟨t, n, as, ps, rfl, ht, hP, hn0, hlen, hlt, hn, k⟩ := h
    have nd := scLWhole.nd
    refine ⟨_, pss_cons (ps_set (i := 1) nd rfl (Or.inl rfl) (pe_listRg (by rfl) (by rfl) T.list (prg_1 (by rfl) T.range (pe_op op_fdiv (pe_callB call_len_seq (by rfl) T.len PySem.boot_len (pa_cons (pv 0) pa_nil)) pe_int))))
      (pss_cons (ps_for PassesOwn.never rfl (pi_tup (pv 0)) (pg_tup rfl (pgs_cons (pg_name (i := 2) nd rfl (Or.inl rfl)) (pgs_cons (pg_name (i := 3) nd rfl (Or.inl rfl)) pgs_nil)))
        (pss_cons (ps_asg (pe_tup (pa_cons (pe_ix ix_list (pv 1) (pe_op op_fdiv (pv 2) pe_int) (fun _ _ => rfl)) (pa_cons (pe_ix ix_list (pv 1) (pe_op op_fdiv (pv 3) pe_int) (fun _ _ => rfl)) pa_nil))) (pg_tup rfl (pgs_cons (pg_name (i := 4) nd rfl (Or.inr rfl)) (pgs_cons (pg_name (i := 5) nd rfl (Or.inr rfl)) pgs_nil))))
        (pss_one (ps_setLc (i := 1) (own := [("k", 6)]) (g := gName 6) (tt := tYes) (te := tIf (tTest (tOp rEq (tVar 6) (tVar 4))) (tVar 5) (tVar 6)) rfl nd rfl rfl (sw_true rfl rfl rfl (by decide +kernel)) (pi_list (pv 1)) (blkOk_by (N := nLWhole) (sc := defScope sLWhole) (by decide +kernel))
          (fun _ _ _ _ _ => pg_name (i := 6) nd rfl (Or.inl rfl)) (fun _ _ _ _ _ => pts_nil) (fun _ _ _ _ _ => pe_ifExp (pt_cmpR op_eq (pv 6) (pv 4) (nomark _)) (pv 5) (pv 6))))))
      (pss_one (ps_ret (pe_cmpR op_eq (pe_callB call_len_seq (by rfl) T.len PySem.boot_len (pa_cons (pv 1) pa_nil)) (pe_bm PySem.F.plainAttrs_list PySem.F.slot_list_count PySem.F.type_list_count mt_lcount (pv 1) (pa_cons (pe_ix ix_list (pv 1) pe_int (fun _ _ => rfl)) pa_nil)) (nomark _))))), ?_⟩
    have nl : (refs as).length = 2 * n := by rw [List.length_map, hP.len, hlen]
    have e2 : (((refs as).length : Nat) : Int) / 2 = (n : Nat) := by rw [nl]; omega
    refine ⟨_, rfl, t, _, rfl, .inr (SqT.of ht), _, _, rfl, rfl, ⟨by decide, by decide⟩, n, (by show V.int ((((refs as).length : Nat) : Int) / 2) = _; rw [e2]), RgOk.of_le (Int.le_refl _) (by omega) (by omega) (by omega), fun lf hlf => ?_⟩
    rw [nats_range]
    have s1 := Same.new (o := .lst (nats (List.range n))) hlf
    refine ⟨_, rfl, t, rfl, ⟨_, SqT.of (s1 _ _ ht)⟩, for_it (walk_tup (K := K) (a := t) (xs := refs as)) (fun i σ H7 => ∃ (D : Addr) (r : List Nat) (v2 v3 v4 v5 : Option V), σ = [some (.ref t), some (.ref D), v2, v3, v4, v5, none] ∧ Same H H7 ∧ H7 D = some (.lst (nats r)) ∧ Runs n (ps.take i) r)
      ⟨lf, _, none, none, none, none, rfl, s1, upd_same, runs_start n⟩ (fun i σ H7 _ ⟨_, _, _, _, _, _, _, h, _⟩ => SqT.of (h _ _ ht)) ?_ ?_⟩
    · rintro i x σ H7' H7 hi ⟨D, r, v2, v3, v4, v5, rfl, s7, hD, hr7⟩ ⟨rfl, hx⟩
      have hx : (refs as)[i]? = some x := hx
      obtain ⟨a, ha⟩ : ∃ a, as[i]? = some a := by
        rw [List.getElem?_map] at hx
        cases e : as[i]? with
        | none =>
          rw [e] at hx
          cases hx
        | some a => exact ⟨a, rfl⟩
      rw [List.getElem?_map, ha] at hx
      cases hx
      obtain ⟨p, hp, pa⟩ := hP.got ha
      obtain ⟨q1, q2⟩ := hlt p (List.mem_of_getElem? hp)
      have pa7 := s7 _ _ pa
      have get : ∀ y : Nat, y < 4 * n → atI (nats r) (((y : Nat) : Int) / 4) = some (V.int (r.getD (y / 4) 0 : Nat)) := fun y hy => by
        rw [fdiv4]
        exact nat_get (by rw [hr7.len]; omega)
      refine ⟨a, _, rfl, SqT.of pa7, rfl, _, _, rfl, _, _, rfl, rfl, ?_⟩
      refine ⟨_, rfl, _, rfl, _, _, rfl, rfl, ⟨by decide, by decide⟩, D, _, _, _, rfl, rfl, SqL.of hD, get _ q1, _, rfl, _, rfl, _, _, rfl, rfl, ⟨by decide, by decide⟩, D, _, _, _, rfl, rfl, SqL.of hD, get _ q2, two_le, fun u hu => ?_⟩
      have su := Same.new (o := .tup [V.int (r.getD (p.1 / 4) 0 : Nat), V.int (r.getD (p.2 / 4) 0 : Nat)]) hu
      refine ⟨u, _, rfl, SqT.of upd_same, rfl, _, _, rfl, _, _, rfl, rfl, ?_⟩
      have hD8 := su _ _ hD
      refine ⟨_, rfl, D, rfl, ⟨_, SqL.of hD8⟩, fun D2 hD2 => ?_⟩
      have s8 := s7.trans su
      have nl2 : (nats r).length = r.length := List.length_map _
      refine lc_it (walk_list (K := K) (a := D) (xs := nats r)) (fun i H6 => H6 D2 = some (.lst (nats ((run1 r p).take i))) ∧ Same H H6 ∧ H6 D = some (.lst (nats r))) ⟨upd_same, s8.trans (Same.new hD2), (Same.new hD2) _ _ hD8⟩ (fun i H6 _ h => SqL.of h.2.2) ?_ ?_
      · rintro i x H6 H7 hi ⟨h6, s6, hD6⟩ ⟨rfl, hx⟩
        rw [nl2] at hi
        have er : r[i]? = some (r.getD i 0) := by
          rw [List.getD_eq_getElem?_getD, List.getElem?_eq_getElem hi]
          rfl
        have e1 : (run1 r p)[i]? = some ((run1 r p).getD i 0) := by
          have : i < (run1 r p).length := by unfold run1; rw [List.length_map]; exact hi
          rw [List.getD_eq_getElem?_getD, List.getElem?_eq_getElem this]
          rfl
        rw [List.getElem?_map, er] at hx
        cases hx
        have fin : ∀ v : Nat, v = (run1 r p).getD i 0 → ∃ acc, H7 D2 = some (.lst acc) ∧ acc.length < sizeLine ∧ (upd H7 D2 (.lst (acc ++ [V.int (v : Nat)]))) D2 = some (.lst (nats ((run1 r p).take (i + 1)))) ∧ Same H (upd H7 D2 (.lst (acc ++ [V.int (v : Nat)]))) ∧ (upd H7 D2 (.lst (acc ++ [V.int (v : Nat)]))) D = some (.lst (nats r)) := fun v hv => by
          refine ⟨_, h6, small1000 ?_, ?_, fun b o e => ?_, ?_⟩
          · rw [List.length_map, List.length_take]
            have := hr7.len
            omega
          · rw [upd_same, List.take_succ, e1, hv, Option.toList_some, nats_app]
            rfl
          · rw [upd_ne (ne_of_none (s8 _ _ e) hD2)]
            exact s6 _ _ e
          · rw [upd_ne (ne_of_none hD8 hD2)]
            exact hD6
        refine ⟨rfl, yes ⟨_, rfl, _, rfl, rfl, _, rfl, ?_⟩⟩
        by_cases q : r.getD i 0 = r.getD (p.1 / 4) 0
        · rw [decide_eq_true (by rw [q] : V.int (r.getD i 0 : Nat) = V.int (r.getD (p.1 / 4) 0 : Nat))]
          exact iteT ⟨_, rfl, fin _ (by rw [run1_get hi, if_pos q])⟩
        · rw [decide_eq_false (fun z => q (by have := V.int.inj z; omega) : ¬ V.int (r.getD i 0 : Nat) = V.int (r.getD (p.1 / 4) 0 : Nat))]
          exact iteF ⟨_, rfl, fin _ (by rw [run1_get hi, if_neg q])⟩
      · rintro H6 ⟨h6, s6, hD6⟩
        have hlr : (run1 r p).length = r.length := by unfold run1; rw [List.length_map]
        rw [nl2, ← hlr, List.take_length] at h6
        refine ⟨D2, run1 r p, _, _, _, _, rfl, s6, h6, ?_⟩
        rw [take_ends (H := H) hp]
        refine runs_step hr7 fun q hq => hlt q ?_
        rcases List.mem_append.mp hq with hq | hq
        · exact List.mem_of_mem_take hq
        · rw [List.mem_singleton.mp hq]
          exact List.mem_of_getElem? hp
    · rintro σ H7 ⟨D, r, v2, v3, v4, v5, rfl, s7, hD, hr7⟩
      rw [nl, ← hlen, List.take_length] at hr7
      have nl2 : (nats r).length = r.length := List.length_map _
      have h0 : 0 < r.length := by rw [hr7.len]; exact hn0
      refine ⟨_, rfl, D, _, rfl, .inl (SqL.of hD), _, rfl, .inl ⟨rfl, _, SqL.of hD⟩, _, rfl, D, _, 0, _, rfl, rfl, SqL.of hD, nat_get (i := 0) h0, ?_⟩
      refine ⟨D, _, _, rfl, rfl, (by rw [← nats_ints]; exact SqL.of hD), rfl, ?_⟩
      rw [count_cast, nl2]
      refine k _ _ s7 ?_
      rw [decide_eq_true_iff]
      have e : (V.int ((r.length : Nat) : Int) = V.int ((r.count (r.getD 0 0) : Nat) : Int)) ↔ r.length = r.count (r.getD 0 0) := ⟨fun z => by have := V.int.inj z; omega, fun z => by rw [← z]⟩
      rw [e, count_all, hr7.len]
      exact runs_whole hn0 hr7
end
end One
end P_W1

section P_PA
set_option linter.all false
set_option maxRecDepth 100000
set_option maxHeartbeats 16000000
namespace One
open PySem PySem.Spec PyProof.Rows L2
/-! ### lines and yards, told of data -/
def pairL (N : Nat) : PyData → PyData → Option (Nat × Nat)
  | .int a, .int b => if 0 ≤ a ∧ a < (N : Int) ∧ 0 ≤ b ∧ b < (N : Int) ∧ a < b then some (a.toNat, b.toNat) else none
  | _, _ => none
def twoL (N : Nat) : List PyData → Option (Nat × Nat)
  | [x, y] => pairL N x y
  | _ => none
def lineD (N : Nat) : PyData → Option (Nat × Nat)
  | .tuple ds => twoL N ds
  | _ => none
theorem DaAll.tvs {p l : Addr} {H : Hp} : ∀ {vs : List V} {ds : List PyData}, DaAll p l H vs ds → ∀ x ∈ vs, ∃ T, TV H x T
  | _, [], h, x, hx => by cases h; exact absurd hx (by simp)
  | _, d :: ds, h, x, hx => by
    cases h with
    | cons a b =>
      rcases List.mem_cons.mp hx with rfl | hx
      · exact a.tv
      · exact b.tvs x hx
/-- what is a line of data is one of the heap -/
theorem two_line {p l : Addr} {H : Hp} {N : Nat} {xs : List V} {ds : List PyData} (h : DaAll p l H xs ds) : (∀ q, twoL N ds = some q → xs = [.int (q.1 : Nat), .int (q.2 : Nat)] ∧ q.1 < q.2 ∧ q.2 < N) ∧ (twoL N ds = none → lineB xs (N : Nat) = false) := by
  match xs, ds, h with
  | [], [], _ => exact ⟨fun q e => (nomatch e), fun _ => rfl⟩
  | [_], [_], _ => exact ⟨fun q e => (nomatch e), fun _ => rfl⟩
  | _ :: _ :: _ :: _, _ :: _ :: _ :: _, _ => exact ⟨fun q e => (nomatch e), fun _ => rfl⟩
  | [x, y], [dx, dy], .cons hx (.cons hy .nil) =>
    have no : belowV x (N : Nat) = false ∨ belowV y (N : Nat) = false → lineB [x, y] (N : Nat) = false := fun h => by
      show (belowV x (N : Nat) && belowV y (N : Nat) && ltB x y) = false
      rcases h with h | h <;> rw [h] <;> simp
    cases hx with
    | int a =>
      cases hy with
      | int b =>
        have e : twoL N [.int a, .int b] = if 0 ≤ a ∧ a < (N : Int) ∧ 0 ≤ b ∧ b < (N : Int) ∧ a < b then some (a.toNat, b.toNat) else none := rfl
        have eb : lineB [.int a, .int b] (N : Nat) = ((decide (0 ≤ a) && decide (a < (N : Int))) && (decide (0 ≤ b) && decide (b < (N : Int))) && decide (a < b)) := rfl
        rw [e, eb]
        by_cases c : 0 ≤ a ∧ a < (N : Int) ∧ 0 ≤ b ∧ b < (N : Int) ∧ a < b
        · rw [if_pos c]
          refine ⟨fun q e => ?_, fun h => by cases h⟩
          cases e
          refine ⟨?_, by show a.toNat < b.toNat; omega, by show b.toNat < N; omega⟩
          show [V.int a, V.int b] = [V.int ((a.toNat : Nat) : Int), V.int ((b.toNat : Nat) : Int)]
          rw [show ((a.toNat : Nat) : Int) = a by omega, show ((b.toNat : Nat) : Int) = b by omega]
        · rw [if_neg c]
          refine ⟨fun q e => (nomatch e), fun _ => ?_⟩
          simp only [Bool.and_eq_false_iff, decide_eq_false_iff_not]
          omega
      | _ => exact ⟨fun q e => (nomatch e), fun _ => no (.inr rfl)⟩
    | _ => exact ⟨fun q e => (nomatch e), fun _ => no (.inl rfl)⟩
theorem il_da {p l : Addr} {H : Hp} {N : Nat} : ∀ {ds : List PyData} {xs : List V}, DaAll p l H xs ds → IL H N xs (ds.map (lineD N))
  | [], _, h => by cases h; exact .nil
  | d :: ds, _, h => by
    cases h with
    | cons a b =>
      have r := il_da (N := N) b
      cases a with
      | @tup t xs ds' a1 a2 f g =>
        obtain ⟨t1, t2⟩ := two_line (N := N) g
        show IL H N _ (twoL N ds' :: _)
        cases e : twoL N ds' with
        | some q =>
          obtain ⟨e1, e2, e3⟩ := t1 q e
          rw [e1] at f
          exact .line f e2 e3 r
        | none => exact .tup f g.tvs (t2 e) r
      | non => exact .flat .non (by decide) r
      | bl b => exact .flat (.bl b) (by decide) r
      | int i => exact .flat (.int i) (by decide) r
      | str x => exact .flat (.str x) (by decide) r
      | lst a b c f g => exact .flat (.lst f) (by decide) r
      | emp a b f => exact .flat (.dct f) (by decide) r
open Classical in
noncomputable def placeY : PyData → Option (List Nat)
  | .tuple ds => if canBe (ds.length : Nat) then
      match goF 0 [] none (ds.map (lineD (2 * ds.length))) with
      | some k => some [k]
      | none => if Whole (ds.length / 2) ((ds.map (lineD (2 * ds.length))).filterMap id) then none else some [ds.length]
    else some []
  | _ => some []
theorem fault_da {p l : Addr} {H : Hp} {v : V} {d : PyData} {Q : VK} {E : XK} (h : Da p l H v d) (good : placeY d = none → ∀ H', Same H H' → Q .non H') (bad : ∀ pl, placeY d = some pl → ∀ (H' : Hp) (q : Addr), Same H H' → H' q = some (.tup (nats pl)) → Q (.ref q) H') : spFault [v] H Q E := by
  have flat : ∀ {T : String}, TV H v T → isTup T = false → placeY d = some [] → spFault [v] H Q E := fun ht hT e => ⟨_, rfl, .inl ⟨.inl ⟨_, ht, hT⟩, fun H' q s hq => bad _ e H' q s hq⟩⟩
  cases h with
  | non => exact flat .non (by decide) rfl
  | bl b => exact flat (.bl b) (by decide) rfl
  | int i => exact flat (.int i) (by decide) rfl
  | str x => exact flat (.str x) (by decide) rfl
  | lst a b c f g => exact flat (.lst f) (by decide) rfl
  | emp a b f => exact flat (.dct f) (by decide) rfl
  | @tup t xs ds a1 a2 f g =>
    have hl := g.len
    have e : placeY (.tuple ds) = if canBe (ds.length : Nat) then
      match goF 0 [] none (ds.map (lineD (2 * ds.length))) with
      | some k => some [k]
      | none => open Classical in if Whole (ds.length / 2) ((ds.map (lineD (2 * ds.length))).filterMap id) then none else some [ds.length]
      else some [] := rfl
    cases hc : canBe (ds.length : Nat) with
    | false =>
      refine ⟨_, rfl, .inl ⟨.inr ⟨t, xs, rfl, f, by rw [hl]; exact hc⟩, fun H' q s hq => bad [] ?_ H' q s hq⟩⟩
      rw [e, hc]
      rfl
    | true =>
      rw [hc, if_pos rfl] at e
      refine ⟨_, rfl, .inr ⟨t, xs, ds.map (lineD (2 * ds.length)), rfl, f, by rw [hl]; exact hc, by rw [hl]; exact il_da g, fun k hk H' q s hq => bad [k] ?_ H' q s hq, fun hn ps hps => ⟨fun hw H' s => good ?_ H' s, fun hw H' q s hq => bad [ds.length] ?_ H' q s (by rw [← hl]; exact hq)⟩⟩⟩
      · rw [e, hk]
      · rw [e, hn]
        refine if_pos ?_
        rw [hps, List.filterMap_map]
        rw [hl] at hw
        simpa using hw
      · rw [e, hn]
        refine if_neg ?_
        rw [hps, List.filterMap_map]
        rw [hl] at hw
        simpa using hw
end One
end P_PA

section P_PB
set_option linter.all false
set_option maxRecDepth 100000
set_option maxHeartbeats 16000000
namespace One
open PySem PySem.Spec PyProof.Rows L2
section
variable {X : Cx}
theorem op_notIn_rngC : OpR X (compareOp .NotIn) (fun x y H Q => ∃ i a lo hi c, x = V.int i ∧ y = V.ref a ∧ H a = some (RngO a lo hi c) ∧ Q (.bl (!(Builtin.Range.rangePlace? lo hi c i).isSome)) H) := by
  intro pins s σ H x y v u Q I rx ry h
  obtain ⟨i, a, lo, hi, c, rfl, rfl, ha, q⟩ := h
  obtain ⟨k, rfl⟩ := rx
  obtain rfl : u = Value.ref a := ry
  obtain ⟨⟨t1, t2, t3, ho⟩, _, _⟩ := I.hok a _ ha
  refine (show wpAny _ _ (do return Value.bool (!(← contains (Value.ref a) (Value.int i k)))) _ _ s from ?_)
  exact wpAny_bind (wpAny_contains_slot (T := "range") ⟨_, ho, rfl⟩ F.slot_range_contains (call_meets F.slot_range_contains ⟨_, ho, rfl⟩ F.entry_range_contains (F.args_range_contains_2 _ _) (rng_has a lo hi c i t1 t2 t3 k)
    ⟨ho, wpAny_truthy_bool (wpAny_pure ⟨.bl _, H, I, rfl, q⟩)⟩))
end
theorem rng_can {n : Int} : (Builtin.Range.rangePlace? 2 81 2 n).isSome = canBe n := by
  unfold Builtin.Range.rangePlace? canBe
  rw [Bool.eq_iff_iff]
  simp only [show (2 : Int) > 0 from by decide, if_true, Bool.and_eq_true, decide_eq_true_eq, beq_iff_eq]
  constructor
  · intro q
    split at q
    · omega
    · cases q
  · intro q
    rw [if_pos (by omega)]
    rfl
end One
end P_PB

section P_PC
set_option linter.all false
set_option maxRecDepth 100000
set_option maxHeartbeats 16000000
namespace One
open PySem PySem.Spec PyProof.Rows L2
theorem in_met (a : Nat) : ∀ met : List Nat, inV (V.int (a : Nat)) (nats met) = met.contains a
  | [] => rfl
  | b :: met => by
    have ih := in_met a met
    show (eqV (V.int ((b : Nat) : Int)) (V.int ((a : Nat) : Int)) || inV (V.int (a : Nat)) (nats met)) = _
    rw [ih, List.contains_cons]
    have e : eqV (V.int ((b : Nat) : Int)) (V.int ((a : Nat) : Int)) = (a == b) := by
      rw [Bool.eq_iff_iff, beq_iff_eq]
      unfold eqV
      simp
      omega
    rw [e]
theorem flat_nats (met : List Nat) : (nats met).all flatV = true := by
  induction met with
  | nil => rfl
  | cons b met ih => exact ih
end One
end P_PC

section P_YD
set_option linter.all false
set_option maxRecDepth 100000
set_option maxHeartbeats 16000000
namespace One
open PySem PySem.Spec PyProof.Rows L2
abbrev sIp : Stmt := top 37
abbrev nIp : List Str := ["thing", "some", "one"]
theorem scIp : FnScope nIp ["thing"] (defScope sIp) := ⟨rfl, rfl, rfl, by decide +kernel, rfl, by decide +kernel, by decide +kernel⟩
def allI (xs : List V) : Bool := xs.all isI
theorem pair2_all {p l : Addr} {H : Hp} {x y : V} {dx dy : PyData} (hx : Da p l H x dx) (hy : Da p l H y dy) : (isI x = true ∧ isI y = true → (pair2 [dx, dy]).isSome = !decide (x = y)) ∧ (isI x = false ∨ isI y = false → pair2 [dx, dy] = none) := by
  cases hx with
  | int i =>
    cases hy with
    | int j =>
      refine ⟨fun _ => ?_, fun h => by rcases h with h | h <;> cases h⟩
      show (if i = j then none else some (i, j)).isSome = _
      by_cases q : i = j
      · rw [if_pos q, decide_eq_true (by rw [q])]
        rfl
      · rw [if_neg q, decide_eq_false (fun z => q (V.int.inj z))]
        rfl
    | _ => exact ⟨fun h => Bool.noConfusion (show false = true from h.2), fun _ => rfl⟩
  | _ => exact ⟨fun h => Bool.noConfusion (show false = true from h.1), fun _ => rfl⟩
theorem pair2_len {ds : List PyData} (h : ds.length ≠ 2) : pair2 ds = none := by
  match ds, h with
  | [], _ => rfl
  | [a], _ => cases a <;> rfl
  | [_, _], h => exact absurd rfl h
  | a :: b :: c :: r, _ => cases a <;> first | rfl | (cases b <;> rfl)
section
variable {P : Program} {w : World} {K : PySem.W.Frag} {mg : Str → Option Value} {base : Heap}
theorem ok_ip {f : Addr} {fd : FuncData} (F : Fun K "_law_is_pair" "_law_is_pair" sIp f fd) (T : TB mg) : FnOk P w K mg base CX0 1 f fd ["thing"] spLl := by
  refine F.ok scIp (fun vs H Q E h => ?_) (fun cdv A outer s H vs Q E hr h => ?_)
  · obtain ⟨v, p, l, d, rfl, _⟩ := h
    rfl
  · obtain ⟨v, p, l, d, rfl, hd, k⟩ := h
    have nd := scIp.nd
    have hu : (A.deeper (envOfC "_law_is_pair" (defScope sIp) s.heap.objs.size f cdv)).units + 64 < cLine := hr.units
    refine ⟨_, pss_cons (ps_if (pt_mid (PW.pt (pw_or (PW.pt (pw_and (pt_not (pt_val (pe_callB call_isi (by rfl) T.isinstance boot_isinstance (pa_cons (pv 0) (pa_cons (pe_bltn (v := .ty "list") (by rfl) T.list (by decide +kernel) rfl) pa_nil))))) (pw_and1 (pt_not (pt_val (pe_callB call_isi (by rfl) T.isinstance boot_isinstance (pa_cons (pv 0) (pa_cons (pe_bltn (v := .ty "tuple") (by rfl) T.tuple boot_tuple rfl) pa_nil)))))))) (pw_or1 (pt_cmpR op_ne (pe_callB call_len_seq (by rfl) T.len PySem.boot_len (pa_cons (pv 0) pa_nil)) pe_int (nomark _)))))) (pss_one (ps_ret pe_bl)) pss_nil)
      (pss_cons (ps_setLc (i := 1) (own := [("one", 2)]) (g := (gName 2)) (tt := (tOr (tNot (tB (tCB (rIsi K) (tCons (tVar 2) (tCons (tC (.ty "int")) tNil))))) (tB (tCB (rIsi K) (tCons (tVar 2) (tCons (tC (.ty "bool")) tNil)))))) (te := (tVar 2)) rfl nd rfl rfl (sw_true rfl rfl rfl (by decide +kernel)) (pi_alt2 (pi_list (pv 0)) (pi_tup (pv 0))) (blkOk_by (N := nIp) (sc := defScope sIp) (by decide +kernel)) (fun _ _ _ _ _ => pg_name (i := 2) nd rfl (Or.inl rfl)) (fun _ _ _ _ _ => pts_one (PW.pt (pw_or (pt_not (pt_val (pe_callB call_isi (by rfl) T.isinstance boot_isinstance (pa_cons (pv 2) (pa_cons (pe_bltn (v := .ty "int") (by rfl) T.int PyProof.Rows.boot_int rfl) pa_nil))))) (pw_or1 (pt_val (pe_callB call_isi (by rfl) T.isinstance boot_isinstance (pa_cons (pv 2) (pa_cons (pe_bltn (v := .ty "bool") (by rfl) T.bool (by decide +kernel) rfl) pa_nil)))))))) (fun _ _ _ _ _ => by exact (pv 2)))
      (pss_one (ps_ret (pe_and (pe_cmpR (op_eqNil (by exact hu)) (pv 1) (pe_lst pa_nil) (nomark _)) (pe_one (pe_cmpR op_ne (pe_alt2 (pe_ix ix_list (pv 0) pe_int (fun _ _ => rfl)) (pe_ix ix_tup (pv 0) pe_int (fun _ _ => rfl))) (pe_alt2 (pe_ix ix_list (pv 0) pe_int (fun _ _ => rfl)) (pe_ix ix_tup (pv 0) pe_int (fun _ _ => rfl))) (nomark _))))))), ?_⟩
    rcases seq_kind hd with ⟨t, xs, ds, T', rfl, ht, hi, hds, hv, hT⟩ | ⟨hi, T', hv, hT⟩
    · have e : pairD d = pair2 ds := by unfold pairD; rw [hi]; rfl
      have hle := hds.len
      refine ⟨fun b H1 => b = decide (xs.length ≠ 2) ∧ H1 = H, ?_, ?_⟩
      · have rest : ∀ {R : Bool → Hp → Prop}, R (decide (xs.length ≠ 2)) H → tTest (tOp rNe (tCB (rLen K) (tCons (tVar 0) tNil)) (tC (.int 2))) [some (.ref t), none, none] H R := fun {R} hR => by
          refine ⟨_, rfl, t, _, rfl, seq_of ht, rfl, _, rfl, ?_⟩
          have e2 : (!decide (V.int ((xs.length : Nat) : Int) = V.int 2)) = decide (xs.length ≠ 2) := by
            by_cases q : xs.length = 2
            · rw [decide_eq_true (by rw [q]; rfl), decide_eq_false (fun z => z q)]
              rfl
            · rw [decide_eq_false (fun z => q (by have := V.int.inj z; omega)), decide_eq_true q]
              rfl
          rw [e2]
          exact hR
        rcases ht with ht | ht
        · refine ⟨_, rfl, _, _, _, _, _, rfl, .ty _, (TV.lst ht).tyx, (TV.lst ht).kLst, _, rfl, ?_⟩
          exact iteF (rest ⟨rfl, rfl⟩)
        · refine ⟨_, rfl, _, _, _, _, _, rfl, .ty _, (TV.tup ht).tyx, (TV.tup ht).kLst, _, rfl, ?_⟩
          refine iteT ⟨_, rfl, _, _, _, _, _, rfl, .ty _, (TV.tup ht).tyx, (TV.tup ht).kTup, _, rfl, ?_⟩
          exact iteF (rest ⟨rfl, rfl⟩)
      · rintro b H1 ⟨rfl, rfl⟩
        have hk := k H1 (Same.refl H1)
        rw [e] at hk
        by_cases h2 : xs.length = 2
        · rw [decide_eq_false (fun z => z h2)]
          refine iteF ?_
          match xs, ds, hds, h2, ht with
          | [x, y], [dx, dy], .cons hx (.cons hy .nil), _, ht =>
            obtain ⟨pt, pf⟩ := pair2_all hx hy
            have step : ∀ (D : Addr) (j : Nat) (z : V) (H4 : Hp), H1 D = none → j < 2 → [x, y][j]? = some z → (∃ zs, H4 D = some (.lst zs) ∧ zs.length ≤ j ∧ (zs.length = 0 ↔ ([x, y].take j).all isI = true)) ∧ Same H1 H4 →
                ∀ R : Hp → Prop, (∀ H5 : Hp, (∃ zs, H5 D = some (.lst zs) ∧ zs.length ≤ j + 1 ∧ (zs.length = 0 ↔ ([x, y].take (j + 1)).all isI = true)) ∧ Same H1 H5 → R H5) →
                tOr (tNot (tB (tCB (rIsi K) (tCons (tVar 2) (tCons (tC (.ty "int")) tNil))))) (tB (tCB (rIsi K) (tCons (tVar 2) (tCons (tC (.ty "bool")) tNil)))) [some (.ref t), none, some z] H4 fun b H5 => if b = true then tVar 2 [some (.ref t), none, some z] H5 fun y' H6 => ∃ acc, H6 D = some (.lst acc) ∧ acc.length < sizeLine ∧ R (upd H6 D (.lst (acc ++ [y']))) else R H5 := fun D j z H4 hD hj hz ⟨⟨zs, h4, l4, z4⟩, s4⟩ R hR => by
              obtain ⟨dz, hdz⟩ : ∃ dz, Da p l H1 z dz := by
                rcases (by omega : j = 0 ∨ j = 1) with rfl | rfl
                · cases hz; exact ⟨dx, hx⟩
                · cases hz; exact ⟨dy, hy⟩
              obtain ⟨Tz, vz⟩ := (Da.extT (ExtT.ofS s4) _ _ hdz).tv
              obtain ⟨b, kb, g1, g2⟩ := vz.kInt (K := K)
              have tk : ([x, y].take (j + 1)).all isI = (([x, y].take j).all isI && isI z) := by
                rw [List.take_succ, hz, Option.toList_some, List.all_append]
                congr 1
                exact Bool.and_true _
              have yes' : isI z = false → ∃ acc, H4 D = some (.lst acc) ∧ acc.length < sizeLine ∧ R (upd H4 D (.lst (acc ++ [z]))) := fun h => ⟨zs, h4, small1000 (by omega), hR _ ⟨⟨zs ++ [z], upd_same, by rw [List.length_append]; show zs.length + 1 ≤ _; omega, by rw [tk, h, Bool.and_false, List.length_append]; exact ⟨fun q => by simp at q, fun q => by cases q⟩⟩, fun b o eo => (upd_ne (ne_of_none eo hD)).trans (s4 _ _ eo)⟩⟩
              refine ⟨_, rfl, _, _, _, _, _, rfl, .ty _, vz.tyx, kb, _, rfl, ?_⟩
              cases b with
              | false => exact iteT (iteT ⟨_, rfl, yes' (g2 rfl)⟩)
              | true =>
                obtain ⟨b2, kb2, e2⟩ := g1 rfl
                refine iteF ⟨_, rfl, _, _, _, _, _, rfl, .ty _, vz.tyx, kb2, _, rfl, ?_⟩
                cases b2 with
                | true => exact iteT ⟨_, rfl, yes' e2⟩
                | false => exact iteF (hR _ ⟨⟨zs, h4, by omega, by rw [tk, e2]; simpa using z4⟩, s4⟩)
            rcases ht with ht | ht
            · refine .inl ⟨_, rfl, t, rfl, ⟨_, SqL.of ht⟩, fun D hD => ?_⟩
              refine lc_it (walk_list (K := K) (a := t) (xs := [x, y])) (fun j H4 => (∃ zs, H4 D = some (.lst zs) ∧ zs.length ≤ j ∧ (zs.length = 0 ↔ ([x, y].take j).all isI = true)) ∧ Same H1 H4) ⟨⟨[], upd_same, Nat.le_refl _, by simp⟩, Same.new hD⟩ (fun j H4 _ h => SqL.of (h.2 _ _ ht)) ?_ ?_
              · rintro j z H4' H4 hj h ⟨rfl, hz⟩
                exact ⟨rfl, step D j z _ hD hj hz h _ fun _ q => q⟩
              · rintro H4 ⟨⟨zs, h4, l4, z4⟩, s4⟩
                refine ⟨_, rfl, Nat.zero_le _, fun m hm => ?_⟩
                have s5 := Same.new (o := .lst []) hm
                refine ⟨D, m, zs, rfl, rfl, SqL.of (s5 _ _ h4), upd_same, _, rfl, ?_⟩
                have s45 := s4.trans s5
                have hk5 := k _ s45
                rw [e] at hk5
                have z4 : zs.length = 0 ↔ (isI x && (isI y && true)) = true := z4
                refine ite2 (fun q => ?_) (fun q => ?_)
                · have q : zs.length = 0 := of_decide_eq_true q
                  have q2 := z4.mp q
                  rw [Bool.and_true, Bool.and_eq_true] at q2
                  refine .inl ⟨_, rfl, t, [x, y], 0, x, rfl, rfl, SqL.of (s45 _ _ ht), rfl, .inl ⟨_, rfl, t, [x, y], 1, y, rfl, rfl, SqL.of (s45 _ _ ht), rfl, ?_⟩⟩
                  rw [pt q2] at hk5
                  refine ⟨?_, hk5⟩
                  cases x with
                  | int i =>
                    cases y with
                    | int j => rfl
                    | _ => exact absurd q2.2 (by intro z; cases z)
                  | _ => exact absurd q2.1 (by intro z; cases z)
                · have q : ¬ zs.length = 0 := fun z => q (decide_eq_true z)
                  have q2 : isI x = false ∨ isI y = false := by
                    cases hx' : isI x with
                    | false => exact .inl rfl
                    | true =>
                      cases hy' : isI y with
                      | false => exact .inr rfl
                      | true => exact absurd (z4.mpr (by rw [hx', hy']; rfl)) q
                  rw [pf q2] at hk5
                  exact hk5
            · refine .inr ⟨_, rfl, t, rfl, ⟨_, SqT.of ht⟩, fun D hD => ?_⟩
              refine lc_it (walk_tup (K := K) (a := t) (xs := [x, y])) (fun j H4 => (∃ zs, H4 D = some (.lst zs) ∧ zs.length ≤ j ∧ (zs.length = 0 ↔ ([x, y].take j).all isI = true)) ∧ Same H1 H4) ⟨⟨[], upd_same, Nat.le_refl _, by simp⟩, Same.new hD⟩ (fun j H4 _ h => SqT.of (h.2 _ _ ht)) ?_ ?_
              · rintro j z H4' H4 hj h ⟨rfl, hz⟩
                exact ⟨rfl, step D j z _ hD hj hz h _ fun _ q => q⟩
              · rintro H4 ⟨⟨zs, h4, l4, z4⟩, s4⟩
                refine ⟨_, rfl, Nat.zero_le _, fun m hm => ?_⟩
                have s5 := Same.new (o := .lst []) hm
                refine ⟨D, m, zs, rfl, rfl, SqL.of (s5 _ _ h4), upd_same, _, rfl, ?_⟩
                have s45 := s4.trans s5
                have hk5 := k _ s45
                rw [e] at hk5
                have z4 : zs.length = 0 ↔ (isI x && (isI y && true)) = true := z4
                refine ite2 (fun q => ?_) (fun q => ?_)
                · have q : zs.length = 0 := of_decide_eq_true q
                  have q2 := z4.mp q
                  rw [Bool.and_true, Bool.and_eq_true] at q2
                  refine .inr ⟨_, rfl, t, [x, y], 0, x, rfl, rfl, SqT.of (s45 _ _ ht), rfl, .inr ⟨_, rfl, t, [x, y], 1, y, rfl, rfl, SqT.of (s45 _ _ ht), rfl, ?_⟩⟩
                  rw [pt q2] at hk5
                  refine ⟨?_, hk5⟩
                  cases x with
                  | int i =>
                    cases y with
                    | int j => rfl
                    | _ => exact absurd q2.2 (by intro z; cases z)
                  | _ => exact absurd q2.1 (by intro z; cases z)
                · have q : ¬ zs.length = 0 := fun z => q (decide_eq_true z)
                  have q2 : isI x = false ∨ isI y = false := by
                    cases hx' : isI x with
                    | false => exact .inl rfl
                    | true =>
                      cases hy' : isI y with
                      | false => exact .inr rfl
                      | true => exact absurd (z4.mpr (by rw [hx', hy']; rfl)) q
                  rw [pf q2] at hk5
                  exact hk5
        · rw [decide_eq_true h2]
          rw [pair2_len (by rw [← hle]; exact h2)] at hk
          exact iteT hk
    · have hk := k H (Same.refl H)
      have e : pairD d = none := by unfold pairD; rw [hi]; rfl
      rw [e] at hk
      rw [Bool.or_eq_false_iff] at hT
      refine ⟨fun b H1 => b = true ∧ H1 = H, ?_, ?_⟩
      · refine ⟨_, rfl, _, _, _, _, _, rfl, .ty _, hv.tyx, hv.kLst, _, rfl, ?_⟩
        rw [hT.1]
        refine iteT ⟨_, rfl, _, _, _, _, _, rfl, .ty _, hv.tyx, hv.kTup, _, rfl, ?_⟩
        rw [hT.2]
        exact iteT ⟨rfl, rfl⟩
      · rintro b H1 ⟨rfl, rfl⟩
        exact iteT hk
end
end One
end P_YD

section P_YE
set_option linter.all false
set_option maxRecDepth 100000
set_option maxHeartbeats 16000000
namespace One
open PySem PySem.Spec PyProof.Rows L2
abbrev sDu : Stmt := top 38
abbrev nDu : List Str := ["things", "met", "number", "pair", "end", "yard", "one"]
theorem scDu : FnScope nDu ["things"] (defScope sDu) := ⟨rfl, rfl, rfl, by decide +kernel, rfl, by decide +kernel, by decide +kernel⟩
def spDu : Sp := fun vs H Q _ => ∃ (v : V) (p l : Addr) (d : PyData), vs = [v] ∧ Da p l H v d ∧ (∀ pl, placeP d = some pl → ∀ (H' : Hp) (L z : Addr), Same H H' → H' L = some (.lst [.ref z]) → H' z = some (.tup (nats pl)) → Q (.ref L) H') ∧
  (placeP d = none → ∀ prs, pairsD d = some prs → ∀ (H' : Hp) (t : Addr) (as : List Addr) (qs : List (Nat × Nat)), Same H H' → H' t = some (.tup (refs as)) → PL H' as qs → qs.Perm (prsL prs) → qs.Pairwise leP → Q (.ref t) H')
theorem dup_nneg {N : Nat} : ∀ {prs : List (Int × Int)} {k : Nat} {met : List Nat}, dupF N k met prs = none → ∀ q ∈ prs, 0 ≤ q.1 ∧ 0 ≤ q.2
  | [], _, _, _, q, hq => absurd hq (by simp)
  | p :: r, k, met, h, q, hq => by
    have h : (if bad N met p.1 || bad N met p.2 then some k else dupF N (k + 1) (met ++ [p.1.toNat, p.2.toNat]) r) = none := h
    split at h
    · cases h
    · rename_i hb
      rw [Bool.or_eq_true, not_or, Bool.not_eq_true, Bool.not_eq_true] at hb
      rcases List.mem_cons.mp hq with rfl | hq
      · exact ⟨(bad_not hb.1).1, (bad_not hb.2).1⟩
      · exact dup_nneg h q hq
/-- a walk over a list or a tuple, either way the same -/
theorem alt_seq {K : PySem.W.Frag} {H0 H : Hp} {t : Addr} {xs : List V} {σ : L2.St} {i : Nat} {R : It → Hp → Prop} (ht : H0 t = some (.lst xs) ∨ H0 t = some (.tup xs)) (s : Same H0 H) (hi : σ[i]? = some (some (.ref t)))
    (k : ∀ (J : It) (G : Hp → Prop), Walk J xs.length G (L2.YAt xs) → (∀ H', Same H0 H' → G H') → R J H) : iList K (tVar i) σ H R ∨ iTup K (tVar i) σ H R := by
  rcases ht with ht | ht
  · exact .inl ⟨_, hi, t, rfl, ⟨_, SqL.of (s _ _ ht)⟩, k _ _ (walk_list (K := K) (a := t) (xs := xs)) fun H' s' => SqL.of (s' _ _ ht)⟩
  · exact .inr ⟨_, hi, t, rfl, ⟨_, SqT.of (s _ _ ht)⟩, k _ _ (walk_tup (K := K) (a := t) (xs := xs)) fun H' s' => SqT.of (s' _ _ ht)⟩
theorem alt_enum {K : PySem.W.Frag} {H0 H : Hp} {t : Addr} {xs : List V} {σ : L2.St} {i : Nat} {R : It → Hp → Prop} (ht : H0 t = some (.lst xs) ∨ H0 t = some (.tup xs)) (s : Same H0 H) (hi : σ[i]? = some (some (.ref t)))
    (k : ∀ (J : It) (G : Hp → Prop), Walk J xs.length G (YPair (fun i => some (.int (i : Nat))) (fun i => xs[i]?)) → (∀ H', Same H0 H' → G H') → R J H) : iEnum K (tCons (tVar i) tNil) σ H R ∨ iEnumT K (tCons (tVar i) tNil) σ H R := by
  rcases ht with ht | ht
  · exact .inl ⟨_, hi, t, _, rfl, SqL.of (s _ _ ht), k _ _ (walk_enum (K := K) (a := t) (xs := xs)) fun H' s' => SqL.of (s' _ _ ht)⟩
  · exact .inr ⟨_, hi, t, _, rfl, SqT.of (s _ _ ht), k _ _ (walk_enumT (K := K) (a := t) (xs := xs)) fun H' s' => SqT.of (s' _ _ ht)⟩
theorem pairs_iff {d : PyData} {ds : List PyData} (h : itemsD d = some ds) : (pairsD d).isSome = (canBe (ds.length : Nat) && ds.all fun e => (pairD e).isSome) := by
  unfold pairsD
  rw [h]
  show (if canBe (ds.length : Nat) && ds.all (fun e => (pairD e).isSome) then some (ds.filterMap pairD) else none).isSome = _
  cases canBe (ds.length : Nat) && ds.all (fun e => (pairD e).isSome) <;> rfl
section
variable {P : Program} {w : World} {K : PySem.W.Frag} {mg : Str → Option Value} {base : Heap}
theorem ok_du {f fP fW : Addr} {fd dP dW : FuncData} (F : Fun K "_law_due" "_law_due" sDu f fd) (T : TB mg) (Pr : Cal K mg "_law_is_pair" fP dP ["thing"]) (GP : FnOk P w K mg base CX0 1 fP dP ["thing"] spLl) (W : Cal K mg "_law_is_whole" fW dW ["lines"]) (GW : FnOk P w K mg base CX0 1 fW dW ["lines"] (spLWhole K)) : FnOk P w K mg base CX0 2 f fd ["things"] spDu := by
  refine F.ok scDu (fun vs H Q E h => ?_) (fun cdv A outer s H vs Q E hr h => ?_)
  · obtain ⟨v, p, l, d, rfl, _⟩ := h
    rfl
  · obtain ⟨v, p, l, d, rfl, hd, kb, kg⟩ := h
    have nd := scDu.nd
    have hr1 : Room 1 _ := hr
    have hu : (A.deeper (envOfC "_law_due" (defScope sDu) s.heap.objs.size f cdv)).units + 64 < cLine := hr.units
    refine ⟨_, pss_cons (ps_if (pt_mid (PW.pt (pw_and (pt_not (pt_val (pe_callB call_isi (by rfl) T.isinstance boot_isinstance (pa_cons (pv 0) (pa_cons (pe_bltn (v := .ty "list") (by rfl) T.list (by decide +kernel) rfl) pa_nil))))) (pw_and1 (pt_not (pt_val (pe_callB call_isi (by rfl) T.isinstance boot_isinstance (pa_cons (pv 0) (pa_cons (pe_bltn (v := .ty "tuple") (by rfl) T.tuple boot_tuple rfl) pa_nil))))))))) (pss_one (ps_ret (pe_lst (pa_cons (pe_tup pa_nil) pa_nil)))) pss_nil)
      (pss_cons (ps_if (pt_mid (PW.pt (pw_or (pt_cmpR op_notIn_rngC (pe_callB call_len_seq (by rfl) T.len PySem.boot_len (pa_cons (pv 0) pa_nil)) (pe_callTy cr_range3 (by rfl) T.range boot_range (pa_cons pe_int (pa_cons pe_int (pa_cons pe_int pa_nil)))) (by rfl)) (pw_or1 (pt_cmpR (op_neNil (by exact hu)) (pe_lc (own := [("one", 6)]) (g := (gName 6)) (tt := (tNot (tB (tCall spLl [] E0 (tCons (tVar 6) tNil))))) (te := (tVar 6)) rfl nd (pi_alt2 (pi_list (pv 0)) (pi_tup (pv 0))) (blkOk_by (N := nDu) (sc := defScope sDu) (by decide +kernel)) (fun _ _ _ _ _ => pg_name (i := 6) nd rfl (Or.inl rfl)) (fun _ _ _ _ _ => pts_one (pt_not (pt_val (pe_call GP hr1 rfl Pr.g Pr.kp Pr.b .nil pass0 (pa_cons (pv 6) pa_nil))))) (fun _ _ _ _ _ => by exact (pv 6))) (pe_lst pa_nil) (nomark _)))))) (pss_one (ps_ret (pe_lst (pa_cons (pe_tup pa_nil) pa_nil)))) pss_nil)
      (pss_cons (ps_set (i := 1) nd rfl (Or.inl rfl) (pe_lst pa_nil))
      (pss_cons (ps_for PassesOwn.never rfl (pi_alt2 (pi_enum (by rfl) T.enumerate (pa_cons (pv 0) pa_nil)) (pi_enumT (by rfl) T.enumerate (pa_cons (pv 0) pa_nil))) (pg_tup rfl (pgs_cons (pg_name (i := 2) nd rfl (Or.inl rfl)) (pgs_cons (pg_name (i := 3) nd rfl (Or.inl rfl)) pgs_nil)))
        (pss_cons (ps_for PassesOwn.never rfl (pi_alt2 (pi_list (pv 3)) (pi_tup (pv 3))) (pg_name (i := 4) nd rfl (Or.inl rfl))
        (pss_one (ps_if (PW.pt (pw_or (pt_cmpR op_lt (pv 4) pe_int (nomark _)) (pw_or (pt_cmpR op_ge (pv 4) (pe_op op_mul pe_int (pe_callB call_len_seq (by rfl) T.len PySem.boot_len (pa_cons (pv 0) pa_nil))) (nomark _)) (pw_or1 (pt_cmpR op_in_seq (pv 4) (pv 1) (by rfl)))))) (pss_one (ps_ret (pe_lst (pa_cons (pe_tup (pa_cons (pv 2) pa_nil)) pa_nil)))) pss_nil)))
      (pss_one (ps_set (i := 1) nd rfl (Or.inl rfl) (pe_op op_catS (pv 1) (pe_callTy cr_lo (by rfl) T.list (by decide +kernel) (pa_cons (pv 3) pa_nil) (by decide)))))))
      (pss_cons (ps_set (i := 5) nd rfl (Or.inl rfl) (pe_tupleOf (by rfl) T.tuple (pe_callB cr_sortedPO (by rfl) T.sorted boot_sorted (pa_cons (pe_lc (own := [("pair", 3)]) (g := (gName 3)) (tt := tYes) (te := (tThen (tCB (rSorted K) (tCons (tCB (rLo K) (tCons (tVar 3) tNil)) tNil)) (kTup K))) rfl nd (pi_alt2 (pi_list (pv 0)) (pi_tup (pv 0))) (blkOk_by (N := nDu) (sc := defScope sDu) (by decide +kernel)) (fun _ _ _ _ _ => pg_name (i := 3) nd rfl (Or.inl rfl)) (fun _ _ _ _ _ => pts_nil) (fun _ _ _ _ _ => by exact (pe_tupleOf (by rfl) T.tuple (pe_callB cr_sorted (by rfl) T.sorted boot_sorted (pa_cons (pe_callTy cr_lo (by rfl) T.list (by decide +kernel) (pa_cons (pv 3) pa_nil) (by decide)) pa_nil))))) pa_nil))))
      (pss_one (ps_ret (pe_ifExp (pt_val (pe_call GW hr1 rfl W.g W.kp W.b .nil pass0 (pa_cons (pv 5) pa_nil))) (pv 5) (pe_lst (pa_cons (pe_tup (pa_cons (pe_callB call_len_seq (by rfl) T.len PySem.boot_len (pa_cons (pv 0) pa_nil)) pa_nil)) pa_nil))))))))), ?_⟩
    have nope : pairsD d = none → ∀ H1, Same H H1 → tRet (tLst (tCons (tTup tNil) tNil)) { nx := fun x H' => Q V.non H', rt := Q } (start nDu [v]) H1 := fun hp H1 s1 => by
      have e : placeP d = some [] := by unfold placeP; rw [hp]
      refine ⟨Nat.zero_le _, fun z hz => ⟨by show 1 ≤ sizeLine; decide, fun L hL => ?_⟩⟩
      exact kb _ e _ L z (s1.trans ((Same.new hz).trans (Same.new hL))) upd_same ((Same.new hL) _ _ upd_same)
    rcases seq_kind hd with ⟨t, xs, ds, T', rfl, ht, hi, hds, hv, hT⟩ | ⟨hi, T', hv, hT⟩
    case inr =>
      rw [Bool.or_eq_false_iff] at hT
      have hp : pairsD d = none := by unfold pairsD; rw [hi]; rfl
      refine ⟨fun b H1 => b = true ∧ H1 = H, ?_, ?_⟩
      · refine ⟨_, rfl, _, _, _, _, _, rfl, .ty _, hv.tyx, hv.kLst, _, rfl, ?_⟩
        rw [hT.1]
        refine iteT ⟨_, rfl, _, _, _, _, _, rfl, .ty _, hv.tyx, hv.kTup, _, rfl, ?_⟩
        rw [hT.2]
        exact ⟨rfl, rfl⟩
      · rintro b H1 ⟨rfl, rfl⟩
        exact iteT (nope hp H1 (Same.refl H1))
    refine ⟨fun b H1 => b = false ∧ H1 = H, ?_, ?_⟩
    · rcases ht with ht | ht
      · refine ⟨_, rfl, _, _, _, _, _, rfl, .ty _, (TV.lst ht).tyx, (TV.lst ht).kLst, _, rfl, ?_⟩
        exact iteF ⟨rfl, rfl⟩
      · refine ⟨_, rfl, _, _, _, _, _, rfl, .ty _, (TV.tup ht).tyx, (TV.tup ht).kLst, _, rfl, ?_⟩
        refine iteT ⟨_, rfl, _, _, _, _, _, rfl, .ty _, (TV.tup ht).tyx, (TV.tup ht).kTup, _, rfl, ?_⟩
        exact ⟨rfl, rfl⟩
    rintro b H1 ⟨rfl, rfl⟩
    refine iteF ?_
    have hle := hds.len
    have hsome := pairs_iff hi
    refine ⟨fun b H2 => b = !(pairsD d).isSome ∧ Same H1 H2, ?_, ?_⟩
    · refine ⟨_, rfl, t, _, rfl, seq_of ht, _, _, _, rfl, ⟨by decide, by decide⟩, fun r hr' => ?_⟩
      have s0 := Same.new (o := RngO r 2 81 2) hr'
      refine ⟨_, _, _, _, _, rfl, rfl, upd_same, ?_⟩
      rw [rng_can]
      generalize upd H1 r (RngO r 2 81 2) = H0 at s0
      refine ⟨_, rfl, ?_⟩
      rw [hle]
      cases hc : canBe (ds.length : Nat) with
      | false =>
        refine iteT ⟨?_, s0⟩
        rw [hsome, hc]
        rfl
      | true =>
        have h80 : ds.length ≤ 80 := by
          unfold canBe at hc
          simp only [Bool.and_eq_true, decide_eq_true_eq] at hc
          omega
        refine iteF ?_
        have step : ∀ (D : Addr) (j : Nat) (x : V) (H4 : Hp), H0 D = none → j < xs.length → xs[j]? = some x → (∃ zs, H4 D = some (.lst zs) ∧ zs.length ≤ j ∧ (zs.length = 0 ↔ ((ds.take j).all fun e => (pairD e).isSome) = true)) ∧ Same H1 H4 → ∀ R : Hp → Prop, (∀ H5 : Hp, (∃ zs, H5 D = some (.lst zs) ∧ zs.length ≤ j + 1 ∧ (zs.length = 0 ↔ ((ds.take (j + 1)).all fun e => (pairD e).isSome) = true)) ∧ Same H1 H5 → R H5) →
            spLl [x] H4 (fun v' H5 => ∃ c, v' = .bl c ∧ if (!c) = true then tVar 6 [some (.ref t), none, none, none, none, none, some x] H5 fun y H6 => ∃ acc, H6 D = some (.lst acc) ∧ acc.length < sizeLine ∧ R (upd H6 D (.lst (acc ++ [y]))) else R H5) E0 := fun D j x H4 hD hj hx ⟨⟨zs, h4, l4, z4⟩, s4⟩ R hR => by
          obtain ⟨d', hd', hda'⟩ := hds.get hx
          have tk : ((ds.take (j + 1)).all fun e => (pairD e).isSome) = (((ds.take j).all fun e => (pairD e).isSome) && (pairD d').isSome) := by
            rw [List.take_succ, hd', Option.toList_some, List.all_append]
            congr 1
            exact Bool.and_true _
          refine ⟨x, p, l, d', rfl, Da.extT (ExtT.ofS s4) _ _ hda', fun H5 s5 => ⟨_, rfl, ?_⟩⟩
          cases hb : (pairD d').isSome with
          | true =>
            exact iteF (hR _ ⟨⟨zs, s5 _ _ h4, by omega, by rw [tk, hb, Bool.and_true]; exact z4⟩, s4.trans s5⟩)
          | false =>
            refine iteT ⟨_, rfl, zs, s5 _ _ h4, small1000 (by omega), hR _ ⟨⟨zs ++ [x], upd_same, by rw [List.length_append]; show zs.length + 1 ≤ _; omega, ?_⟩, fun b o eo => (upd_ne (ne_of_none (s0 _ _ eo) hD)).trans ((s4.trans s5) _ _ eo)⟩⟩
            rw [tk, hb, Bool.and_false, List.length_append]
            exact ⟨fun q => by simp at q, fun q => by cases q⟩
        refine alt_seq ht s0 rfl fun J G wk hG D hD => ?_
        refine lc_it wk (fun j H4 => (∃ zs, H4 D = some (.lst zs) ∧ zs.length ≤ j ∧ (zs.length = 0 ↔ ((ds.take j).all fun e => (pairD e).isSome) = true)) ∧ Same H1 H4) ⟨⟨[], upd_same, Nat.le_refl _, by simp⟩, s0.trans (Same.new hD)⟩ (fun j H4 _ h => hG _ h.2) ?_ ?_
        · rintro j z H4' H4 hj h ⟨rfl, hz⟩
          exact ⟨rfl, _, rfl, step D j z _ hD hj hz h _ fun _ q => q⟩
        · rintro H4 ⟨⟨zs, h4, l4, z4⟩, s4⟩
          refine ⟨Nat.zero_le _, fun m hm => ?_⟩
          have s5 := Same.new (o := .lst []) hm
          refine ⟨D, m, zs, rfl, rfl, SqL.of (s5 _ _ h4), upd_same, _, rfl, ?_, s4.trans s5⟩
          rw [hle, List.take_length] at z4
          rw [hsome, hc, Bool.true_and]
          cases hb : ds.all (fun e => (pairD e).isSome) with
          | true => rw [decide_eq_true (z4.mpr hb)]
          | false => rw [decide_eq_false (fun q => by have := z4.mp q; rw [hb] at this; cases this)]
    rintro b H2 ⟨rfl, s2⟩
    cases hp : pairsD d with
    | none => exact iteT (nope hp H2 s2)
    | some prs =>
      refine iteF ?_
      obtain ⟨ds', hi', hc, hm⟩ := pairs_of hp
      rw [hi] at hi'
      cases hi'
      have e : placeP d = match dupF (2 * prs.length) 0 [] prs with
        | some k => some [k]
        | none => open Classical in if Whole (prs.length / 2) (prsL prs) then none else some [prs.length] := by unfold placeP; rw [hp] <;> rfl
      have hpl : prs.length = xs.length := by
        have := congrArg List.length hm
        rw [List.length_map, List.length_map] at this
        omega
      have hcb : 2 ≤ xs.length ∧ xs.length ≤ 80 ∧ xs.length % 2 = 0 := by
        unfold canBe at hc
        simp only [Bool.and_eq_true, decide_eq_true_eq] at hc
        omega
      have hneq : ∀ q ∈ prs, q.1 ≠ q.2 := fun q hq => by
        have : some q ∈ ds.map pairD := by rw [hm]; exact List.mem_map.mpr ⟨q, hq, rfl⟩
        obtain ⟨x, _, hx⟩ := List.mem_map.mp this
        exact pair_ne hx
      generalize hR0 : dupF (2 * prs.length) 0 [] prs = R0 at e
      rw [hpl] at hR0 e
      have e2 : (2 : Int) * (xs.length : Nat) = ((2 * xs.length : Nat) : Int) := by omega
      have pairAt : ∀ {i : Nat} {y' : V}, xs[i]? = some y' → ∃ q a, prs[i]? = some q ∧ y' = .ref a ∧ (H1 a = some (.lst [.int q.1, .int q.2]) ∨ H1 a = some (.tup [.int q.1, .int q.2])) ∧ q.1 ≠ q.2 := fun {i y'} ey => by
        obtain ⟨di, hdi, hdai⟩ := hds.get ey
        have h1 : (ds.map pairD)[i]? = (prs.map some)[i]? := by rw [hm]
        rw [List.getElem?_map, List.getElem?_map, hdi] at h1
        cases h2 : prs[i]? with
        | none => rw [h2] at h1; cases h1
        | some q =>
          rw [h2] at h1
          have h1 := Option.some.inj h1
          obtain ⟨a, rfl, ha⟩ := pair_at hdai h1
          exact ⟨q, a, rfl, rfl, ha, pair_ne h1⟩
      refine ⟨Nat.zero_le _, fun mt0 hmt0 => ?_⟩
      have s3 := Same.new (o := .lst []) hmt0
      have sA := s2.trans s3
      have g0 := upd_same (H := H2) (a := mt0) (o := .lst [])
      generalize upd H2 mt0 (.lst []) = H3 at sA g0
      refine alt_enum ht sA rfl fun J G wk hG => for_it wk (fun i σ H3 => ∃ (mt : Addr) (met : List Nat) (v2 v3 v4 : Option V), σ = [some (.ref t), some (.ref mt), v2, v3, v4, none, none] ∧ Same H1 H3 ∧ H3 mt = some (.lst (nats met)) ∧ met.length = 2 * i ∧ dupF (2 * xs.length) i met (prs.drop i) = R0) ⟨mt0, [], none, none, none, rfl, sA, g0, rfl, hR0⟩ (fun i σ H3 _ ⟨_, _, _, _, _, _, s', _⟩ => hG _ s') ?_ ?_
      · rintro i x σ H4' H4 hi ⟨mt, met, v2, v3, v4, rfl, s5, hmt5, hml, hgo⟩ ⟨T', x', y', rfl, hT', rfl, ex, ey⟩
        cases ex
        have hi : i < xs.length := hi
        have ey : xs[i]? = some y' := ey
        obtain ⟨q, a, hq, rfl, ha, hqn⟩ := pairAt ey
        have hdrop : prs.drop i = q :: prs.drop (i + 1) := by
          obtain ⟨hlt, e⟩ := List.getElem?_eq_some_iff.mp hq
          rw [List.drop_eq_getElem_cons hlt, e]
        rw [hdrop] at hgo
        have hgo : (if bad (2 * xs.length) met q.1 || bad (2 * xs.length) met q.2 then some i else dupF (2 * xs.length) (i + 1) (met ++ [q.1.toNat, q.2.toNat]) (prs.drop (i + 1))) = R0 := hgo
        have s6 := Same.new (o := .tup [V.int (i : Nat), V.ref a]) hT'
        refine ⟨T', _, rfl, SqT.of upd_same, rfl, _, _, rfl, _, _, rfl, rfl, ?_⟩
        have s56 := s5.trans s6
        have hmt6 := s6 _ _ hmt5
        generalize upd H4' T' (.tup [V.int (i : Nat), V.ref a]) = H6 at s6 s56 hmt6
        have ha6 := seq_same ha s56
        have retp : ∀ H7 : Hp, R0 = some i → Same H1 H7 → 1 ≤ sizeLine ∧ ∀ z, H7 z = none → 1 ≤ sizeLine ∧ ∀ L, (upd H7 z (.tup [V.int (i : Nat)])) L = none → Q (.ref L) (upd (upd H7 z (.tup [V.int (i : Nat)])) L (.lst [.ref z])) := fun H7 hR s7 => ⟨by decide, fun z hz => ⟨by decide, fun L hL =>
          kb [i] (by rw [e, hR]) _ L z (s7.trans ((Same.new hz).trans (Same.new hL))) upd_same ((Same.new hL) _ _ upd_same)⟩⟩
        refine alt_seq ha s56 rfl fun J2 G2 wk2 hG2 => for_it wk2 (fun j σ H8 => ∃ v4 : Option V, σ = [some (.ref t), some (.ref mt), some (.int (i : Nat)), some (.ref a), v4, none, none] ∧ Same H1 H8 ∧ H8 mt = some (.lst (nats met)) ∧ (0 < j → bad (2 * xs.length) met q.1 = false) ∧ (1 < j → bad (2 * xs.length) met q.2 = false)) ⟨_, rfl, s56, hmt6, fun h => by omega, fun h => by omega⟩ (fun j σ H8 _ ⟨_, _, s', _⟩ => hG2 _ s') ?_ ?_
        · rintro j z σ H8' H8 hj ⟨v4', rfl, s8, hmt8, j0, j1⟩ ⟨rfl, hz⟩
          have hj : j < 2 := hj
          obtain ⟨c, rfl, hc'⟩ : ∃ c : Int, z = .int c ∧ (j = 0 ∧ c = q.1 ∨ j = 1 ∧ c = q.2) := by
            rcases (by omega : j = 0 ∨ j = 1) with rfl | rfl
            · cases hz
              exact ⟨q.1, rfl, .inl ⟨rfl, rfl⟩⟩
            · cases hz
              exact ⟨q.2, rfl, .inr ⟨rfl, rfl⟩⟩
          have isbad : bad (2 * xs.length) met c = true → R0 = some i := fun h => by
            rcases hc' with ⟨_, rfl⟩ | ⟨_, rfl⟩
            · rw [h, Bool.true_or, if_pos rfl] at hgo
              exact hgo.symm
            · rw [h, Bool.or_true, if_pos rfl] at hgo
              exact hgo.symm
          have ht8 : H8 t = some (.lst xs) ∨ H8 t = some (.tup xs) := seq_same ht s8
          refine ⟨_, rfl, _, _, rfl, rfl, _, rfl, ?_⟩
          refine ite2 (fun h => ?_) (fun h => ?_)
          · have h : c < 0 := of_decide_eq_true h
            exact iteT ⟨_, rfl, retp H8 (isbad (by unfold bad; rw [decide_eq_false (by omega : ¬ 0 ≤ c)]; rfl)) s8⟩
          · have h0 : 0 ≤ c := by
              have : ¬ c < 0 := fun z => h (decide_eq_true z)
              omega
            refine ⟨_, rfl, _, rfl, t, _, rfl, seq_of ht8, _, _, rfl, rfl, .inl ⟨by decide, by decide⟩, _, _, rfl, rfl, _, rfl, ?_⟩
            refine ite2 (fun h => ?_) (fun h => ?_)
            · have h : (2 : Int) * (xs.length : Nat) ≤ c := of_decide_eq_true h
              exact iteT ⟨_, rfl, retp H8 (isbad (by unfold bad; rw [decide_eq_false (by omega : ¬ c < ((2 * xs.length : Nat) : Int)), Bool.and_false]; rfl)) s8⟩
            · have h1 : c < ((2 * xs.length : Nat) : Int) := by
                have : ¬ (2 : Int) * (xs.length : Nat) ≤ c := fun z => h (decide_eq_true z)
                omega
              obtain ⟨cn, rfl⟩ : ∃ cn : Nat, c = (cn : Nat) := ⟨c.toNat, by omega⟩
              refine ⟨_, rfl, _, rfl, mt, _, rfl, .inl (SqL.of hmt8), rfl, flat_nats met, _, rfl, ?_⟩
              refine ite2 (fun h => ?_) (fun h => ?_)
              · have h : inV (V.int ((cn : Nat) : Int)) (nats met) = true := h
                rw [in_met] at h
                exact ⟨_, rfl, retp H8 (isbad (by unfold bad; rw [show (((cn : Nat) : Int)).toNat = cn by omega, h, Bool.or_true])) s8⟩
              · have h : ¬ inV (V.int ((cn : Nat) : Int)) (nats met) = true := h
                rw [in_met, Bool.not_eq_true] at h
                have good : bad (2 * xs.length) met ((cn : Nat) : Int) = false := by
                  unfold bad
                  rw [show (((cn : Nat) : Int)).toNat = cn by omega, h, decide_eq_true h0, decide_eq_true h1]
                  rfl
                refine ⟨_, rfl, s8, hmt8, fun h => ?_, fun h => ?_⟩
                · rcases hc' with ⟨rfl, hh⟩ | ⟨rfl, hh⟩
                  · rw [← hh]
                    exact good
                  · exact j0 (by decide)
                · rcases hc' with ⟨rfl, hh⟩ | ⟨rfl, hh⟩
                  · omega
                  · rw [← hh]
                    exact good
        · rintro σ H8 ⟨v4', rfl, s8, hmt8, j0, j1⟩
          have b1 := j0 (show 0 < 2 by decide)
          have b2 := j1 (show 1 < 2 by decide)
          obtain ⟨a0, a1, _⟩ := bad_not b1
          obtain ⟨c0, c1, _⟩ := bad_not b2
          rw [b1, b2, Bool.or_false, if_neg (by decide)] at hgo
          have ha8 : H8 a = some (.lst [.int q.1, .int q.2]) ∨ H8 a = some (.tup [.int q.1, .int q.2]) := seq_same ha s8
          refine ⟨_, rfl, _, rfl, a, _, rfl, seq_of ha8, fun l2 hl2 => ?_⟩
          have s9 := Same.new (o := .lst [V.int q.1, V.int q.2]) hl2
          refine ⟨mt, l2, _, _, rfl, rfl, SqL.of (s9 _ _ hmt8), upd_same, Nat.le_of_lt (small1000 (by rw [show (nats met).length = met.length from List.length_map _]; show met.length + 2 ≤ 1000; omega)), fun l3 hl3 => ?_⟩
          have s10 := Same.new (o := .lst (nats met ++ [V.int q.1, V.int q.2])) hl3
          refine ⟨l3, met ++ [q.1.toNat, q.2.toNat], _, _, _, rfl, s8.trans (s9.trans s10), ?_, by rw [List.length_append]; show met.length + 2 = _; omega, hgo⟩
          rw [upd_same, nats_app]
          show some (HO.lst (nats met ++ [V.int q.1, V.int q.2])) = some (.lst (nats met ++ [V.int ((q.1.toNat : Nat) : Int), V.int ((q.2.toNat : Nat) : Int)]))
          rw [show ((q.1.toNat : Nat) : Int) = q.1 by omega, show ((q.2.toNat : Nat) : Int) = q.2 by omega]
      · rintro σ H4 ⟨mt, met, v2, v3, v4, rfl, s5, hmt5, hml, hgo⟩
        have hR : R0 = none := by
          rw [← hgo, show prs.drop xs.length = [] from List.drop_of_length_le (by omega)]
          rfl
        have hdn : dupF (2 * prs.length) 0 [] prs = none := by rw [hpl, hR0]; exact hR
        have hL : Lines (xs.length / 2) (prsL prs) := dup_lines (by omega) hdn hneq
        rw [hR] at e
        have e : placeP d = open Classical in if Whole (xs.length / 2) (prsL prs) then none else some [xs.length] := e
        have nneg : ∀ q ∈ prs, 0 ≤ q.1 ∧ 0 ≤ q.2 := dup_nneg hdn
        refine alt_seq ht s5 rfl fun J2 G2 wk2 hG2 D hD => lc_it wk2 (fun j H6 => (∃ cs : List Addr, H6 D = some (.lst (refs cs)) ∧ PL H6 cs (prsL (prs.take j))) ∧ Same H1 H6) ⟨⟨[], upd_same, .nil⟩, s5.trans (Same.new hD)⟩ (fun j H6 _ h => hG2 _ h.2) ?_ ?_
        · rintro j z H6' H6 hj ⟨⟨cs, hl, hC⟩, s6⟩ ⟨rfl, hz⟩
          have hj : j < xs.length := hj
          have hz : xs[j]? = some z := hz
          obtain ⟨q, a, hq, rfl, ha, hqn⟩ := pairAt hz
          obtain ⟨n1, n2⟩ := nneg q (List.mem_of_getElem? hq)
          refine ⟨rfl, yes ⟨_, rfl, a, _, rfl, seq_of (seq_same ha s6), fun l1 hl1 => ?_⟩⟩
          have u1 := Same.new (o := .lst [V.int q.1, V.int q.2]) hl1
          refine ⟨l1, [q.1, q.2], rfl, SqL.of upd_same, (by show 2 < 64; decide), fun ns l2 hp' hs' hl2 => ?_⟩
          have u2 := Same.new (o := .lst (ns.map V.int)) hl2
          have en := low_of (x := q.1.toNat) (y := q.2.toNat) (by rw [show ((q.1.toNat : Nat) : Int) = q.1 by omega, show ((q.2.toNat : Nat) : Int) = q.2 by omega]; exact hp') hs'
          subst en
          refine .inl ⟨l2, _, rfl, SqL.of upd_same, fun c hc => ?_⟩
          have u3 := Same.new (o := .tup [V.int ((low q.1.toNat q.2.toNat).1 : Nat), V.int ((low q.1.toNat q.2.toNat).2 : Nat)]) hc
          have gc := upd_same (H := upd (upd H6 l1 (.lst [V.int q.1, V.int q.2])) l2 (.lst ([(((low q.1.toNat q.2.toNat).1 : Nat) : Int), (((low q.1.toNat q.2.toNat).2 : Nat) : Int)].map V.int))) (a := c) (o := .tup [V.int ((low q.1.toNat q.2.toNat).1 : Nat), V.int ((low q.1.toNat q.2.toNat).2 : Nat)])
          have u13 := u1.trans (u2.trans u3)
          have hl9 := u13 _ _ hl
          have hC9 := hC.mono (sameT u13)
          have k9 : ∀ b zs, (upd (upd (upd H6 l1 (.lst [V.int q.1, V.int q.2])) l2 (.lst ([(((low q.1.toNat q.2.toNat).1 : Nat) : Int), (((low q.1.toNat q.2.toNat).2 : Nat) : Int)].map V.int))) c (.tup [V.int ((low q.1.toNat q.2.toNat).1 : Nat), V.int ((low q.1.toNat q.2.toNat).2 : Nat)])) b = some (.tup zs) → (upd (upd (upd (upd H6 l1 (.lst [V.int q.1, V.int q.2])) l2 (.lst ([(((low q.1.toNat q.2.toNat).1 : Nat) : Int), (((low q.1.toNat q.2.toNat).2 : Nat) : Int)].map V.int))) c (.tup [V.int ((low q.1.toNat q.2.toNat).1 : Nat), V.int ((low q.1.toNat q.2.toNat).2 : Nat)])) D (.lst (refs cs ++ [V.ref c]))) b = some (.tup zs) := fun b zs h => (upd_ne (ne_of h hl9 (by intro z; cases z))).trans h
          refine ⟨_, hl9, small1000 ?_, ⟨cs ++ [c], by rw [upd_same, refs_app]; rfl, ?_⟩, fun b o eo => (upd_ne (ne_of_none (s5 _ _ eo) hD)).trans (u13 _ _ (s6 _ _ eo))⟩
          · rw [show (refs cs).length = cs.length from List.length_map _, hC.len, show (prsL (prs.take j)).length = (prs.take j).length from List.length_map _, List.length_take]
            omega
          · rw [List.take_succ, hq, Option.toList_some, show prsL (prs.take j ++ [q]) = prsL (prs.take j) ++ [low q.1.toNat q.2.toNat] from List.map_append]
            exact (hC9.mono k9).app (.cons (k9 _ _ gc) .nil)
        · rintro H6 ⟨⟨cs, hl, hC⟩, s6⟩
          rw [show prs.take xs.length = prs by rw [← hpl, List.take_length]] at hC
          unfold tNil
          dsimp only
          refine rd_sorted (SqL.of hl) hC fun bs' qs l2 hC2 hperm hle' hl2 => ?_
          have s7 := Same.new (o := .lst (refs bs')) hl2
          refine .inl ⟨l2, _, rfl, SqL.of upd_same, fun tb htb => ?_⟩
          have s8 := Same.new (o := .tup (refs bs')) htb
          have gb := upd_same (H := upd H6 l2 (.lst (refs bs'))) (a := tb) (o := .tup (refs bs'))
          have hC8 := hC2.mono (sameT (s7.trans s8))
          have s68 := s6.trans (s7.trans s8)
          generalize upd (upd H6 l2 (.lst (refs bs'))) tb (.tup (refs bs')) = H8 at gb hC8 s68
          have hM := hL.perm hperm.symm
          refine ⟨_, rfl, tb, xs.length / 2, bs', qs, rfl, gb, hC8, by omega, hM.len, fun p hp => ⟨hM.lt _ (mem_ends.mpr ⟨p, hp, .inl rfl⟩), hM.lt _ (mem_ends.mpr ⟨p, hp, .inr rfl⟩)⟩, by omega, fun H9 b s9 hb => ⟨_, rfl, ?_⟩⟩
          have s19 := s68.trans s9
          cases b with
          | true =>
            have hw : Whole (xs.length / 2) (prsL prs) := (hb.mp rfl).perm hperm
            exact iteT ⟨_, rfl, kg (by rw [e]; exact if_pos hw) prs hp H9 tb bs' qs s19 (s9 _ _ gb) (hC8.mono (sameT s9)) hperm hle'⟩
          | false =>
            have hw : ¬ Whole (xs.length / 2) (prsL prs) := fun z => by cases hb.mpr (z.perm hperm.symm)
            refine iteF ⟨_, rfl, t, _, rfl, seq_of (seq_same ht s19), by show 1 ≤ sizeLine; decide, fun z hz => ⟨by show 1 ≤ sizeLine; decide, fun L hL' => ?_⟩⟩
            exact kb [xs.length] (by rw [e]; exact if_neg hw) _ L z (s19.trans ((Same.new hz).trans (Same.new hL'))) upd_same ((Same.new hL') _ _ upd_same)
end
end One
end P_YE

section P_YF
set_option linter.all false
set_option maxRecDepth 100000
set_option maxHeartbeats 16000000
namespace One
open PySem PySem.Spec PyProof.Rows L2
abbrev sLo : Stmt := top 36
abbrev nLo : List Str := ["m", "yard", "left", "found", "pair", "way"]
theorem scLo : FnScope nLo ["m", "yard"] (defScope sLo) := ⟨rfl, rfl, rfl, by decide +kernel, rfl, by decide +kernel, by decide +kernel⟩
theorem tupE {H H' : Hp} {p c : Addr} {n : Nat} (M : MS H p c n) (e : Ext p H H') : ∀ b xs, H b = some (.tup xs) → H' b = some (.tup xs) := fun b xs h => e b _ (tup_off M h) h
/-- rows of pairs -/
inductive LP (p : Addr) (H : Hp) : List V → List (Int × Int) → Prop
  | nil : LP p H [] []
  | lst {a : Addr} {q : Int × Int} {xs : List V} {prs : List (Int × Int)} : a ≠ p → a ≠ sysModules → H a = some (.lst [.int q.1, .int q.2]) → LP p H xs prs → LP p H (.ref a :: xs) (q :: prs)
  | tup {a : Addr} {q : Int × Int} {xs : List V} {prs : List (Int × Int)} : a ≠ p → H a = some (.tup [.int q.1, .int q.2]) → LP p H xs prs → LP p H (.ref a :: xs) (q :: prs)
theorem LP.mono {p : Addr} {H H' : Hp} {xs : List V} {prs : List (Int × Int)} (h : LP p H xs prs) (k : ∀ a (q : Int × Int), a ≠ p → (H a = some (.lst [.int q.1, .int q.2]) → H' a = some (.lst [.int q.1, .int q.2])) ∧ (H a = some (.tup [.int q.1, .int q.2]) → H' a = some (.tup [.int q.1, .int q.2]))) : LP p H' xs prs := by
  induction h with
  | nil => exact .nil
  | lst a b c _ ih => exact .lst a b ((k _ _ a).1 c) ih
  | tup a c _ ih => exact .tup a ((k _ _ a).2 c) ih
theorem LP.app {p : Addr} {H : Hp} {xs ys : List V} {prs qrs : List (Int × Int)} (h : LP p H xs prs) (g : LP p H ys qrs) : LP p H (xs ++ ys) (prs ++ qrs) := by
  induction h with
  | nil => exact g
  | lst a b c _ ih => exact .lst a b c ih
  | tup a c _ ih => exact .tup a c ih
theorem LP.same {p : Addr} {H H' : Hp} {xs : List V} {prs : List (Int × Int)} (h : LP p H xs prs) (s : Same H H') : LP p H' xs prs := h.mono fun a q _ => ⟨s _ _, s _ _⟩
theorem LP.ext {p : Addr} {H H' : Hp} {xs : List V} {prs : List (Int × Int)} (h : LP p H xs prs) (s : Ext p H H') : LP p H' xs prs := h.mono fun a q n => ⟨s _ _ n, s _ _ n⟩
theorem LP.len {p : Addr} {H : Hp} {xs : List V} {prs : List (Int × Int)} (h : LP p H xs prs) : xs.length = prs.length := by
  induction h with
  | nil => rfl
  | lst a b c _ ih => exact congrArg (· + 1) ih
  | tup a c _ ih => exact congrArg (· + 1) ih
theorem LP.refs {p : Addr} {H : Hp} {xs : List V} {prs : List (Int × Int)} (h : LP p H xs prs) : ∀ x ∈ xs, ∃ a, x = .ref a := by
  induction h with
  | nil => exact fun x hx => absurd hx (by simp)
  | lst a b c _ ih => exact fun x hx => (List.mem_cons.mp hx).elim (fun e => ⟨_, e⟩) (ih x)
  | tup a c _ ih => exact fun x hx => (List.mem_cons.mp hx).elim (fun e => ⟨_, e⟩) (ih x)
/-- a number as the law hands it on -/
def okI (i : Int) : Prop := -1 ≤ i ∧ i < 2000 ∨ i = 10 ^ 30
theorem okI_fx {i : Int} (h : okI i) : Fx (.int i) 0 0 ∧ OkS (.int i) := by
  have all : ∀ n : Fin 2001, (PyData.shown (.int (((n : Nat) : Int) - 1))).length ≤ 48 ∧ PyData.showable (.int (((n : Nat) : Int) - 1)) = true ∧ ((strD (.int (((n : Nat) : Int) - 1))).cps.toList.all fun c => decide (c < 16 ^ 8)) = true ∧ (strD (.int (((n : Nat) : Int) - 1))).cps.size ≤ 60 := by decide +kernel
  rcases h with ⟨h0, h1⟩ | rfl
  · have a := all ⟨(i + 1).toNat, by omega⟩
    rw [show ((((⟨(i + 1).toNat, by omega⟩ : Fin 2001) : Nat) : Int)) - 1 = i by
      show (((i + 1).toNat : Nat) : Int) - 1 = i
      omega] at a
    exact ⟨⟨a.2.1, Nat.le_refl _, decide_eq_true a.1, Nat.zero_le _⟩, okS_of a.2.2⟩
  · exact ⟨⟨by decide +kernel, by decide +kernel, by decide +kernel, by decide +kernel⟩, okS_of (by decide +kernel)⟩
def PG (e : PyData) : Prop := ∀ q, pairD e = some q → okI q.1 ∧ okI q.2
theorem LP.rw {p : Addr} {H : Hp} {xs : List V} {prs : List (Int × Int)} (h : LP p H xs prs) (hk : ∀ q ∈ prs, okI q.1 ∧ okI q.2 ∧ q.1 ≠ q.2) : ∃ ds, DaAll p p H xs ds ∧ FxA ds 1 (3 * prs.length) ∧ (∀ d ∈ ds, PG d ∧ (pairD d).isSome) ∧ ds.map pairD = prs.map some := by
  induction h with
  | nil => exact ⟨[], .nil, FxA.nil, fun d hd => absurd hd (by simp), rfl⟩
  | @lst a q xs prs a1 a2 a3 _ ih =>
    obtain ⟨ds, i1, i2, i3, i4⟩ := ih fun q hq => hk q (List.mem_cons_of_mem _ hq)
    obtain ⟨k1, k2, k3⟩ := hk q (List.mem_cons_self ..)
    have e : pairD (.list [.int q.1, .int q.2]) = some q := by
      show (if q.1 = q.2 then none else some (q.1, q.2)) = _
      rw [if_neg k3]
    refine ⟨.list [.int q.1, .int q.2] :: ds, .cons (.lst a1 a1 a2 a3 (.cons (.int _) (.cons (.int _) .nil))) i1, ?_, fun d hd => ?_, by rw [List.map_cons, List.map_cons, e, i4]⟩
    · exact (FxA.cons ((FxA.cons (okI_fx k1).1 (FxA.cons (okI_fx k2).1 (FxA.nil (n := 0)))).lst) i2).up (Nat.le_refl _) (by rw [List.length_cons]; omega)
    · rcases List.mem_cons.mp hd with rfl | hd
      · exact ⟨fun r hr => by rw [e] at hr; cases hr; exact ⟨k1, k2⟩, by rw [e]; rfl⟩
      · exact i3 d hd
  | @tup a q xs prs a1 a3 _ ih =>
    obtain ⟨ds, i1, i2, i3, i4⟩ := ih fun q hq => hk q (List.mem_cons_of_mem _ hq)
    obtain ⟨k1, k2, k3⟩ := hk q (List.mem_cons_self ..)
    have e : pairD (.tuple [.int q.1, .int q.2]) = some q := by
      show (if q.1 = q.2 then none else some (q.1, q.2)) = _
      rw [if_neg k3]
    refine ⟨.tuple [.int q.1, .int q.2] :: ds, .cons (.tup a1 a1 a3 (.cons (.int _) (.cons (.int _) .nil))) i1, ?_, fun d hd => ?_, by rw [List.map_cons, List.map_cons, e, i4]⟩
    · exact (FxA.cons ((FxA.cons (okI_fx k1).1 (FxA.cons (okI_fx k2).1 (FxA.nil (n := 0)))).tup) i2).up (Nat.le_refl _) (by rw [List.length_cons]; omega)
    · rcases List.mem_cons.mp hd with rfl | hd
      · exact ⟨fun r hr => by rw [e] at hr; cases hr; exact ⟨k1, k2⟩, by rw [e]; rfl⟩
      · exact i3 d hd
def spLo : Sp := fun vs H Q _ => ∃ (p c : Addr) (n : Nat) (t : Addr) (as : List Addr) (ps : List (Nat × Nat)), vs = [.ref p, .ref t] ∧ MS H p c n ∧ n ≤ 900000 ∧ H t = some (.tup (refs as)) ∧ PL H as ps ∧ (∀ q ∈ ps, q.1 < q.2 ∧ q.2 < 1000) ∧ ps.length ≤ 100 ∧
  ∀ (H' : Hp) (L : Addr) (fs : List V) (prs : List (Int × Int)), MS H' p c (n + 200) → Ext p H H' → L ≠ p → L ≠ sysModules → H' L = some (.lst fs) → LP p H' fs prs → (prsL prs).Perm ps → (∀ q ∈ prs, 0 ≤ q.1 ∧ q.1 < 1000 ∧ 0 ≤ q.2 ∧ q.2 < 1000 ∧ q.1 ≠ q.2) → Q (.ref L) H'
theorem er_perm {α : Type} : ∀ {l : List α} {k : Nat} {x : α}, l[k]? = some x → l.Perm (x :: l.eraseIdx k)
  | [], k, x, h => by simp at h
  | y :: r, 0, x, h => by
    have e : y = x := Option.some.inj h
    subst e
    exact .refl _
  | y :: r, k + 1, x, h => (List.Perm.cons y (er_perm (l := r) (k := k) (by simpa using h))).trans (.swap _ _ _)
theorem refs_erase : ∀ (bs : List Addr) (k : Nat), (refs bs).eraseIdx k = refs (bs.eraseIdx k)
  | [], _ => rfl
  | _ :: _, 0 => rfl
  | x :: r, k + 1 => by
    show V.ref x :: (refs r).eraseIdx k = V.ref x :: refs (r.eraseIdx k)
    rw [refs_erase r k]
theorem PL.erase {H : Hp} {bs : List Addr} {ps : List (Nat × Nat)} (h : PL H bs ps) : ∀ k, PL H (bs.eraseIdx k) (ps.eraseIdx k) := by
  induction h with
  | nil => exact fun _ => .nil
  | cons h1 h2 ih =>
    intro k
    cases k with
    | zero => exact h2
    | succ k => exact .cons h1 (ih k)
theorem low_lt {a b : Nat} (h : a < b) : low a b = (a, b) ∧ low b a = (a, b) := by
  unfold low
  exact ⟨if_neg (by omega), if_pos h⟩
section
variable {P : Program} {w : World} {K : PySem.W.Frag} {mg : Str → Option Value} {base : Heap}
theorem ok_lo {f fD : Addr} {fd fdD : FuncData} (F : Fun K "_law_loose" "_law_loose" sLo f fd) (T : TB mg) (D : Cal K mg "_law_draw" fD fdD ["m", "many"]) (GD : FnOk P w K mg base CX0 1 fD fdD ["m", "many"] spDraw) : FnOk P w K mg base CX0 2 f fd ["m", "yard"] spLo := by
  refine F.ok scLo (fun vs H Q E h => ?_) (fun cdv A outer s H vs Q E hr h => ?_)
  · obtain ⟨p, c, n, t, as, ps, rfl, _⟩ := h
    rfl
  · obtain ⟨p, c, n, t, as, ps, rfl, M, hn, ht, hP, hlt, hl, k⟩ := h
    have nd := scLo.nd
    have hr1 : Room 1 _ := hr
    have hu : (A.deeper (envOfC "_law_loose" (defScope sLo) s.heap.objs.size f cdv)).units + 64 < cLine := hr.units
    refine ⟨_, pss_cons (ps_par (i := 2) (j := 3) (by rfl) nd rfl rfl (by decide) rfl rfl (pa_cons (pe_callTy call_listN (by rfl) T.list (by decide +kernel) (pa_cons (pv 1) pa_nil) (by decide)) (pa_cons (pe_lstN pa_nil) pa_nil)) (by rfl))
      (pss_cons (ps_while PassesOwn.never (pt_cmpR (op_neNil (by exact hu)) (pv 2) (pe_lst pa_nil) (nomark _))
        (pss_cons (ps_set (i := 4) nd rfl (Or.inl rfl) (pe_callTy call_listN (by rfl) T.list (by decide +kernel) (pa_cons (pe_bm PySem.F.plainAttrs_list PySem.F.slot_list_pop PySem.F.type_list_pop mt_popAt (pv 2) (pa_cons (pe_call GD hr1 rfl D.g D.kp D.b .nil pass0 (pa_cons (pv 0) (pa_cons (pe_callB call_len_seq (by rfl) T.len PySem.boot_len (pa_cons (pv 2) pa_nil)) pa_nil))) pa_nil)) pa_nil) (by decide)))
      (pss_cons (ps_set (i := 5) nd rfl (Or.inl rfl) (pe_call GD hr1 rfl D.g D.kp D.b .nil pass0 (pa_cons (pv 0) (pa_cons pe_int pa_nil))))
      (C8.pss_cut (ps_set (i := 4) nd rfl (Or.inl rfl) (pe_ifExp (pt_cmpR op_eq (pe_op op_mod (pv 5) pe_int) pe_int (nomark _)) (pe_revP (pv 4)) (pv 4)))
      (pss_one (ps_expr (pe_bm PySem.F.plainAttrs_list PySem.F.slot_list_append PySem.F.type_list_append mt_append (pv 3) (pa_cons (pe_ifExp (pt_cmpR op_lt (pv 5) pe_int (nomark _)) (pv 4) (pe_tupleOf (by rfl) T.tuple (pv 4))) pa_nil))))))))
      (pss_one (ps_ret (pv 3)))), ?_⟩
    refine ⟨_, rfl, t, _, rfl, SqT.of ht, fun lf nlf hlf => ?_⟩
    have s1 := Same.new (o := .lst (refs as)) hlf
    refine ⟨Nat.zero_le _, fun fo nfo hfo => ⟨_, _, rfl, ?_⟩⟩
    have s2 := Same.new (o := .lst []) hfo
    have M1 := M.keep s1
    have nlp := M.apart hlf
    have nfp := M1.apart hfo
    have nlc : lf ≠ c := by
      obtain ⟨o, ho⟩ := M.cAt
      exact fun z => by rw [z, ho] at hlf; cases hlf
    have nfc : fo ≠ c := by
      obtain ⟨o, ho⟩ := M1.cAt
      exact fun z => by rw [z, ho] at hfo; cases hfo
    have nfl : fo ≠ lf := fun z => by rw [z, upd_same] at hfo; cases hfo
    have hfo0 : H fo = none := s1.free hfo
    have M2 := M1.keep s2
    have g1 : (upd (upd H lf (.lst (refs as))) fo (.lst [])) lf = some (.lst (refs as)) := s2 _ _ upd_same
    have g2 := upd_same (H := upd H lf (.lst (refs as))) (a := fo) (o := .lst [])
    have hP2 := hP.mono (sameT (s1.trans s2))
    have e2 : Ext p H (upd (upd H lf (.lst (refs as))) fo (.lst [])) := Ext.same (s1.trans s2)
    generalize upd (upd H lf (.lst (refs as))) fo (.lst []) = H2 at M2 g1 g2 hP2 e2
    refine ⟨fun m σ H' => ∃ (bs : List Addr) (rest : List (Nat × Nat)) (fs : List V) (prs : List (Int × Int)) (v4 v5 : Option V), σ = [some (.ref p), some (.ref t), some (.ref lf), some (.ref fo), v4, v5] ∧ rest.length = m ∧ prs.length + m = ps.length ∧ MS H' p c (n + 2 * prs.length) ∧ Ext p H H' ∧ H' lf = some (.lst (refs bs)) ∧ PL H' bs rest ∧ H' fo = some (.lst fs) ∧ LP p H' fs prs ∧ (prsL prs ++ rest).Perm ps ∧ (∀ q ∈ prs, 0 ≤ q.1 ∧ q.1 < 1000 ∧ 0 ≤ q.2 ∧ q.2 < 1000 ∧ q.1 ≠ q.2),
      ⟨ps.length, as, ps, [], [], none, none, rfl, rfl, Nat.zero_add _, M2, e2, g1, hP2, g2, .nil, .refl _, fun q hq => absurd hq (by simp)⟩, ?_⟩
    rintro m σ H3 ⟨bs, rest, fs, prs, v4, v5, rfl, hrl, hpm, M3, e3, hlf3, hP3, hfo3, hLP, hperm, hsm⟩
    refine ⟨_, rfl, Nat.zero_le _, fun em hem => ?_⟩
    have s4 := Same.new (o := .lst []) hem
    have lb : (refs bs).length = m := by rw [show (refs bs).length = bs.length from List.length_map _, hP3.len, hrl]
    refine ⟨lf, em, refs bs, rfl, rfl, SqL.of (s4 _ _ hlf3), upd_same, _, rfl, ?_⟩
    have M4 := M3.keep s4
    have e4 := e3.trans (Ext.same s4)
    have hlf4 := s4 _ _ hlf3
    have hP4 := hP3.mono (sameT s4)
    have hfo4 := s4 _ _ hfo3
    have hLP4 := hLP.same s4
    generalize upd H3 em (.lst []) = H4 at s4 M4 e4 hlf4 hP4 hfo4 hLP4
    rw [lb]
    by_cases h0 : m = 0
    · rw [decide_eq_true h0]
      refine iteF ⟨_, rfl, ?_⟩
      have hr0 : rest = [] := List.eq_nil_of_length_eq_zero (by omega)
      subst hr0
      rw [List.append_nil] at hperm
      exact k H4 fo fs prs (M4.lt (by omega) (by omega)) e4 nfp nfo hfo4 hLP4 hperm hsm
    · rw [decide_eq_false h0]
      refine iteT ⟨fun σ H' => ∃ (bs : List Addr) (rest : List (Nat × Nat)) (fs : List V) (prs : List (Int × Int)) (v4 v5 : Option V), σ = [some (.ref p), some (.ref t), some (.ref lf), some (.ref fo), v4, v5] ∧ rest.length = m - 1 ∧ prs.length + (m - 1) = ps.length ∧ MS H' p c (n + 2 * prs.length) ∧ Ext p H H' ∧ H' lf = some (.lst (refs bs)) ∧ PL H' bs rest ∧ H' fo = some (.lst fs) ∧ LP p H' fs prs ∧ (prsL prs ++ rest).Perm ps ∧ (∀ q ∈ prs, 0 ≤ q.1 ∧ q.1 < 1000 ∧ 0 ≤ q.2 ∧ q.2 < 1000 ∧ q.1 ≠ q.2), fun σ' H' h => ⟨m - 1, by omega, h⟩, ?_⟩
      refine ⟨_, rfl, .inl ⟨rfl, _, SqL.of hlf4⟩, _, rfl, _, rfl, lf, _, rfl, .inl (SqL.of hlf4), p, c, _, _, rfl, M4, by omega, by omega, by omega, fun H5 r M5 B5 r0 r1 => ?_⟩
      obtain ⟨j, rfl⟩ : ∃ j : Nat, r = (j : Nat) := ⟨r.toNat, by omega⟩
      have hj : j < rest.length := by omega
      obtain ⟨q, hq⟩ : ∃ q, rest[j]? = some q := ⟨_, List.getElem?_eq_getElem hj⟩
      obtain ⟨a, ha, hpa⟩ := hP4.get hq
      have hx : (refs bs)[j]? = some (V.ref a) := by
        show (bs.map _)[j]? = _
        rw [List.getElem?_map, ha]
        rfl
      have hlf5 := (B5 lf nlp).trans hlf4
      have hfo5 := (B5 fo nfp).trans hfo4
      have hP5 := hP4.mono (tupE M4 B5.ext)
      have hLP5 := hLP4.ext B5.ext
      have hpa5 := tupE M4 B5.ext _ _ hpa
      refine ⟨lf, _, _, j, _, rfl, rfl, hlf5, by omega, by omega, seq_ix (by omega), hx, ?_⟩
      rw [refs_erase]
      have kT : ∀ b zs, H5 b = some (.tup zs) → (upd H5 lf (.lst (refs (bs.eraseIdx j)))) b = some (.tup zs) := fun b zs h => (upd_ne (ne_of h hlf5 (by intro z; cases z))).trans h
      have kL : ∀ b (x y : Int), H5 b = some (.lst [.int x, .int y]) → (upd H5 lf (.lst (refs (bs.eraseIdx j)))) b = some (.lst [.int x, .int y]) := fun b x y h => (upd_ne (ne_of h hlf5 (by
        intro z
        have z := HO.lst.inj (Option.some.inj (congrArg some z))
        cases bs with
        | nil => cases z
        | cons b' bs => cases z))).trans h
      have M6 := M5.wr (o := .lst (refs (bs.eraseIdx j))) nlp nlc
      have e6 : Ext p H (upd H5 lf (.lst (refs (bs.eraseIdx j)))) := (e4.trans B5.ext).wr hlf
      have hlf6 := upd_same (H := H5) (a := lf) (o := .lst (refs (bs.eraseIdx j)))
      have hfo6 : (upd H5 lf (.lst (refs (bs.eraseIdx j)))) fo = some (.lst fs) := (upd_ne nfl).trans hfo5
      have hP6 := (hP5.mono kT).erase j
      have hLP6 : LP p (upd H5 lf (.lst (refs (bs.eraseIdx j)))) fs prs := hLP5.mono fun a q _ => ⟨kL a q.1 q.2, kT a _⟩
      have hpa6 := kT _ _ hpa5
      generalize upd H5 lf (.lst (refs (bs.eraseIdx j))) = H6 at M6 e6 hlf6 hfo6 hP6 hLP6 hpa6
      have hqp := er_perm hq
      refine ⟨a, _, rfl, SqT.of hpa6, fun pl npl hpl => ?_⟩
      have s7 := Same.new (o := .lst [V.int (q.1 : Nat), V.int (q.2 : Nat)]) hpl
      have g7 := upd_same (H := H6) (a := pl) (o := .lst [V.int (q.1 : Nat), V.int (q.2 : Nat)])
      have M7 := M6.keep s7
      have npp := M6.apart hpl
      have e7 := e6.trans (Ext.same s7)
      have hlf7 := s7 _ _ hlf6
      have hfo7 := s7 _ _ hfo6
      have hP7 := hP6.mono (sameT s7)
      have hLP7 := hLP6.same s7
      generalize upd H6 pl (.lst [V.int (q.1 : Nat), V.int (q.2 : Nat)]) = H7 at s7 g7 M7 e7 hlf7 hfo7 hP7 hLP7
      refine ⟨_, rfl, p, c, _, 4, rfl, M7, by omega, by decide, by decide, fun H8 wy M8 B8 w0 w4 => ?_⟩
      have g8 := (B8 pl npp).trans g7
      have e8 := e7.trans B8.ext
      have hlf8 := (B8 lf nlp).trans hlf7
      have hfo8 := (B8 fo nfp).trans hfo7
      have hP8 := hP7.mono (tupE M7 B8.ext)
      have hLP8 := hLP7.ext B8.ext
      have hqlt := hlt q (hperm.mem_iff.mp (List.mem_append.mpr (.inr (List.mem_of_getElem? hq))))
      refine ⟨fun σ H9 => ∃ (b : Addr) (u : Int × Int), σ = [some (.ref p), some (.ref t), some (.ref lf), some (.ref fo), some (.ref b), some (.int wy)] ∧ b ≠ p ∧ b ≠ sysModules ∧ H9 b = some (.lst [.int u.1, .int u.2]) ∧ low u.1.toNat u.2.toNat = q ∧ (0 ≤ u.1 ∧ u.1 < 1000 ∧ 0 ≤ u.2 ∧ u.2 < 1000 ∧ u.1 ≠ u.2) ∧ Same H8 H9, ?_, ?_⟩
      · refine ⟨_, rfl, _, _, rfl, rfl, (by show (0 : Int) < 2; decide), rfl, _, rfl, ?_⟩
        refine ite2 (fun _ => ?_) (fun _ => ?_)
        · refine ⟨_, rfl, pl, _, _, rfl, SqL.of g8, fun b nb hb => ?_⟩
          refine ⟨b, ((q.2 : Nat), (q.1 : Nat)), rfl, M8.apart hb, nb, upd_same, ?_, ?_, Same.new hb⟩
          · show low (((q.2 : Nat) : Int)).toNat (((q.1 : Nat) : Int)).toNat = q
            rw [show (((q.2 : Nat) : Int)).toNat = q.2 by omega, show (((q.1 : Nat) : Int)).toNat = q.1 by omega, (low_lt hqlt.1).2]
          · show 0 ≤ ((q.2 : Nat) : Int) ∧ ((q.2 : Nat) : Int) < 1000 ∧ 0 ≤ ((q.1 : Nat) : Int) ∧ ((q.1 : Nat) : Int) < 1000 ∧ ((q.2 : Nat) : Int) ≠ ((q.1 : Nat) : Int)
            omega
        · refine ⟨_, rfl, pl, ((q.1 : Nat), (q.2 : Nat)), rfl, npp, npl, g8, ?_, ?_, Same.refl H8⟩
          · show low (((q.1 : Nat) : Int)).toNat (((q.2 : Nat) : Int)).toNat = q
            rw [show (((q.2 : Nat) : Int)).toNat = q.2 by omega, show (((q.1 : Nat) : Int)).toNat = q.1 by omega, (low_lt hqlt.1).1]
          · show 0 ≤ ((q.1 : Nat) : Int) ∧ ((q.1 : Nat) : Int) < 1000 ∧ 0 ≤ ((q.2 : Nat) : Int) ∧ ((q.2 : Nat) : Int) < 1000 ∧ ((q.1 : Nat) : Int) ≠ ((q.2 : Nat) : Int)
            omega
      · rintro σ H9 ⟨b, u, rfl, nb, nbs, hb, hlow, hu, s9⟩
        have M9 := M8.keep s9
        have e9 := e8.trans (Ext.same s9)
        have hlf9 := s9 _ _ hlf8
        have hfo9 := s9 _ _ hfo8
        have hP9 := hP8.mono (sameT s9)
        have hLP9 := hLP8.same s9
        have lfs : fs.length = prs.length := hLP9.len
        have fin : ∀ (x : V) (HA : Hp), Same H9 HA → LP p HA [x] [u] → ∃ (bs' : List Addr) (rest' : List (Nat × Nat)) (fs' : List V) (prs' : List (Int × Int)) (v4 v5 : Option V), [some (V.ref p), some (.ref t), some (.ref lf), some (.ref fo), some (.ref b), some (.int wy)] = [some (.ref p), some (.ref t), some (.ref lf), some (.ref fo), v4, v5] ∧ rest'.length = m - 1 ∧ prs'.length + (m - 1) = ps.length ∧ MS (upd HA fo (.lst (fs ++ [x]))) p c (n + 2 * prs'.length) ∧ Ext p H (upd HA fo (.lst (fs ++ [x]))) ∧ (upd HA fo (.lst (fs ++ [x]))) lf = some (.lst (refs bs')) ∧ PL (upd HA fo (.lst (fs ++ [x]))) bs' rest' ∧ (upd HA fo (.lst (fs ++ [x]))) fo = some (.lst fs') ∧ LP p (upd HA fo (.lst (fs ++ [x]))) fs' prs' ∧ (prsL prs' ++ rest').Perm ps ∧ (∀ q ∈ prs', 0 ≤ q.1 ∧ q.1 < 1000 ∧ 0 ≤ q.2 ∧ q.2 < 1000 ∧ q.1 ≠ q.2) := fun x HA sA hx => by
          have hfoA := sA _ _ hfo9
          have kT : ∀ b zs, HA b = some (.tup zs) → (upd HA fo (.lst (fs ++ [x]))) b = some (.tup zs) := fun b zs h => (upd_ne (ne_of h hfoA (by intro z; cases z))).trans h
          have rf : ∀ y ∈ fs, ∃ a, y = V.ref a := hLP9.refs
          have kL : ∀ b (x' y : Int), HA b = some (.lst [.int x', .int y]) → (upd HA fo (.lst (fs ++ [x]))) b = some (.lst [.int x', .int y]) := fun b x' y h => (upd_ne (ne_of h hfoA (by
            intro z
            have z : [V.int x', V.int y] = fs := HO.lst.inj z
            obtain ⟨a, ha⟩ := rf (.int x') (by rw [← z]; exact List.mem_cons_self ..)
            cases ha))).trans h
          refine ⟨bs.eraseIdx j, rest.eraseIdx j, fs ++ [x], prs ++ [u], _, _, rfl, ?_, ?_, ?_, (e9.trans (Ext.same sA)).wr hfo0, ?_, ?_, upd_same, ?_, ?_, ?_⟩
          · rw [List.length_eraseIdx_of_lt hj]
            omega
          · rw [List.length_append]
            show prs.length + 1 + (m - 1) = _
            omega
          · exact ((M9.keep sA).wr nfp nfc).lt (by rw [List.length_append]; show _ ≤ n + 2 * (prs.length + 1); omega) (by rw [List.length_append]; show n + 2 * (prs.length + 1) ≤ _; omega)
          · exact (upd_ne (Ne.symm nfl)).trans (sA _ _ hlf9)
          · exact (hP9.mono (sameT sA)).mono kT
          · exact ((hLP9.same sA).mono fun a q _ => ⟨kL a q.1 q.2, kT a _⟩).app (hx.mono fun a q _ => ⟨kL a q.1 q.2, kT a _⟩)
          · rw [show prsL (prs ++ [u]) = prsL prs ++ [low u.1.toNat u.2.toNat] from List.map_append, hlow, List.append_assoc]
            exact (List.Perm.append_left (prsL prs) hqp.symm).trans hperm
          · intro q' hq'
            rcases List.mem_append.mp hq' with hq' | hq'
            · exact hsm q' hq'
            · rw [List.mem_singleton.mp hq']
              exact hu
        refine ⟨_, rfl, .inl ⟨rfl, _, SqL.of hfo9⟩, _, rfl, _, _, rfl, rfl, _, rfl, ?_⟩
        refine ite2 (fun _ => ?_) (fun _ => ?_)
        · exact ⟨_, rfl, fo, _, _, rfl, rfl, hfo9, small1000 (by omega), fin _ H9 (Same.refl H9) (.lst nb nbs hb .nil)⟩
        · refine ⟨_, rfl, .inl ⟨b, _, rfl, SqL.of hb, fun tq htq => ?_⟩⟩
          have sT := Same.new (o := .tup [V.int u.1, V.int u.2]) htq
          exact ⟨fo, _, _, rfl, rfl, sT _ _ hfo9, small1000 (by omega), fin _ _ sT (.tup (M9.apart htq) upd_same .nil)⟩
end
end One
end P_YF

section P_YG
set_option linter.all false
set_option maxRecDepth 100000
set_option maxHeartbeats 16000000
namespace One
open PySem PySem.Spec PyProof.Rows L2
def CPowB (i j : Int) : Prop := 0 ≤ j ∧ (Builtin.Int.intBits i : Int) * j ≤ 2 ^ 27
theorem op_powB {X : Cx} : OpR X (binaryOp .Pow) (rI CPowB fun i j => .int (i ^ j.toNat)) := opI fun _ _ _ _ _ _ _ hc q => pow_int hc.1 hc.2 q
theorem powB_30 : CPowB 10 30 := ⟨by decide, by decide +kernel⟩
theorem LP.get {p : Addr} {H : Hp} {xs : List V} {prs : List (Int × Int)} (h : LP p H xs prs) : ∀ {i : Nat} {q : Int × Int}, prs[i]? = some q → ∃ a, xs[i]? = some (.ref a) ∧ a ≠ p ∧ (H a = some (.lst [.int q.1, .int q.2]) ∨ H a = some (.tup [.int q.1, .int q.2])) := by
  induction h with
  | nil => exact fun {i q} e => by simp at e
  | lst a b c _ ih =>
    intro i q e
    cases i with
    | zero => cases e; exact ⟨_, rfl, a, .inl c⟩
    | succ i => exact ih (i := i) (by simpa using e)
  | tup a c _ ih =>
    intro i q e
    cases i with
    | zero => cases e; exact ⟨_, rfl, a, .inr c⟩
    | succ i => exact ih (i := i) (by simpa using e)
/-- the one ahead, the last one ahead of the first -/
theorem LP.prev {p : Addr} {H : Hp} {xs : List V} {prs : List (Int × Int)} (h : LP p H xs prs) {i : Nat} (hi : i < prs.length) : ∃ (x : V) (u : Int × Int) (a : Addr), atI xs (((i : Nat) : Int) - 1) = some x ∧ u ∈ prs ∧ x = .ref a ∧ a ≠ p ∧ (H a = some (.lst [.int u.1, .int u.2]) ∨ H a = some (.tup [.int u.1, .int u.2])) := by
  have hl := h.len
  cases i with
  | zero =>
    obtain ⟨u, hu⟩ : ∃ u, prs[prs.length - 1]? = some u := ⟨_, List.getElem?_eq_getElem (by omega)⟩
    obtain ⟨a, h1, h2, h3⟩ := h.get hu
    refine ⟨.ref a, u, a, ?_, List.mem_of_getElem? hu, rfl, h2, h3⟩
    have e : xs = xs.take (xs.length - 1) ++ [V.ref a] := by
      rw [← hl] at h1
      obtain ⟨h5, h6⟩ := List.getElem?_eq_some_iff.mp h1
      have := List.take_append_drop (xs.length - 1) xs
      rw [List.drop_eq_getElem_cons h5, h6, show xs.length - 1 + 1 = xs.length by omega, List.drop_length] at this
      exact this.symm
    rw [e]
    exact atI_last _ _
  | succ i =>
    obtain ⟨u, hu⟩ : ∃ u, prs[i]? = some u := ⟨_, List.getElem?_eq_getElem (by omega)⟩
    obtain ⟨a, h1, h2, h3⟩ := h.get hu
    exact ⟨.ref a, u, a, at_of (j := i) (by omega) h1, List.mem_of_getElem? hu, rfl, h2, h3⟩
theorem Rw.at {G : PyData → Prop} {p : Addr} {H : Hp} {xs : List V} {k n i : Nat} {x : V} (h : Rw G p H xs k n) (e : xs[i]? = some x) : ∃ d, True ∧ Da p p H x d ∧ Fx d k n ∧ G d := by
  obtain ⟨ds, a, b, c⟩ := h
  obtain ⟨d, he, hd⟩ := a.get e
  have hm := List.mem_of_getElem? he
  exact ⟨d, trivial, hd, b.mem hm, c d hm⟩
theorem Rw.rep {G : PyData → Prop} {p : Addr} {H : Hp} {xs : List V} {k n : Nat} (h : Rw G p H xs k n) : ∀ m, Rw G p H (List.replicate m xs).flatten k (m * n)
  | 0 => ⟨[], .nil, FxA.nil, fun d hd => absurd hd (by simp)⟩
  | m + 1 => by
    rw [List.replicate_succ, List.flatten_cons]
    exact (h.app (h.rep m)).up (Nat.le_refl _) (by rw [Nat.succ_mul]; omega)
theorem pg_two {a b : Int} (ha : okI a) (hb : okI b) : PG (.tuple [.int a, .int b]) := fun q hq => by
  have hq : (if a = b then none else some (a, b)) = some q := hq
  split at hq
  · cases hq
  · cases hq
    exact ⟨ha, hb⟩
theorem pg_twoL {a b : Int} (ha : okI a) (hb : okI b) : PG (.list [.int a, .int b]) := fun q hq => by
  have hq : (if a = b then none else some (a, b)) = some q := hq
  split at hq
  · cases hq
  · cases hq
    exact ⟨ha, hb⟩
/-- rows of lists or tuples are no pair -/
theorem pg_rows {ds : List PyData} {G : PyData → Prop} (h : ∀ d ∈ ds, G d) (hg : ∀ d, G d → ∀ i, d ≠ .int i) : PG (.list ds) := fun q hq => by
  have hq : pair2 ds = some q := hq
  match ds, h, hq with
  | [x, y], h, hq =>
    cases x with
    | int i => exact absurd rfl (hg _ (h _ (List.mem_cons_self ..)) i)
    | _ => cases hq
  | [], _, hq => cases hq
  | [a], _, hq => cases a <;> cases hq
  | a :: b :: c :: r, _, hq => cases a <;> first | cases hq | (cases b <;> cases hq)
theorem lr41 (fs : List V) : (List.replicate 41 fs).flatten.length = 41 * fs.length := by
  rw [List.length_flatten, List.map_replicate, List.sum_replicate_nat]
theorem e41 (fs : List V) : List.replicate (41 : Int).toNat fs = List.replicate 41 fs := by
  rw [show (41 : Int).toNat = 41 by decide]
theorem cut_len (xs : List V) (lo hi : Option Int) : (cutV xs lo hi).length ≤ xs.length := by
  unfold cutV
  rw [List.length_take, List.length_drop]
  omega
theorem cut_take {xs : List V} {i : Nat} (h : i ≤ xs.length) : cutV xs none (some (i : Nat)) = xs.take i := by
  unfold cutV
  rw [HT.sIx_none, HT.sIx_nat, List.drop_zero, Nat.sub_zero, Nat.min_eq_left h]
theorem cut_drop {xs : List V} {i : Nat} (h : i ≤ xs.length) : cutV xs (some (i : Nat)) none = xs.drop i := by
  unfold cutV
  rw [HT.sIx_none, HT.sIx_nat, Nat.min_eq_left h]
  exact List.take_of_length_le (by rw [List.length_drop]; omega)
section
variable {K : PySem.W.Frag} {σ : L2.St} {i j : Nat} {q : Addr} {z : Int} {xs ys : List V} {H : Hp} {Q : VK}
theorem rd_catN {a b : Addr} (ha : H a = some (.lst xs)) (hb : H b = some (.lst ys)) (hl : xs.length + ys.length ≤ sizeLine) (k : ∀ p, p ≠ sysModules → H p = none → Q (.ref p) (upd H p (.lst (xs ++ ys)))) : rCatN K (.ref a) (.ref b) H Q :=
  ⟨a, b, xs, ys, rfl, rfl, SqL.of ha, hb, hl, k⟩
theorem sl_toL (hi : σ[i]? = some (some (V.ref q))) (hj : σ[j]? = some (some (V.int z))) (hq : H q = some (.lst xs)) (k : ∀ t, H t = none → Q (.ref t) (upd H t (.lst (cutV xs none (some z))))) : tSl (rSlL K) (tVar i) tNoPart (tPart (tVar j)) σ H Q :=
  ⟨_, hi, _, hj, _, rfl, q, xs, rfl, SqL.of hq, k⟩
theorem sl_toS {c : Int} (hi : σ[i]? = some (some (V.ref q))) (hj : σ[j]? = some (some (V.int z))) (hq : H q = some (.lst xs)) (k : ∀ t, H t = none → Q (.ref t) (upd H t (.lst (cutV xs none (some (z - c)))))) : tSl (rSlL K) (tVar i) tNoPart (tPart (tOp (rI0 fun i j => .int (i - j)) (tVar j) (tC (V.int c)))) σ H Q :=
  ⟨_, hi, _, hj, _, _, rfl, rfl, _, rfl, q, xs, rfl, SqL.of hq, k⟩
theorem sl_from1L {c : Int} (hi : σ[i]? = some (some (V.ref q))) (hj : σ[j]? = some (some (V.int z))) (hq : H q = some (.lst xs)) (k : ∀ t, H t = none → Q (.ref t) (upd H t (.lst (cutV xs (some (z + c)) none)))) :
    tSl (rSlL K) (tVar i) (tPart (tOp (rI0 fun i j => .int (i + j)) (tVar j) (tC (V.int c)))) tNoPart σ H Q :=
  ⟨_, hi, _, hj, _, _, rfl, rfl, _, rfl, by unfold tNoPart; dsimp only; exact ⟨q, xs, rfl, SqL.of hq, k⟩⟩
end
abbrev sBe : Stmt := top 39
abbrev nBe : List Str := ["m", "pairs", "at", "way", "wide", "one", "other", "some", "fresh", "spot", "start", "stop"]
theorem scBe : FnScope nBe ["m", "pairs"] (defScope sBe) := ⟨rfl, rfl, rfl, by decide +kernel, rfl, by decide +kernel, by decide +kernel⟩
def spBe : Sp := fun vs H Q _ => ∃ (p c : Addr) (n : Nat) (L : Addr) (fs : List V) (prs : List (Int × Int)), vs = [.ref p, .ref L] ∧ MS H p c n ∧ n ≤ 900000 ∧ L ≠ p ∧ L ≠ sysModules ∧ H L = some (.lst fs) ∧ LP p H fs prs ∧ (∀ q ∈ prs, okI q.1 ∧ okI q.2 ∧ q.1 ≠ q.2) ∧ 0 < prs.length ∧ prs.length ≤ 820 ∧
  ∀ (H' : Hp) (v : V) (d : PyData), MS H' p c (n + 8) → Ext p H H' → Da p p H' v d → Fx d 4 110000 → (∀ es, d = .list es → es.length ≤ 41 * prs.length ∧ (∀ e ∈ es, PG e) ∧ ((∀ e ∈ es, (pairD e).isSome) → 2 ≤ prs.length → 0 < es.length)) → Q v H'
section
variable {P : Program} {w : World} {K : PySem.W.Frag} {mg : Str → Option Value} {base : Heap}
theorem ok_be {f fD : Addr} {fd fdD : FuncData} (F : Fun K "_law_bent" "_law_bent" sBe f fd) (T : TB mg) (hstr : mg "str" = none) (D : Cal K mg "_law_draw" fD fdD ["m", "many"]) (GD : FnOk P w K mg base CX0 1 fD fdD ["m", "many"] spDraw) : FnG P w K mg base CX0 2 f fd ["m", "pairs"] spBe := by
  refine okG0 F scBe (fun vs H Q E h => ?_) (fun cdv A outer s H vs Q E hgd hr h => ?_)
  · obtain ⟨p, c, n, L, fs, prs, rfl, _⟩ := h
    rfl
  · obtain ⟨p, c, n, L, fs, prs, rfl, M, hn, nL, nLs, hL, lp, hok, hp0, hp1, kk⟩ := h
    have nd := scBe.nd
    have hr1 : Room 1 _ := hr
    have hu : (A.deeper (envOfC "_law_bent" (defScope sBe) s.heap.objs.size f cdv)).units + 64 < cLine := hr.units
    refine ⟨_, pss_cons (ps_par3 (i := 2) (j := 3) (l := 4) (by rfl) nd rfl rfl rfl (by decide) (by decide) (by decide) rfl rfl rfl (pa_cons (pe_call GD hr1 rfl D.g D.kp D.b .nil pass0 (pa_cons (pv 0) (pa_cons (pe_callB call_len_seq (by rfl) T.len PySem.boot_len (pa_cons (pv 1) pa_nil)) pa_nil))) (pa_cons (pe_call GD hr1 rfl D.g D.kp D.b .nil pass0 (pa_cons (pv 0) (pa_cons pe_int pa_nil))) (pa_cons (pe_op op_mul pe_int (pe_callB call_len_seq (by rfl) T.len PySem.boot_len (pa_cons (pv 1) pa_nil))) pa_nil))) (by rfl))
      (pss_cons (ps_asg (pe_ix ix_list (pv 1) (pv 2) (fun _ _ => rfl)) (pg_seq rfl (pgs_cons (pg_name (i := 5) nd rfl (Or.inl rfl)) (pgs_cons (pg_name (i := 6) nd rfl (Or.inl rfl)) pgs_nil))))
      (pss_cons (ps_if (pt_cmpR op_eq (pv 3) pe_int (nomark _)) (pss_cons (ps_set (i := 7) nd rfl (Or.inl rfl) (pe_lst (pa_cons pe_non (pa_cons (pe_lstN (pa_cons (pv 5) pa_nil)) (pa_cons (pe_lstN (pa_cons (pv 5) (pa_cons (pv 6) (pa_cons (pv 5) pa_nil)))) (pa_cons (pe_tup (pa_cons (pv 5) (pa_cons (pv 5) pa_nil))) (pa_cons (pe_lstN (pa_cons pe_bl (pa_cons (pv 6) pa_nil))) (pa_cons (pe_lstN (pa_cons (pv 5) (pa_cons pe_non pa_nil))) pa_nil))))))))
      (pss_cons (ps_set (i := 7) nd rfl (Or.inl rfl) (pe_op op_catN (pv 7) (pe_lst (pa_cons pe_str (pa_cons (pe_lstN (pa_cons (pv 5) (pa_cons (pe_callTy (call_strD (by exact hgd) (by exact hu)) (by rfl) hstr (by decide +kernel) (pa_cons (pv 6) pa_nil) (by decide)) pa_nil))) (pa_cons pe_int (pa_cons pe_dnewK pa_nil)))))))
      (pss_one (ps_ret (pe_op op_catN (pe_op op_catN (pe_slice sl_list (pv 1) po_none (po_some (pv 2))) (pe_lst (pa_cons (pe_ix ix_list (pv 7) (pe_call GD hr1 rfl D.g D.kp D.b .nil pass0 (pa_cons (pv 0) (pa_cons pe_int pa_nil))) (fun _ _ => rfl)) pa_nil))) (pe_slice sl_list (pv 1) (po_some (pe_op op_add (pv 2) pe_int)) po_none)))))) pss_nil)
      (pss_cons (ps_if (pt_cmpR op_eq (pv 3) pe_int (nomark _)) (pss_cons (ps_set (i := 8) nd rfl (Or.inl rfl) (pe_tup (pa_cons (pv 5) (pa_cons (pe_ix ix_list (pe_lst (pa_cons (pe_un un_neg pe_int) (pa_cons (pv 4) (pa_cons (pe_op op_add (pv 4) pe_int) (pa_cons (pe_op op_powB pe_int pe_int) (pa_cons (pe_call GD hr1 rfl D.g D.kp D.b .nil pass0 (pa_cons (pv 0) (pa_cons (pv 4) pa_nil))) pa_nil)))))) (pe_call GD hr1 rfl D.g D.kp D.b .nil pass0 (pa_cons (pv 0) (pa_cons pe_int pa_nil))) (fun _ _ => rfl)) pa_nil))))
      (pss_one (ps_ret (pe_op op_catN (pe_op op_catN (pe_slice sl_list (pv 1) po_none (po_some (pv 2))) (pe_lst (pa_cons (pe_ifExp (pt_cmpR op_ne (pe_ix ix_tup (pv 8) pe_int (fun _ _ => rfl)) (pv 5) (nomark _)) (pv 8) (pe_tup (pa_cons (pv 5) (pa_cons (pv 4) pa_nil)))) pa_nil))) (pe_slice sl_list (pv 1) (po_some (pe_op op_add (pv 2) pe_int)) po_none))))) pss_nil)
      (pss_cons (ps_if (pt_cmpR op_eq (pv 3) pe_int (nomark _)) (pss_one (ps_ret (pe_op op_catN (pe_slice sl_list (pv 1) po_none (po_some (pv 2))) (pe_slice sl_list (pv 1) (po_some (pe_op op_add (pv 2) pe_int)) po_none)))) pss_nil)
      (pss_cons (ps_if (pt_cmpR op_eq (pv 3) pe_int (nomark _)) (pss_cons (ps_set (i := 9) nd rfl (Or.inl rfl) (pe_call GD hr1 rfl D.g D.kp D.b .nil pass0 (pa_cons (pv 0) (pa_cons (pe_callB call_len_seq (by rfl) T.len PySem.boot_len (pa_cons (pv 1) pa_nil)) pa_nil))))
      (pss_one (ps_ret (pe_op op_catN (pe_op op_catN (pe_slice sl_list (pv 1) po_none (po_some (pv 2))) (pe_lst (pa_cons (pe_ix ix_list (pv 1) (pv 9) (fun _ _ => rfl)) pa_nil))) (pe_slice sl_list (pv 1) (po_some (pe_op op_add (pv 2) pe_int)) po_none))))) pss_nil)
      (pss_cons (ps_if (pt_cmpR op_eq (pv 3) pe_int (nomark _)) (pss_cons (ps_asg (pe_ix ix_list (pv 1) (pe_op op_sub (pv 2) pe_int) (fun _ _ => rfl)) (pg_seq rfl (pgs_cons (pg_name (i := 10) nd rfl (Or.inl rfl)) (pgs_cons (pg_name (i := 11) nd rfl (Or.inl rfl)) pgs_nil))))
      (pss_cons (ps_set (i := 8) nd rfl (Or.inl rfl) (pe_lst (pa_cons (pe_tup (pa_cons (pv 10) (pa_cons (pv 6) pa_nil))) (pa_cons (pe_lstN (pa_cons (pv 5) (pa_cons (pv 11) pa_nil))) pa_nil))))
      (pss_one (ps_ret (pe_ifExp (pt_cmpR op_eq (pv 2) pe_int (nomark _)) (pv 1) (pe_op op_catN (pe_op op_catN (pe_slice sl_list (pv 1) po_none (po_some (pe_op op_sub (pv 2) pe_int))) (pv 8)) (pe_slice sl_list (pv 1) (po_some (pe_op op_add (pv 2) pe_int)) po_none))))))) pss_nil)
      (pss_cons (ps_if (pt_cmpR op_eq (pv 3) pe_int (nomark _)) (pss_one (ps_ret (pe_op op_catN (pv 1) (pe_lst (pa_cons (pe_tup (pa_cons (pv 4) (pa_cons (pe_op op_add (pv 4) pe_int) pa_nil))) (pa_cons (pe_tup (pa_cons (pe_op op_add (pv 4) pe_int) (pa_cons (pe_op op_add (pv 4) pe_int) pa_nil))) pa_nil)))))) pss_nil)
      (pss_one (ps_ret (pe_ix ix_list (pe_lst (pa_cons (pe_tupleOf (by rfl) T.tuple (pv 1)) (pa_cons pe_non (pa_cons (pe_tup pa_nil) (pa_cons pe_dnewK (pa_cons (pe_lstN (pa_cons (pv 1) pa_nil)) (pa_cons pe_str (pa_cons pe_int (pa_cons (pe_op op_repN (pv 1) pe_int) pa_nil))))))))) (pe_call GD hr1 rfl D.g D.kp D.b .nil pass0 (pa_cons (pv 0) (pa_cons pe_int pa_nil))) (fun _ _ => rfl))))))))))), ?_⟩
    have hfl := lp.len
    have big : ∀ {i j : Nat}, i ≤ 8000 → j ≤ 8000 → i + j ≤ sizeLine := fun h1 h2 => Nat.le_trans (by omega : _ ≤ 16000) (by decide)
    obtain ⟨ds0, z1, z2, z3, z4⟩ := lp.rw hok
    have R0 : Rw PG p H fs 1 (3 * fs.length) := ⟨ds0, z1, by rw [hfl]; exact z2, fun d hd => (z3 d hd).1⟩
    have fin : ∀ {H' : Hp} {t : Addr} {ys : List V} {m : Nat}, MS H' p c (n + 8) → Ext p H H' → t ≠ p → t ≠ sysModules → H' t = some (.lst ys) → Rw PG p H' ys 3 m → m ≤ 110000 → ys.length ≤ 41 * fs.length → (2 ≤ fs.length → 0 < ys.length) → Q (.ref t) H' := fun {H' t ys m} M' e n1 n2 ht hR hm hl hp => by
      obtain ⟨ds, g, f, cc⟩ := hR
      have hlen := g.len
      exact kk _ _ _ M' e (.lst n1 n1 n2 ht g) (f.lst.up (by decide) hm) (fun es ee => by cases ee; exact ⟨by omega, cc, fun _ h2 => by have := hp (by omega); omega⟩)
    refine ⟨_, rfl, _, rfl, L, _, rfl, .inl (SqL.of hL), p, c, _, _, rfl, M, by omega, by omega, by omega, fun H1 u1 M1 B1 u10 u11 => ?_⟩
    refine ⟨_, rfl, p, c, _, 7, rfl, M1, by omega, by decide, by decide, fun H2 wy M2 B2 w0 w7 => ?_⟩
    have e02 := B1.ext.trans B2.ext
    have hL2 := e02 _ _ nL hL
    have lp2 := lp.ext e02
    have hR2 := R0.extT (ExtT.ofE e02)
    obtain ⟨a1, rfl⟩ : ∃ a1 : Nat, u1 = (a1 : Nat) := ⟨u1.toNat, by omega⟩
    have ha1 : a1 < prs.length := by omega
    refine ⟨_, rfl, L, _, rfl, .inl (SqL.of hL2), _, _, rfl, rfl, .inl ⟨by decide, by decide⟩, _, _, _, rfl, ?_⟩
    obtain ⟨q, hq⟩ : ∃ q, prs[a1]? = some q := ⟨_, List.getElem?_eq_getElem ha1⟩
    obtain ⟨a, hx, hap, ha⟩ := lp2.get hq
    refine ⟨_, rfl, _, rfl, L, _, _, .ref a, rfl, rfl, SqL.of hL2, at_of (j := a1) (by omega) hx, a, [.int q.1, .int q.2], rfl, seq_of ha, rfl, _, _, rfl, _, _, rfl, rfl, ?_⟩
    obtain ⟨q1, q2, q3⟩ := hok q (List.mem_of_getElem? hq)
    obtain ⟨fx, ox⟩ := okI_fx q1
    obtain ⟨fy, oy⟩ := okI_fx q2
    have ck := Nat.le_trans (cut_len fs none (some (a1 : Nat))) (by omega : fs.length ≤ 8000)
    have cf := Nat.le_trans (cut_len fs (some ((a1 : Nat) + 1)) none) (by omega : fs.length ≤ 8000)
    have ck1 := cut_len fs none (some (a1 : Nat))
    have cf1 := cut_len fs (some ((a1 : Nat) + 1)) none
    generalize hwd : (fun i j : Int => V.int (i * j)) 2 ((fs.length : Nat) : Int) = wd
    have hwd : wd = V.int (2 * (fs.length : Int)) := hwd.symm
    subst hwd
    refine ⟨_, rfl, rfl, _, rfl, ?_⟩
    refine ite2 (fun _ => ?_) (fun _ => ?_)
    · skip
      refine ⟨_, rfl, by show 1 ≤ sizeLine; decide, fun qa ya ha => ?_⟩
      have sa := Same.new (o := .lst [V.int q.1]) ha
      have ga := upd_same (H := H2) (a := qa) (o := .lst [V.int q.1])
      have na := M2.apart ha
      have Ma := M2.keep sa
      generalize upd H2 qa (.lst [V.int q.1]) = Ha at sa ga Ma
      refine ⟨_, rfl, _, rfl, _, rfl, by show 3 ≤ sizeLine; decide, fun qb yb hb => ?_⟩
      have sb := Same.new (o := .lst [V.int q.1, V.int q.2, V.int q.1]) hb
      have gb := upd_same (H := Ha) (a := qb) (o := .lst [V.int q.1, V.int q.2, V.int q.1])
      have nb := Ma.apart hb
      have Mb := Ma.keep sb
      generalize upd Ha qb (.lst [V.int q.1, V.int q.2, V.int q.1]) = Hb at sb gb Mb
      refine ⟨_, rfl, _, rfl, by show 2 ≤ sizeLine; decide, fun qc hc => ?_⟩
      have sc := Same.new (o := .tup [V.int q.1, V.int q.1]) hc
      have gc := upd_same (H := Hb) (a := qc) (o := .tup [V.int q.1, V.int q.1])
      have nc := Mb.apart hc
      have Mc := Mb.keep sc
      generalize upd Hb qc (.tup [V.int q.1, V.int q.1]) = Hc at sc gc Mc
      refine ⟨_, rfl, by show 2 ≤ sizeLine; decide, fun qd yd hd => ?_⟩
      have sd := Same.new (o := .lst [V.bl true, V.int q.2]) hd
      have gd := upd_same (H := Hc) (a := qd) (o := .lst [V.bl true, V.int q.2])
      have n0d := Mc.apart hd
      have Md := Mc.keep sd
      generalize upd Hc qd (.lst [V.bl true, V.int q.2]) = Hd at sd gd Md
      refine ⟨_, rfl, by show 2 ≤ sizeLine; decide, fun qe ye he => ?_⟩
      have se := Same.new (o := .lst [V.int q.1, V.non]) he
      have ge := upd_same (H := Hd) (a := qe) (o := .lst [V.int q.1, V.non])
      have ne := Md.apart he
      have Me := Md.keep se
      generalize upd Hd qe (.lst [V.int q.1, V.non]) = He at se ge Me
      refine ⟨by show 6 ≤ sizeLine; decide, fun qf hf => ?_⟩
      have sf := Same.new (o := .lst [V.non, V.ref qa, V.ref qb, V.ref qc, V.ref qd, V.ref qe]) hf
      have gf := upd_same (H := He) (a := qf) (o := .lst [V.non, V.ref qa, V.ref qb, V.ref qc, V.ref qd, V.ref qe])
      have nf := Me.apart hf
      have Mf := Me.keep sf
      generalize upd He qf (.lst [V.non, V.ref qa, V.ref qb, V.ref qc, V.ref qd, V.ref qe]) = Hf at sf gf Mf
      refine ⟨_, rfl, _, rfl, _, rfl, V.int q.2, .int q.2, rfl, .int _, fy.sh, Nat.le_trans fy.dp (by decide), Nat.le_trans (fy.short (by decide)) (by decide), ?_⟩
      refine ⟨by show 2 ≤ sizeLine; decide, fun qg yg hg => ?_⟩
      have sg := Same.new (o := .lst [V.int q.1, V.str (strD (.int q.2))]) hg
      have gg := upd_same (H := Hf) (a := qg) (o := .lst [V.int q.1, V.str (strD (.int q.2))])
      have ng := Mf.apart hg
      have Mg := Mf.keep sg
      generalize upd Hf qg (.lst [V.int q.1, V.str (strD (.int q.2))]) = Hg at sg gg Mg
      refine fun qh hh => ?_
      have sh := Same.new (o := .dK []) hh
      have gh := upd_same (H := Hg) (a := qh) (o := .dK [])
      have nh := Mg.apart hh
      have Mh := Mg.keep sh
      generalize upd Hg qh (.dK []) = Hh at sh gh Mh
      refine ⟨by show 4 ≤ sizeLine; decide, fun qi hi => ?_⟩
      have si := Same.new (o := .lst [V.str "01", V.ref qg, V.int 5, V.ref qh]) hi
      have gi := upd_same (H := Hh) (a := qi) (o := .lst [V.str "01", V.ref qg, V.int 5, V.ref qh])
      have ni := Mh.apart hi
      have Mi := Mh.keep si
      generalize upd Hh qi (.lst [V.str "01", V.ref qg, V.int 5, V.ref qh]) = Hi at si gi Mi
      refine rd_catN ((sg.trans (sh.trans si)) _ _ gf) gi (by show 10 ≤ sizeLine; decide) fun qj yj hj => ?_
      have sj := Same.new (o := .lst ([V.non, V.ref qa, V.ref qb, V.ref qc, V.ref qd, V.ref qe] ++ [V.str "01", V.ref qg, V.int 5, V.ref qh])) hj
      have gj : (upd Hi qj (.lst ([V.non, V.ref qa, V.ref qb, V.ref qc, V.ref qd, V.ref qe] ++ [V.str "01", V.ref qg, V.int 5, V.ref qh]))) qj = some (.lst [V.non, V.ref qa, V.ref qb, V.ref qc, V.ref qd, V.ref qe, V.str "01", V.ref qg, V.int 5, V.ref qh]) := upd_same
      have nj := Mi.apart hj
      have Mj := Mi.keep sj
      generalize upd Hi qj (.lst ([V.non, V.ref qa, V.ref qb, V.ref qc, V.ref qd, V.ref qe] ++ [V.str "01", V.ref qg, V.int 5, V.ref qh])) = Hj at sj gj Mj
      have hLj := (sa.trans (sb.trans (sc.trans (sd.trans (se.trans (sf.trans (sg.trans (sh.trans (si.trans sj))))))))) _ _ hL2
      have xa : Da p p Hj (.ref qa) (.list [.int q.1]) := .lst na na ya ((sb.trans (sc.trans (sd.trans (se.trans (sf.trans (sg.trans (sh.trans (si.trans sj)))))))) _ _ ga) (.cons (.int _) .nil)
      have xb : Da p p Hj (.ref qb) (.list [.int q.1, .int q.2, .int q.1]) := .lst nb nb yb ((sc.trans (sd.trans (se.trans (sf.trans (sg.trans (sh.trans (si.trans sj))))))) _ _ gb) (.cons (.int _) (.cons (.int _) (.cons (.int _) .nil)))
      have xc : Da p p Hj (.ref qc) (.tuple [.int q.1, .int q.1]) := .tup nc nc ((sd.trans (se.trans (sf.trans (sg.trans (sh.trans (si.trans sj)))))) _ _ gc) (.cons (.int _) (.cons (.int _) .nil))
      have xd : Da p p Hj (.ref qd) (.list [.bool true, .int q.2]) := .lst n0d n0d yd ((se.trans (sf.trans (sg.trans (sh.trans (si.trans sj))))) _ _ gd) (.cons (.bl _) (.cons (.int _) .nil))
      have xe : Da p p Hj (.ref qe) (.list [.int q.1, .none]) := .lst ne ne ye ((sf.trans (sg.trans (sh.trans (si.trans sj)))) _ _ ge) (.cons (.int _) (.cons .non .nil))
      have xg : Da p p Hj (.ref qg) (.list [.int q.1, .str (strD (.int q.2))]) := .lst ng ng yg ((sh.trans (si.trans sj)) _ _ gg) (.cons (.int _) (.cons (.str _) .nil))
      have xh : Da p p Hj (.ref qh) (.dict []) := .emp nh nh ((si.trans sj) _ _ gh)
      have every : ∀ z ∈ [V.non, V.ref qa, V.ref qb, V.ref qc, V.ref qd, V.ref qe, V.str "01", V.ref qg, V.int 5, V.ref qh], ∃ d, Da p p Hj z d ∧ Fx d 1 70 ∧ PG d := fun z hz => by
        simp only [List.mem_cons, List.not_mem_nil, or_false] at hz
        rcases hz with rfl | rfl | rfl | rfl | rfl | rfl | rfl | rfl | rfl | rfl
        · exact ⟨_, .non, (⟨by decide +kernel, by decide +kernel, by decide +kernel, by decide +kernel⟩ : Fx .none 0 0).up (by decide) (by decide), fun u hu => by cases hu⟩
        · exact ⟨_, xa, (FxA.cons fx (FxA.nil (n := 0))).lst.up (by decide) (by decide), fun u hu => by cases hu⟩
        · exact ⟨_, xb, (FxA.cons fx (FxA.cons fy (FxA.cons fx (FxA.nil (n := 0))))).lst.up (by decide) (by decide), fun u hu => by cases hu⟩
        · refine ⟨_, xc, (FxA.cons fx (FxA.cons fx (FxA.nil (n := 0)))).tup.up (by decide) (by decide), fun u hu => ?_⟩
          have hu : (if q.1 = q.1 then none else some (q.1, q.1)) = some u := hu
          rw [if_pos rfl] at hu
          cases hu
        · exact ⟨_, xd, (FxA.cons (⟨by decide +kernel, by decide +kernel, by decide +kernel, by decide +kernel⟩ : Fx (.bool true) 0 0) (FxA.cons fy (FxA.nil (n := 0)))).lst.up (by decide) (by decide), fun u hu => by cases hu⟩
        · exact ⟨_, xe, (FxA.cons fx (FxA.cons (⟨by decide +kernel, by decide +kernel, by decide +kernel, by decide +kernel⟩ : Fx .none 0 0) (FxA.nil (n := 0)))).lst.up (by decide) (by decide), fun u hu => by cases hu⟩
        · exact ⟨_, .str _, (⟨by decide +kernel, by decide +kernel, by decide +kernel, by decide +kernel⟩ : Fx (.str "01") 0 2).up (by decide) (by decide), fun u hu => by cases hu⟩
        · exact ⟨_, xg, (FxA.cons fx (FxA.cons oy (FxA.nil (n := 0)))).lst.up (by decide) (by decide), fun u hu => by cases hu⟩
        · exact ⟨_, .int 5, (⟨by decide +kernel, by decide +kernel, by decide +kernel, by decide +kernel⟩ : Fx (.int 5) 0 0).up (by decide) (by decide), fun u hu => by cases hu⟩
        · exact ⟨_, xh, (⟨by decide +kernel, by decide +kernel, by decide +kernel, by decide +kernel⟩ : Fx (.dict []) 1 0).up (by decide) (by decide), fun u hu => by cases hu⟩
      have l10 : ([V.non, V.ref qa, V.ref qb, V.ref qc, V.ref qd, V.ref qe, V.str "01", V.ref qg, V.int 5, V.ref qh] : List V).length = 10 := rfl
      generalize ([V.non, V.ref qa, V.ref qb, V.ref qc, V.ref qd, V.ref qe, V.str "01", V.ref qg, V.int 5, V.ref qh] : List V) = zs at every gj l10
      have sA := (sa.trans (sb.trans (sc.trans (sd.trans (se.trans (sf.trans (sg.trans (sh.trans (si.trans sj)))))))))
      have eA := e02.trans (Ext.same sA)
      have RA := hR2.same sA
      generalize Hj = HA at *
      refine sl_toL rfl rfl hLj fun qk hk => ?_
      have sk := Same.new (o := .lst (cutV fs none (some (a1 : Nat)))) hk
      have gk := upd_same (H := HA) (a := qk) (o := .lst (cutV fs none (some (a1 : Nat))))
      have Mk := Mj.keep sk
      generalize upd HA qk (.lst (cutV fs none (some (a1 : Nat)))) = Hk at sk gk Mk
      refine ⟨_, rfl, _, rfl, p, c, _, 10, rfl, Mk, by omega, by decide, by decide, fun Hl r Ml Bl r0 r10 => ?_⟩
      have hjr : r.toNat < zs.length := by omega
      obtain ⟨dz, hdz, fz, pz⟩ := every _ (List.getElem_mem hjr)
      have gjl := (Bl qj nj).trans (sk _ _ gj)
      refine ⟨qj, _, _, zs[r.toNat], rfl, rfl, SqL.of gjl, at_of (j := r.toNat) (by omega) (List.getElem?_eq_getElem hjr), ?_⟩
      have hLl := (Bl L nL).trans (sk _ _ hLj)
      have gkl := Bl.ext _ _ (Mj.apart hk) gk
      have hdz1 := Da.extT (ExtT.ofE Bl.ext) _ _ (Da.extT (ExtT.ofS sk) _ _ hdz)
      have Rl := (RA.same sk).extT (ExtT.ofE Bl.ext)
      have el := (eA.trans (Ext.same sk)).trans Bl.ext
      refine ⟨by show 1 ≤ sizeLine; decide, fun qt1 ht1 => ?_⟩
      have st1 := Same.new (o := .lst [zs[r.toNat]]) ht1
      have gt1 := upd_same (H := Hl) (a := qt1) (o := .lst [zs[r.toNat]])
      have Mt1 := Ml.keep st1
      generalize upd Hl qt1 (.lst [zs[r.toNat]]) = Ht1 at st1 gt1 Mt1
      refine rd_catN (st1 _ _ gkl) gt1 (big ck (show 1 ≤ 8000 by decide)) fun qt2 yt2 ht2 => ?_
      have st2 := Same.new (o := .lst (cutV fs none (some (a1 : Nat)) ++ [zs[r.toNat]])) ht2
      have gt2 := upd_same (H := Ht1) (a := qt2) (o := .lst (cutV fs none (some (a1 : Nat)) ++ [zs[r.toNat]]))
      have Mt2 := Mt1.keep st2
      generalize upd Ht1 qt2 (.lst (cutV fs none (some (a1 : Nat)) ++ [zs[r.toNat]])) = Ht2 at st2 gt2 Mt2
      refine sl_from1L rfl rfl (st2 _ _ (st1 _ _ hLl)) fun qt3 ht3 => ?_
      have st3 := Same.new (o := .lst (cutV fs (some ((a1 : Nat) + 1)) none)) ht3
      have gt3 := upd_same (H := Ht2) (a := qt3) (o := .lst (cutV fs (some ((a1 : Nat) + 1)) none))
      have Mt3 := Mt2.keep st3
      generalize upd Ht2 qt3 (.lst (cutV fs (some ((a1 : Nat) + 1)) none)) = Ht3 at st3 gt3 Mt3
      refine rd_catN (st3 _ _ gt2) gt3 (big (by rw [List.length_append]; show _ + 1 ≤ 8000; omega) cf) fun qt4 yt4 ht4 => ?_
      have st4 := Same.new (o := .lst (cutV fs none (some (a1 : Nat)) ++ [zs[r.toNat]] ++ cutV fs (some ((a1 : Nat) + 1)) none)) ht4
      have st14 := st1.trans (st2.trans (st3.trans st4))
      refine fin ((Mt3.keep st4).lt (by omega) (by omega)) (el.trans (Ext.same st14)) (Mt3.apart ht4) yt4 upd_same ((((Rl.cut _ _).up (by decide) (Nat.le_refl _)).app (Rw.one hdz1 (fz.up (by decide) (Nat.le_refl _)) pz)).app ((Rl.cut _ _).up (by decide) (Nat.le_refl _)) |>.same st14) (by omega) ?_ ?_
      · rw [List.length_append, List.length_append]
        show _ + 1 + _ ≤ _
        omega
      · intro _
        rw [List.length_append, List.length_append]
        show 0 < _ + 1 + _
        omega
    · skip
      refine ⟨_, rfl, rfl, _, rfl, ?_⟩
      refine ite2 (fun _ => ?_) (fun _ => ?_)
      · skip
        refine ⟨_, rfl, _, rfl, _, rfl, _, rfl, _, _, rfl, rfl, _, _, rfl, rfl, powB_30, _, rfl, _, rfl, p, c, _, _, rfl, M2, by omega, by omega, by omega, fun Ha u1 Ma Ba u10 u11 => ?_⟩
        refine ⟨by show 5 ≤ sizeLine; decide, fun qb hb => ?_⟩
        have sb := Same.new (o := .lst [V.int (-1), V.int (2 * (fs.length : Int)), V.int (2 * (fs.length : Int) + 1), V.int (10 ^ 30), V.int u1]) hb
        have gb : (upd Ha qb (.lst [V.int (-1), V.int (2 * (fs.length : Int)), V.int (2 * (fs.length : Int) + 1), V.int (10 ^ 30), V.int u1])) qb = some (.lst [V.int (-1), V.int (2 * (fs.length : Int)), V.int (2 * (fs.length : Int) + 1), V.int (10 ^ 30), V.int u1]) := upd_same
        have nb := Ma.apart hb
        have Mb := Ma.keep sb
        have sb' : Same Ha (upd Ha qb (.lst [V.int (-1), V.int (2 * (fs.length : Int)), V.int (2 * (fs.length : Int) + 1), V.int (10 ^ 30), V.int u1])) := sb
        refine ⟨_, rfl, p, c, _, 5, rfl, Mb, by omega, by decide, by decide, fun Hc r Mc Bc r0 r5 => ?_⟩
        have evi : ∀ z ∈ [V.int (-1), V.int (2 * (fs.length : Int)), V.int (2 * (fs.length : Int) + 1), V.int (10 ^ 30), V.int u1], ∃ i : Int, z = .int i ∧ okI i := fun z hz => by
          simp only [List.mem_cons, List.not_mem_nil, or_false] at hz
          rcases hz with rfl | rfl | rfl | rfl | rfl
          · exact ⟨_, rfl, .inl (by omega)⟩
          · exact ⟨_, rfl, .inl (by omega)⟩
          · exact ⟨_, rfl, .inl (by omega)⟩
          · exact ⟨_, rfl, .inr rfl⟩
          · exact ⟨_, rfl, .inl (by omega)⟩
        have gbc := (Bc qb nb).trans gb
        have l5 : ([V.int (-1), V.int (2 * (fs.length : Int)), V.int (2 * (fs.length : Int) + 1), V.int (10 ^ 30), V.int u1] : List V).length = 5 := rfl
        have ebc := (Ext.same sb).trans Bc.ext
        generalize upd Ha qb (.lst [V.int (-1), V.int (2 * (fs.length : Int)), V.int (2 * (fs.length : Int) + 1), V.int (10 ^ 30), V.int u1]) = Hb at *
        generalize ([V.int (-1), V.int (2 * (fs.length : Int)), V.int (2 * (fs.length : Int) + 1), V.int (10 ^ 30), V.int u1] : List V) = zs at evi gbc l5
        have hjr : r.toNat < zs.length := by omega
        obtain ⟨z, hz, okz⟩ := evi _ (List.getElem_mem hjr)
        refine ⟨qb, _, _, zs[r.toNat], rfl, rfl, SqL.of gbc, at_of (j := r.toNat) (by omega) (List.getElem?_eq_getElem hjr), ?_⟩
        rw [hz]
        have eac := Ba.ext.trans ebc
        refine ⟨two_le, fun qd hd => ?_⟩
        have sd := Same.new (o := .tup [V.int q.1, V.int z]) hd
        have gd := upd_same (H := Hc) (a := qd) (o := .tup [V.int q.1, V.int z])
        have n0d := Mc.apart hd
        have Md := Mc.keep sd
        generalize upd Hc qd (.tup [V.int q.1, V.int z]) = Hd at sd gd Md
        have eA := eac.trans (Ext.same sd)
        have hLd := eA _ _ nL hL2
        have Rd := hR2.extT (ExtT.ofE eA)
        refine sl_toL rfl rfl hLd fun qe he => ?_
        have se := Same.new (o := .lst (cutV fs none (some (a1 : Nat)))) he
        have ge := upd_same (H := Hd) (a := qe) (o := .lst (cutV fs none (some (a1 : Nat))))
        have Me := Md.keep se
        generalize upd Hd qe (.lst (cutV fs none (some (a1 : Nat)))) = He at se ge Me
        have gd9 := se _ _ gd
        have hLe := se _ _ hLd
        have Re := Rd.same se
        have eE := e02.trans (eA.trans (Ext.same se))
        refine ⟨_, rfl, qd, _, 1, _, rfl, rfl, SqT.of gd9, rfl, _, rfl, rfl, _, rfl, ?_⟩
        have fz := okI_fx okz
        refine ite2 (fun _ => ?_) (fun _ => ?_)
        · skip
          refine ⟨_, rfl, ?_⟩
          have xd : Da p p He (.ref qd) (.tuple [.int q.1, .int z]) := .tup n0d n0d gd9 (.cons (.int _) (.cons (.int _) .nil))
          refine ⟨by show 1 ≤ sizeLine; decide, fun qu1 hu1 => ?_⟩
          have su1 := Same.new (o := .lst [V.ref qd]) hu1
          have gu1 := upd_same (H := He) (a := qu1) (o := .lst [V.ref qd])
          have Mu1 := Me.keep su1
          generalize upd He qu1 (.lst [V.ref qd]) = Hu1 at su1 gu1 Mu1
          refine rd_catN (su1 _ _ ge) gu1 (big ck (show 1 ≤ 8000 by decide)) fun qu2 yu2 hu2 => ?_
          have su2 := Same.new (o := .lst (cutV fs none (some (a1 : Nat)) ++ [V.ref qd])) hu2
          have gu2 := upd_same (H := Hu1) (a := qu2) (o := .lst (cutV fs none (some (a1 : Nat)) ++ [V.ref qd]))
          have Mu2 := Mu1.keep su2
          generalize upd Hu1 qu2 (.lst (cutV fs none (some (a1 : Nat)) ++ [V.ref qd])) = Hu2 at su2 gu2 Mu2
          refine sl_from1L rfl rfl (su2 _ _ (su1 _ _ hLe)) fun qu3 hu3 => ?_
          have su3 := Same.new (o := .lst (cutV fs (some ((a1 : Nat) + 1)) none)) hu3
          have gu3 := upd_same (H := Hu2) (a := qu3) (o := .lst (cutV fs (some ((a1 : Nat) + 1)) none))
          have Mu3 := Mu2.keep su3
          generalize upd Hu2 qu3 (.lst (cutV fs (some ((a1 : Nat) + 1)) none)) = Hu3 at su3 gu3 Mu3
          refine rd_catN (su3 _ _ gu2) gu3 (big (by rw [List.length_append]; show _ + 1 ≤ 8000; omega) cf) fun qu4 yu4 hu4 => ?_
          have su4 := Same.new (o := .lst (cutV fs none (some (a1 : Nat)) ++ [V.ref qd] ++ cutV fs (some ((a1 : Nat) + 1)) none)) hu4
          have su14 := su1.trans (su2.trans (su3.trans su4))
          refine fin ((Mu3.keep su4).lt (by omega) (by omega)) (eE.trans (Ext.same su14)) (Mu3.apart hu4) yu4 upd_same ((((Re.cut _ _).up (by decide) (Nat.le_refl _)).app (Rw.one (Da.extT (ExtT.ofS (Same.refl _)) _ _ xd) ((FxA.cons fx (FxA.cons fz.1 (FxA.nil (n := 0)))).tup.up (by decide) (show _ ≤ 70 by decide)) (pg_two q1 okz))).app ((Re.cut _ _).up (by decide) (Nat.le_refl _)) |>.same su14) (by omega) ?_ ?_
          · rw [List.length_append, List.length_append]
            show _ + 1 + _ ≤ _
            omega
          · intro _
            rw [List.length_append, List.length_append]
            show 0 < _ + 1 + _
            omega
        · skip
          refine ⟨_, rfl, _, rfl, two_le, fun qf hf => ?_⟩
          have sf := Same.new (o := .tup [V.int q.1, V.int (2 * (fs.length : Int))]) hf
          have gf := upd_same (H := He) (a := qf) (o := .tup [V.int q.1, V.int (2 * (fs.length : Int))])
          have nf := Me.apart hf
          have Mf := Me.keep sf
          generalize upd He qf (.tup [V.int q.1, V.int (2 * (fs.length : Int))]) = Hf at sf gf Mf
          have xf : Da p p Hf (.ref qf) (.tuple [.int q.1, .int (2 * (fs.length : Int))]) := .tup nf nf gf (.cons (.int _) (.cons (.int _) .nil))
          have okw : okI (2 * (fs.length : Int)) := .inl (by omega)
          have gef := sf _ _ ge
          have hLf := sf _ _ hLe
          have Rf := Re.same sf
          have eF := eE.trans (Ext.same sf)
          refine ⟨by show 1 ≤ sizeLine; decide, fun qw1 hw1 => ?_⟩
          have sw1 := Same.new (o := .lst [V.ref qf]) hw1
          have gw1 := upd_same (H := Hf) (a := qw1) (o := .lst [V.ref qf])
          have Mw1 := Mf.keep sw1
          generalize upd Hf qw1 (.lst [V.ref qf]) = Hw1 at sw1 gw1 Mw1
          refine rd_catN (sw1 _ _ gef) gw1 (big ck (show 1 ≤ 8000 by decide)) fun qw2 yw2 hw2 => ?_
          have sw2 := Same.new (o := .lst (cutV fs none (some (a1 : Nat)) ++ [V.ref qf])) hw2
          have gw2 := upd_same (H := Hw1) (a := qw2) (o := .lst (cutV fs none (some (a1 : Nat)) ++ [V.ref qf]))
          have Mw2 := Mw1.keep sw2
          generalize upd Hw1 qw2 (.lst (cutV fs none (some (a1 : Nat)) ++ [V.ref qf])) = Hw2 at sw2 gw2 Mw2
          refine sl_from1L rfl rfl (sw2 _ _ (sw1 _ _ hLf)) fun qw3 hw3 => ?_
          have sw3 := Same.new (o := .lst (cutV fs (some ((a1 : Nat) + 1)) none)) hw3
          have gw3 := upd_same (H := Hw2) (a := qw3) (o := .lst (cutV fs (some ((a1 : Nat) + 1)) none))
          have Mw3 := Mw2.keep sw3
          generalize upd Hw2 qw3 (.lst (cutV fs (some ((a1 : Nat) + 1)) none)) = Hw3 at sw3 gw3 Mw3
          refine rd_catN (sw3 _ _ gw2) gw3 (big (by rw [List.length_append]; show _ + 1 ≤ 8000; omega) cf) fun qw4 yw4 hw4 => ?_
          have sw4 := Same.new (o := .lst (cutV fs none (some (a1 : Nat)) ++ [V.ref qf] ++ cutV fs (some ((a1 : Nat) + 1)) none)) hw4
          have sw14 := sw1.trans (sw2.trans (sw3.trans sw4))
          refine fin ((Mw3.keep sw4).lt (by omega) (by omega)) (eF.trans (Ext.same sw14)) (Mw3.apart hw4) yw4 upd_same ((((Rf.cut _ _).up (by decide) (Nat.le_refl _)).app (Rw.one xf ((FxA.cons fx (FxA.cons (okI_fx okw).1 (FxA.nil (n := 0)))).tup.up (by decide) (show _ ≤ 70 by decide)) (pg_two q1 okw))).app ((Rf.cut _ _).up (by decide) (Nat.le_refl _)) |>.same sw14) (by omega) ?_ ?_
          · rw [List.length_append, List.length_append]
            show _ + 1 + _ ≤ _
            omega
          · intro _
            rw [List.length_append, List.length_append]
            show 0 < _ + 1 + _
            omega
      · skip
        refine ⟨_, rfl, rfl, _, rfl, ?_⟩
        refine ite2 (fun _ => ?_) (fun _ => ?_)
        · skip
          refine sl_toL rfl rfl hL2 fun qa ha => ?_
          have sa := Same.new (o := .lst (cutV fs none (some (a1 : Nat)))) ha
          have ga := upd_same (H := H2) (a := qa) (o := .lst (cutV fs none (some (a1 : Nat))))
          have Ma := M2.keep sa
          generalize upd H2 qa (.lst (cutV fs none (some (a1 : Nat)))) = Ha at sa ga Ma
          have hLa := sa _ _ hL2
          refine sl_from1L rfl rfl hLa fun qb hb => ?_
          have sb := Same.new (o := .lst (cutV fs (some ((a1 : Nat) + 1)) none)) hb
          have gb := upd_same (H := Ha) (a := qb) (o := .lst (cutV fs (some ((a1 : Nat) + 1)) none))
          have Mb := Ma.keep sb
          generalize upd Ha qb (.lst (cutV fs (some ((a1 : Nat) + 1)) none)) = Hb at sb gb Mb
          refine rd_catN (sb _ _ ga) gb (big ck cf) fun qc yc hc => ?_
          have sc := Same.new (o := .lst (cutV fs none (some (a1 : Nat)) ++ cutV fs (some ((a1 : Nat) + 1)) none)) hc
          have sac := sa.trans (sb.trans sc)
          refine fin ((Mb.keep sc).lt (by omega) (by omega)) (e02.trans (Ext.same sac)) (Mb.apart hc) yc upd_same ((((hR2.cut _ _).up (by decide) (Nat.le_refl _)).app ((hR2.cut _ _).up (by decide) (Nat.le_refl _))).same sac) (by omega) ?_ ?_
          · rw [List.length_append]
            omega
          · intro h2
            rw [List.length_append, cut_take (by omega : a1 ≤ fs.length), show ((a1 : Nat) : Int) + 1 = ((a1 + 1 : Nat) : Int) from rfl, cut_drop (i := a1 + 1) (by omega : a1 + 1 ≤ fs.length), List.length_take, List.length_drop]
            omega
        · skip
          refine ⟨_, rfl, rfl, _, rfl, ?_⟩
          refine ite2 (fun _ => ?_) (fun _ => ?_)
          · skip
            refine ⟨_, rfl, _, rfl, L, _, rfl, .inl (SqL.of hL2), p, c, _, _, rfl, M2, by omega, by omega, by omega, fun Ha u1 Ma Ba u10 u11 => ?_⟩
            have hLa := (Ba L nL).trans hL2
            have Ra := hR2.extT (ExtT.ofE Ba.ext)
            have lpa := lp2.ext Ba.ext
            refine sl_toL rfl rfl hLa fun qb hb => ?_
            have sb := Same.new (o := .lst (cutV fs none (some (a1 : Nat)))) hb
            have gb := upd_same (H := Ha) (a := qb) (o := .lst (cutV fs none (some (a1 : Nat))))
            have Mb := Ma.keep sb
            generalize upd Ha qb (.lst (cutV fs none (some (a1 : Nat)))) = Hb at sb gb Mb
            have hLb := sb _ _ hLa
            have Rb := Ra.same sb
            have eb := (e02.trans Ba.ext).trans (Ext.same sb)
            obtain ⟨x9, hx9⟩ : ∃ x9, fs[u1.toNat]? = some x9 := ⟨_, List.getElem?_eq_getElem (by omega)⟩
            obtain ⟨d9, hd9, hda9, hf9, hp9⟩ := Rb.at hx9
            refine ⟨_, rfl, _, rfl, L, _, _, x9, rfl, rfl, SqL.of hLb, at_of (j := u1.toNat) (by omega) hx9, ?_⟩
            refine ⟨by show 1 ≤ sizeLine; decide, fun qt1 ht1 => ?_⟩
            have st1 := Same.new (o := .lst [x9]) ht1
            have gt1 := upd_same (H := Hb) (a := qt1) (o := .lst [x9])
            have Mt1 := Mb.keep st1
            generalize upd Hb qt1 (.lst [x9]) = Ht1 at st1 gt1 Mt1
            refine rd_catN (st1 _ _ gb) gt1 (big ck (show 1 ≤ 8000 by decide)) fun qt2 yt2 ht2 => ?_
            have st2 := Same.new (o := .lst (cutV fs none (some (a1 : Nat)) ++ [x9])) ht2
            have gt2 := upd_same (H := Ht1) (a := qt2) (o := .lst (cutV fs none (some (a1 : Nat)) ++ [x9]))
            have Mt2 := Mt1.keep st2
            generalize upd Ht1 qt2 (.lst (cutV fs none (some (a1 : Nat)) ++ [x9])) = Ht2 at st2 gt2 Mt2
            refine sl_from1L rfl rfl (st2 _ _ (st1 _ _ hLb)) fun qt3 ht3 => ?_
            have st3 := Same.new (o := .lst (cutV fs (some ((a1 : Nat) + 1)) none)) ht3
            have gt3 := upd_same (H := Ht2) (a := qt3) (o := .lst (cutV fs (some ((a1 : Nat) + 1)) none))
            have Mt3 := Mt2.keep st3
            generalize upd Ht2 qt3 (.lst (cutV fs (some ((a1 : Nat) + 1)) none)) = Ht3 at st3 gt3 Mt3
            refine rd_catN (st3 _ _ gt2) gt3 (big (by rw [List.length_append]; show _ + 1 ≤ 8000; omega) cf) fun qt4 yt4 ht4 => ?_
            have st4 := Same.new (o := .lst (cutV fs none (some (a1 : Nat)) ++ [x9] ++ cutV fs (some ((a1 : Nat) + 1)) none)) ht4
            have st14 := st1.trans (st2.trans (st3.trans st4))
            refine fin ((Mt3.keep st4).lt (by omega) (by omega)) (eb.trans (Ext.same st14)) (Mt3.apart ht4) yt4 upd_same ((((Rb.cut _ _).up (by decide) (Nat.le_refl _)).app (Rw.one hda9 (hf9.up (by decide) (Nat.le_refl _)) hp9)).app ((Rb.cut _ _).up (by decide) (Nat.le_refl _)) |>.same st14) (by omega) ?_ ?_
            · rw [List.length_append, List.length_append]
              show _ + 1 + _ ≤ _
              omega
            · intro _
              rw [List.length_append, List.length_append]
              show 0 < _ + 1 + _
              omega
          · skip
            refine ⟨_, rfl, rfl, _, rfl, ?_⟩
            refine ite2 (fun _ => ?_) (fun _ => ?_)
            · skip
              obtain ⟨x9, u9, a9, hx9, hu9, rfl, n9, h9⟩ := lp2.prev ha1
              refine ⟨_, rfl, _, rfl, _, _, rfl, rfl, L, _, _, .ref a9, rfl, rfl, SqL.of hL2, hx9, a9, [.int u9.1, .int u9.2], rfl, seq_of h9, rfl, _, _, rfl, _, _, rfl, rfl, ?_⟩
              obtain ⟨k1, k2, k3⟩ := hok u9 hu9
              refine ⟨_, rfl, _, rfl, two_le, fun qa ha => ?_⟩
              have sa := Same.new (o := .tup [V.int u9.1, V.int q.2]) ha
              have ga := upd_same (H := H2) (a := qa) (o := .tup [V.int u9.1, V.int q.2])
              have na := M2.apart ha
              have Ma := M2.keep sa
              generalize upd H2 qa (.tup [V.int u9.1, V.int q.2]) = Ha at sa ga Ma
              refine ⟨_, rfl, _, rfl, two_le, fun qb yb hb => ?_⟩
              have sb := Same.new (o := .lst [V.int q.1, V.int u9.2]) hb
              have gb := upd_same (H := Ha) (a := qb) (o := .lst [V.int q.1, V.int u9.2])
              have nb := Ma.apart hb
              have Mb := Ma.keep sb
              generalize upd Ha qb (.lst [V.int q.1, V.int u9.2]) = Hb at sb gb Mb
              refine ⟨two_le, fun qc hc => ?_⟩
              have sc := Same.new (o := .lst [V.ref qa, V.ref qb]) hc
              have gc := upd_same (H := Hb) (a := qc) (o := .lst [V.ref qa, V.ref qb])
              have nc := Mb.apart hc
              have Mc := Mb.keep sc
              generalize upd Hb qc (.lst [V.ref qa, V.ref qb]) = Hc at sc gc Mc
              have xa : Da p p Hc (.ref qa) (.tuple [.int u9.1, .int q.2]) := .tup na na ((sb.trans sc) _ _ ga) (.cons (.int _) (.cons (.int _) .nil))
              have xb : Da p p Hc (.ref qb) (.list [.int q.1, .int u9.2]) := .lst nb nb yb (sc _ _ gb) (.cons (.int _) (.cons (.int _) .nil))
              have sac := sa.trans (sb.trans sc)
              have hLc := sac _ _ hL2
              have Rc := hR2.same sac
              have ec := e02.trans (Ext.same sac)
              refine ⟨_, rfl, rfl, _, rfl, ?_⟩
              refine ite2 (fun _ => ?_) (fun _ => ?_)
              · refine ⟨_, rfl, fin (Mc.lt (by omega) (by omega)) ec nL nLs hLc (Rc.up (by decide) (Nat.le_refl _)) (by omega) (by omega) (fun h => by omega)⟩
              · refine sl_toS rfl rfl hLc fun qd hd => ?_
                have sd := Same.new (o := .lst (cutV fs none (some ((a1 : Nat) - 1)))) hd
                have gd := upd_same (H := Hc) (a := qd) (o := .lst (cutV fs none (some ((a1 : Nat) - 1))))
                have Md := Mc.keep sd
                generalize upd Hc qd (.lst (cutV fs none (some ((a1 : Nat) - 1)))) = Hd at sd gd Md
                have c1 := cut_len fs none (some ((a1 : Nat) - 1))
                refine ⟨_, rfl, rd_catN gd (sd _ _ gc) (big (by omega) (show 2 ≤ 8000 by decide)) fun qe ye he => ?_⟩
                have se := Same.new (o := .lst (cutV fs none (some ((a1 : Nat) - 1)) ++ [V.ref qa, V.ref qb])) he
                have ge := upd_same (H := Hd) (a := qe) (o := .lst (cutV fs none (some ((a1 : Nat) - 1)) ++ [V.ref qa, V.ref qb]))
                have Me := Md.keep se
                generalize upd Hd qe (.lst (cutV fs none (some ((a1 : Nat) - 1)) ++ [V.ref qa, V.ref qb])) = He at se ge Me
                refine sl_from1L rfl rfl (se _ _ (sd _ _ hLc)) fun qf hf => ?_
                have sf := Same.new (o := .lst (cutV fs (some ((a1 : Nat) + 1)) none)) hf
                have gf := upd_same (H := He) (a := qf) (o := .lst (cutV fs (some ((a1 : Nat) + 1)) none))
                have Mf := Me.keep sf
                generalize upd He qf (.lst (cutV fs (some ((a1 : Nat) + 1)) none)) = Hf at sf gf Mf
                refine rd_catN (sf _ _ ge) gf (big (by rw [List.length_append]; show _ + 2 ≤ 8000; omega) cf) fun qg yg hg => ?_
                have sg := Same.new (o := .lst (cutV fs none (some ((a1 : Nat) - 1)) ++ [V.ref qa, V.ref qb] ++ cutV fs (some ((a1 : Nat) + 1)) none)) hg
                have sdg := sd.trans (se.trans (sf.trans sg))
                have Ri : Rw PG p Hc [V.ref qa, V.ref qb] 3 142 := (Rw.one (n := 70) xa ((FxA.cons (okI_fx k1).1 (FxA.cons fy (FxA.nil (n := 0)))).tup.up (by decide) (by decide)) (pg_two k1 q2)).app (ys := [V.ref qb]) (Rw.one (n := 70) xb ((FxA.cons fx (FxA.cons (okI_fx k2).1 (FxA.nil (n := 0)))).lst.up (by decide) (by decide)) (pg_twoL q1 k2))
                refine fin ((Mf.keep sg).lt (by omega) (by omega)) (ec.trans (Ext.same sdg)) (Mf.apart hg) yg upd_same ((((Rc.cut _ _).up (by decide) (Nat.le_refl _)).app Ri).app ((Rc.cut _ _).up (by decide) (Nat.le_refl _)) |>.same sdg) (by omega) ?_ ?_
                · rw [List.length_append, List.length_append]
                  show _ + 2 + _ ≤ _
                  omega
                · intro _
                  rw [List.length_append, List.length_append]
                  show 0 < _ + 2 + _
                  omega
            · skip
              refine ⟨_, rfl, rfl, _, rfl, ?_⟩
              refine ite2 (fun _ => ?_) (fun _ => ?_)
              · skip
                refine ⟨_, rfl, _, rfl, _, rfl, _, _, rfl, rfl, two_le, fun qa ha => ?_⟩
                have sa := Same.new (o := .tup [V.int (2 * (fs.length : Int)), V.int (2 * (fs.length : Int) + 1)]) ha
                have ga := upd_same (H := H2) (a := qa) (o := .tup [V.int (2 * (fs.length : Int)), V.int (2 * (fs.length : Int) + 1)])
                have na := M2.apart ha
                have Ma := M2.keep sa
                generalize upd H2 qa (.tup [V.int (2 * (fs.length : Int)), V.int (2 * (fs.length : Int) + 1)]) = Ha at sa ga Ma
                refine ⟨_, rfl, _, _, rfl, rfl, _, rfl, _, _, rfl, rfl, two_le, fun qb hb => ?_⟩
                have sb := Same.new (o := .tup [V.int (2 * (fs.length : Int) + 2), V.int (2 * (fs.length : Int) + 3)]) hb
                have gb := upd_same (H := Ha) (a := qb) (o := .tup [V.int (2 * (fs.length : Int) + 2), V.int (2 * (fs.length : Int) + 3)])
                have nb := Ma.apart hb
                have Mb := Ma.keep sb
                generalize upd Ha qb (.tup [V.int (2 * (fs.length : Int) + 2), V.int (2 * (fs.length : Int) + 3)]) = Hb at sb gb Mb
                refine ⟨two_le, fun qc hc => ?_⟩
                have sc := Same.new (o := .lst [V.ref qa, V.ref qb]) hc
                have gc := upd_same (H := Hb) (a := qc) (o := .lst [V.ref qa, V.ref qb])
                have nc := Mb.apart hc
                have Mc := Mb.keep sc
                generalize upd Hb qc (.lst [V.ref qa, V.ref qb]) = Hc at sc gc Mc
                have xa : Da p p Hc (.ref qa) (.tuple [.int (2 * (fs.length : Int)), .int (2 * (fs.length : Int) + 1)]) := .tup na na ((sb.trans sc) _ _ ga) (.cons (.int _) (.cons (.int _) .nil))
                have xb : Da p p Hc (.ref qb) (.tuple [.int (2 * (fs.length : Int) + 2), .int (2 * (fs.length : Int) + 3)]) := .tup nb nb (sc _ _ gb) (.cons (.int _) (.cons (.int _) .nil))
                have o0 : okI (2 * (fs.length : Int)) := .inl (by omega)
                have o1 : okI (2 * (fs.length : Int) + 1) := .inl (by omega)
                have o2 : okI (2 * (fs.length : Int) + 2) := .inl (by omega)
                have o3 : okI (2 * (fs.length : Int) + 3) := .inl (by omega)
                have sac := sa.trans (sb.trans sc)
                refine rd_catN (sac _ _ hL2) gc (big (by omega) (show 2 ≤ 8000 by decide)) fun qd yd hd => ?_
                have sd := Same.new (o := .lst (fs ++ [V.ref qa, V.ref qb])) hd
                have Ri : Rw PG p Hc [V.ref qa, V.ref qb] 3 142 := (Rw.one (n := 70) xa ((FxA.cons (okI_fx o0).1 (FxA.cons (okI_fx o1).1 (FxA.nil (n := 0)))).tup.up (by decide) (by decide)) (pg_two o0 o1)).app (ys := [V.ref qb]) (Rw.one (n := 70) xb ((FxA.cons (okI_fx o2).1 (FxA.cons (okI_fx o3).1 (FxA.nil (n := 0)))).tup.up (by decide) (by decide)) (pg_two o2 o3))
                refine fin ((Mc.keep sd).lt (by omega) (by omega)) (e02.trans (Ext.same (sac.trans sd))) (Mc.apart hd) yd upd_same ((((hR2.same sac).up (by decide) (Nat.le_refl _)).app Ri).same sd) (by omega) ?_ ?_
                · rw [List.length_append]
                  show _ + 2 ≤ _
                  omega
                · intro _
                  rw [List.length_append]
                  show 0 < _ + 2
                  omega
              · skip
                have g0 := DaAll.extT (ExtT.ofE e02) _ _ z1
                have f0 := z2
                refine ⟨_, rfl, .inl ⟨L, _, rfl, SqL.of hL2, fun qa ha => ?_⟩⟩
                have sa := Same.new (o := .tup fs) ha
                have ga := upd_same (H := H2) (a := qa) (o := .tup fs)
                have na := M2.apart ha
                have Ma := M2.keep sa
                generalize upd H2 qa (.tup fs) = Ha at sa ga Ma
                refine ⟨Nat.zero_le _, fun qb hb => ?_⟩
                have sb := Same.new (o := .tup []) hb
                have gb := upd_same (H := Ha) (a := qb) (o := .tup [])
                have nb := Ma.apart hb
                have Mb := Ma.keep sb
                generalize upd Ha qb (.tup []) = Hb at sb gb Mb
                refine fun qc hc => ?_
                have sc := Same.new (o := .dK []) hc
                have gc := upd_same (H := Hb) (a := qc) (o := .dK [])
                have nc := Mb.apart hc
                have Mc := Mb.keep sc
                generalize upd Hb qc (.dK []) = Hc at sc gc Mc
                refine ⟨_, rfl, by show 1 ≤ sizeLine; decide, fun qd yd hd => ?_⟩
                have sd := Same.new (o := .lst [V.ref L]) hd
                have gd := upd_same (H := Hc) (a := qd) (o := .lst [V.ref L])
                have n0d := Mc.apart hd
                have Md := Mc.keep sd
                generalize upd Hc qd (.lst [V.ref L]) = Hd at sd gd Md
                have sad := sa.trans (sb.trans (sc.trans sd))
                refine ⟨_, rfl, L, 41, fs, rfl, rfl, sad _ _ hL2, by decide, by decide, Nat.le_trans (Nat.mul_le_mul_right _ (by omega : fs.length ≤ 1000)) (by decide), fun qe ye he => ?_⟩
                have se := Same.new (o := .lst (List.replicate (41 : Int).toNat fs).flatten) he
                have ge := upd_same (H := Hd) (a := qe) (o := .lst (List.replicate (41 : Int).toNat fs).flatten)
                have ne := Md.apart he
                have Me := Md.keep se
                generalize upd Hd qe (.lst (List.replicate (41 : Int).toNat fs).flatten) = He at se ge Me
                refine ⟨by show 8 ≤ sizeLine; decide, fun Lz hLz => ?_⟩
                have sz := Same.new (o := .lst [V.ref qa, V.non, V.ref qb, V.ref qc, V.ref qd, V.str "pairs", V.int 7, V.ref qe]) hLz
                have gz := upd_same (H := He) (a := Lz) (o := .lst [V.ref qa, V.non, V.ref qb, V.ref qc, V.ref qd, V.str "pairs", V.int 7, V.ref qe])
                have nz := Me.apart hLz
                have Mz := Me.keep sz
                generalize upd He Lz (.lst [V.ref qa, V.non, V.ref qb, V.ref qc, V.ref qd, V.str "pairs", V.int 7, V.ref qe]) = Hz at sz gz Mz
                refine ⟨_, rfl, p, c, _, 8, rfl, Mz, by omega, by decide, by decide, fun HE r ME eE r0 r8 => ?_⟩
                have sez := se.trans sz
                have sdz := sd.trans sez
                have scz := sc.trans sdz
                have sbz := sb.trans scz
                have saz := sa.trans sbz
                have g2 := DaAll.extT (ExtT.ofS saz) _ _ g0
                have Rz := (hR2.same saz).rep 41
                have lr := lr41 fs
                have gez := sz _ _ ge
                rw [e41] at gez
                generalize (List.replicate 41 fs).flatten = rs at Rz lr gez
                obtain ⟨dr, r1, r2, r3⟩ := Rz
                have ldr := r1.len
                have hlen := g0.len
                have every : ∀ x ∈ [V.ref qa, V.non, V.ref qb, V.ref qc, V.ref qd, V.str "pairs", V.int 7, V.ref qe], ∃ d, Da p p Hz x d ∧ Fx d 4 110000 ∧ ∀ es, d = .list es → es.length ≤ 41 * fs.length ∧ (∀ e ∈ es, PG e) ∧ ((∀ e ∈ es, (pairD e).isSome) → 2 ≤ fs.length → 0 < es.length) := fun x hx => by
                  simp only [List.mem_cons, List.not_mem_nil, or_false] at hx
                  rcases hx with rfl | rfl | rfl | rfl | rfl | rfl | rfl | rfl
                  · exact ⟨_, .tup na na (sbz _ _ ga) g2, f0.tup.up (by decide) (by omega), fun es e => by cases e⟩
                  · exact ⟨_, .non, (⟨by decide +kernel, by decide +kernel, by decide +kernel, by decide +kernel⟩ : Fx .none 0 0).up (Nat.zero_le _) (Nat.zero_le _), fun es e => by cases e⟩
                  · exact ⟨.tuple [], .tup nb nb (scz _ _ gb) .nil, (⟨by decide +kernel, by decide +kernel, by decide +kernel, by decide +kernel⟩ : Fx (.tuple []) 1 0).up (by decide) (Nat.zero_le _), fun es e => by cases e⟩
                  · exact ⟨_, .emp nc nc (sdz _ _ gc), (⟨by decide +kernel, by decide +kernel, by decide +kernel, by decide +kernel⟩ : Fx (.dict []) 1 0).up (by decide) (Nat.zero_le _), fun es e => by cases e⟩
                  · refine ⟨.list [.list ds0], .lst n0d n0d yd (sez _ _ gd) (.cons (.lst nL nL nLs (saz _ _ hL2) g2) .nil), ((FxA.cons f0.lst (FxA.nil (n := 0))).lst).up (by decide) (by omega), fun es e => ?_⟩
                    cases e
                    refine ⟨by show 1 ≤ _; omega, fun e he => ?_, fun _ _ => by show 0 < 1; decide⟩
                    rw [List.mem_singleton.mp he]
                    exact pg_rows z3 fun d hd i e => by
                      rw [e] at hd
                      cases hd.2
                  · exact ⟨_, .str "pairs", (⟨by decide +kernel, by decide +kernel, by decide +kernel, by decide +kernel⟩ : Fx (.str "pairs") 0 5).up (Nat.zero_le _) (by decide), fun es e => by cases e⟩
                  · exact ⟨_, .int 7, (⟨by decide +kernel, by decide +kernel, by decide +kernel, by decide +kernel⟩ : Fx (.int 7) 0 0).up (Nat.zero_le _) (Nat.zero_le _), fun es e => by cases e⟩
                  · refine ⟨.list dr, .lst ne ne ye gez r1, r2.lst.up (by decide) (by omega), fun es e => ?_⟩
                    cases e
                    exact ⟨by omega, r3, fun _ _ => by omega⟩
                have l8 : ([V.ref qa, V.non, V.ref qb, V.ref qc, V.ref qd, V.str "pairs", V.int 7, V.ref qe] : List V).length = 8 := rfl
                generalize ([V.ref qa, V.non, V.ref qb, V.ref qc, V.ref qd, V.str "pairs", V.int 7, V.ref qe] : List V) = zs at every gz l8
                have hj : r.toNat < zs.length := by omega
                obtain ⟨d', hda', hfx', hs'⟩ := every _ (List.getElem_mem hj)
                refine ⟨Lz, _, _, zs[r.toNat], rfl, rfl, SqL.of ((eE _ nz).trans gz), at_of (j := r.toNat) (by omega) (List.getElem?_eq_getElem hj), ?_⟩
                exact kk HE _ d' (ME.lt (by omega) (by omega)) ((e02.trans (Ext.same saz)).trans eE.ext) (Da.extT (ExtT.ofE eE.ext) _ _ hda') hfx' (by rw [← hfl]; exact hs')
end
end One
end P_YG

section P_PD
set_option linter.all false
set_option maxRecDepth 100000
set_option maxHeartbeats 16000000
namespace One
open PySem PySem.Spec PyProof.Rows L2
abbrev sRi : Stmt := top 40
abbrev nRi : List Str := ["things", "due", "kept", "told"]
theorem scRi : FnScope nRi ["things"] (defScope sRi) := ⟨rfl, rfl, rfl, by decide +kernel, rfl, by decide +kernel, by decide +kernel⟩
/-! ### a tuple of small numbers, as data -/
def nsD (rs : List Nat) : PyData := .tuple (rs.map fun x => PyData.int (x : Nat))
theorem dp_ns {K : PySem.W.Frag} {H : Hp} : ∀ rs : List Nat, DpAll K H (nats rs) (rs.map fun x => PyData.int (x : Nat))
  | [] => .nil
  | _ :: r => .cons (.int _) (dp_ns r)
theorem dp_nsD {K : PySem.W.Frag} {H : Hp} {u : Addr} {rs : List Nat} (h : H u = some (.tup (nats rs))) : Dp K H (.ref u) (nsD rs) := .tup (SqT.of h) (dp_ns rs)
theorem ns_all : ∀ rs : List Nat, (∀ x ∈ rs, x < 1000) → PyData.showableAll (rs.map fun x => PyData.int (x : Nat)) = true ∧ PyData.hasDictAll (rs.map fun x => PyData.int (x : Nat)) = false ∧ PyData.depthAll (rs.map fun x => PyData.int (x : Nat)) ≤ 1 ∧ PyData.leavesShortAll 8 (rs.map fun x => PyData.int (x : Nat)) = true ∧ PyData.bulkAll (rs.map fun x => PyData.int (x : Nat)) = rs.length
  | [], _ => ⟨rfl, rfl, Nat.zero_le _, rfl, rfl⟩
  | x :: r, h => by
    obtain ⟨h1, h2, h3, h4, h5⟩ := ns_all r fun q m => h q (List.mem_cons_of_mem _ m)
    have q1 := h x (List.mem_cons_self ..)
    have a1 : PyData.showable (.int (x : Nat)) = true := by
      show decide (((x : Nat) : Int).natAbs.log2 < 1920) = true
      simp only [Int.natAbs_natCast, decide_eq_true_eq]
      exact log_small q1
    have a4 : PyData.leavesShort 8 (.int (x : Nat)) = true := by
      show decide (_ ≤ 8) = true
      simp only [decide_eq_true_eq]
      exact int_short _ q1
    refine ⟨?_, ?_, ?_, ?_, ?_⟩
    · show (PyData.showable (.int (x : Nat)) && PyData.showableAll _) = true
      rw [a1, h1]; rfl
    · show (false || PyData.hasDictAll _) = false
      rw [h2]; rfl
    · show max 0 (PyData.depthAll _) ≤ 1
      exact Nat.max_le.mpr ⟨Nat.zero_le 1, h3⟩
    · show (PyData.leavesShort 8 (.int (x : Nat)) && PyData.leavesShortAll 8 _) = true
      rw [a4, h4]; rfl
    · show 0 + 1 + PyData.bulkAll _ = _
      rw [h5]
      show 0 + 1 + r.length = r.length + 1
      omega
theorem ns_fine {rs : List Nat} (h : ∀ x ∈ rs, x < 1000) (hl : rs.length ≤ 1000) : (nsD rs).showable = true ∧ (nsD rs).hasDict = false ∧ (nsD rs).depth ≤ 16 ∧ (nsD rs).shown.length ≤ sizeLine := by
  obtain ⟨h1, h2, h3, h4, h5⟩ := ns_all rs h
  refine ⟨h1, h2, ?_, ?_⟩
  · show PyData.depthAll _ + 1 ≤ 16
    omega
  · have q := PyData.shown_le_bulk 8 (Nat.le_refl _) (nsD rs) h4
    have e : (nsD rs).bulk = rs.length := h5
    rw [e] at q
    have : (40000 : Nat) ≤ sizeLine := by decide
    omega
theorem rq_bl {K : PySem.W.Frag} {H : Hp} {b : Bool} {Q : VK} (q : Q (.str (PyData.bool b).shown) H) : rReprQ K [.bl b] H Q :=
  rq_da (p := 0) (l := 0) (d := .bool b) (.bl b) (k := 0) (n := 0) (by cases b <;> exact ⟨by decide +kernel, by decide +kernel, by decide +kernel, by decide +kernel⟩) (by decide) (by decide) q
theorem rq_ns {K : PySem.W.Frag} {H : Hp} {z : Addr} {pl : List Nat} {Q : VK} (hz : H z = some (.tup (nats pl))) (h : pl.length ≤ 1 ∧ ∀ x ∈ pl, x < 1000) (q : Q (.str (nsD pl).shown) H) : rReprQ K [.ref z] H Q := by
  obtain ⟨f1, f2, f3, f4⟩ := ns_fine h.2 (Nat.le_trans h.1 (by decide))
  exact ⟨.ref z, nsD pl, rfl, .inl ⟨dp_nsD hz, f2⟩, f1, f3, f4, q⟩
theorem told_yard (t : Str) : toldOf 0 t = ("yard " : Str) ++ t := by
  show (("yard" : Str) ++ (" " : Str)) ++ t = _
  rw [show (("yard" : Str) ++ (" " : Str)) = ("yard " : Str) by decide +kernel]
/-- a def whose code object stands at c -/
structure FunC (K : PySem.W.Frag) (x qual : Str) (st : Stmt) (f : Addr) (fd : FuncData) (c : Addr) : Prop where
  ex : ∃ (oc : Value) (od : Option Addr) (kV doc pm : Value) (an : Option Addr) (ct : Value) (osl : Array (Option Value)),
    fd = PySem.W.fnOf x qual (defArgs st) (defBody st) (defScope st) .none kV doc pm an (.ref c) ct ∧ K.lookup f = some ⟨oc, od, .func fd, osl⟩ ∧ PySem.W.codeIn K (.ref c) qual = true
section
variable {P : Program} {w : World} {K : PySem.W.Frag} {mg : Str → Option Value} {base : Heap}
theorem okGC {x qual : Str} {st : Stmt} {f c : Addr} {fd : FuncData} {N ps : List Str} {k : Nat} {sp : Sp} (F : FunC K x qual st f fd c) (S : FnScope N ps (defScope st)) (len : ∀ vs H Q E, sp vs H Q E → vs.length = ps.length)
    (body : ∀ (A : Around) (outer : List Env) (s : Shared) (H : Hp) (vs : List V) (Q : VK) (E : XK), A.guards = some [] → Room k (A.deeper (envOfC qual (defScope st) s.heap.objs.size f (.ref c))) → sp vs H Q E →
      ∃ t, PSs (cxOf CX0 P w K mg base N qual (defScope st) f (.ref c) A outer s H E).nox (defBody st) t ∧ t { nx := fun _ H' => Q .non H', rt := Q } (start N vs) H) : FnG P w K mg base CX0 (k + 1) f fd ps sp := by
  obtain ⟨oc, od, kV, doc, pm, an, ct, osl, rfl, lk, hcd⟩ := F.ex
  exact ⟨len, fun A outer s H args us vs Q E hg hr e0 hb r hs => LamX.run_ofS lk hcd S hr e0 hb r (len _ _ _ _ hs) fun hr1 => let ⟨t, h, q⟩ := body A outer s H vs Q E hg hr1 hs; ⟨t, h.nox, q⟩⟩
end
def qualR : Str := (envOfC "_law_right" (defScope sRi) 0 0 .none).qual ++ "<lambda>"
/-- how it stands since -/
structure Since (T : List (Addr × Str)) (p c : Addr) (n : Nat) (H H' : Hp) : Prop where
  e : ExtT p p H H'
  M : MS H' p c n
  t : LamX.Tabs T H'
section
variable {T : List (Addr × Str)} {p c : Addr} {n : Nat} {H H1 H2 : Hp}
theorem MS.keepN {H H' : Hp} {p c : Addr} {n : Nat} (M : MS H p c n) (k : LamX.ExtN H H') : MS H' p c n := by
  obtain ⟨cells, a, l, x, h1, h2, r⟩ := M.ex
  exact ⟨⟨cells, a, l, x, k _ _ h1 (fun _ z => nomatch z), k _ _ h2 (fun _ z => nomatch z), r⟩, M.nn⟩
theorem Since.refl (M : MS H p c n) (t : LamX.Tabs T H) : Since T p c n H H := ⟨fun _ _ _ _ _ e => e, M, t⟩
theorem Since.same (S : Since T p c n H H1) (s : Same H1 H2) : Since T p c n H H2 := ⟨S.e.trans (ExtT.ofS s), S.M.keep s, S.t.ext s⟩
theorem Since.extn (S : Since T p c n H H1) (k : LamX.ExtN H1 H2) (t : LamX.Tabs T H2) : Since T p c n H H2 := ⟨S.e.trans (ExtT.ofN k), S.M.keepN k, t⟩
theorem Since.tup (M0 : MS H p c n) (S : Since T p c n H H1) : ∀ b xs, H b = some (.tup xs) → H1 b = some (.tup xs) := fun b xs h => by
  have q1 := tup_off M0 h
  exact S.e _ _ q1 q1 (fun _ z => nomatch z) h
end
end One
end P_PD

section P_YH
set_option linter.all false
set_option maxRecDepth 100000
set_option maxHeartbeats 16000000
namespace One
open PySem PySem.Spec PyProof.Rows L2
theorem placeP_small {d : PyData} {pl : List Nat} (h : placeP d = some pl) : pl.length ≤ 1 ∧ ∀ x ∈ pl, x < 1000 := by
  have one : ∀ k, pl = [k] → k < 1000 → pl.length ≤ 1 ∧ ∀ x ∈ pl, x < 1000 := fun k e hk => by
    subst e
    exact ⟨Nat.le_refl 1, fun x hx => by rw [List.mem_singleton.mp hx]; exact hk⟩
  cases hp : pairsD d with
  | none =>
    have e : placeP d = some [] := by unfold placeP; rw [hp] <;> rfl
    rw [e] at h
    cases h
    exact ⟨Nat.zero_le _, fun x hx => absurd hx (by simp)⟩
  | some prs =>
    have e : placeP d = match dupF (2 * prs.length) 0 [] prs with
      | some k => some [k]
      | none => open Classical in if Whole (prs.length / 2) (prsL prs) then none else some [prs.length] := by unfold placeP; rw [hp] <;> rfl
    obtain ⟨ds, hi, hc, hm⟩ := pairs_of hp
    have hl := congrArg List.length hm
    rw [List.length_map, List.length_map] at hl
    unfold canBe at hc
    simp only [Bool.and_eq_true, decide_eq_true_eq] at hc
    rw [e] at h
    cases hd : dupF (2 * prs.length) 0 [] prs with
    | some k =>
      rw [hd] at h
      have := dup_lt hd
      exact one k (Option.some.inj h).symm (by omega)
    | none =>
      rw [hd] at h
      have h : (open Classical in if Whole (prs.length / 2) (prsL prs) then none else some [prs.length]) = some pl := h
      split at h
      · cases h
      · exact one prs.length (Option.some.inj h).symm (by omega)
/-- what is let by is a yard, sorted -/
theorem placeP_none {d : PyData} (h : placeP d = none) : ∃ prs n, pairsD d = some prs ∧ prs.length = 2 * n ∧ 0 < n ∧ n ≤ 40 ∧ Lines n (prsL prs) ∧ Whole n (prsL prs) := by
  cases hp : pairsD d with
  | none =>
    have e : placeP d = some [] := by unfold placeP; rw [hp] <;> rfl
    rw [e] at h
    cases h
  | some prs =>
    have e : placeP d = match dupF (2 * prs.length) 0 [] prs with
      | some k => some [k]
      | none => open Classical in if Whole (prs.length / 2) (prsL prs) then none else some [prs.length] := by unfold placeP; rw [hp] <;> rfl
    obtain ⟨ds, hi, hc, hm⟩ := pairs_of hp
    have hl := congrArg List.length hm
    rw [List.length_map, List.length_map] at hl
    unfold canBe at hc
    simp only [Bool.and_eq_true, decide_eq_true_eq] at hc
    have hneq : ∀ q ∈ prs, q.1 ≠ q.2 := fun q hq => by
      have : some q ∈ ds.map pairD := by rw [hm]; exact List.mem_map.mpr ⟨q, hq, rfl⟩
      obtain ⟨x, _, hx⟩ := List.mem_map.mp this
      exact pair_ne hx
    rw [e] at h
    cases hd : dupF (2 * prs.length) 0 [] prs with
    | some k => rw [hd] at h; cases h
    | none =>
      rw [hd] at h
      have h : (open Classical in if Whole (prs.length / 2) (prsL prs) then none else some [prs.length]) = none := h
      split at h
      · rename_i hw
        exact ⟨prs, prs.length / 2, rfl, by omega, by omega, by omega, dup_lines (by omega) hd hneq, hw⟩
      · cases h
theorem sort_one {qs rs ps : List (Nat × Nat)} (h1 : qs.Perm ps) (h2 : rs.Perm ps) (s1 : qs.Pairwise leP) (s2 : rs.Pairwise leP) : qs = rs :=
  List.Perm.eq_of_pairwise (le := leP) (fun a b _ _ h1 h2 => by
    unfold leP at h1 h2
    exact Prod.ext (by omega) (by omega)) s1 s2 (h1.trans h2.symm)
/-- two yards in a list, as data -/
def twoD (qs : List (Nat × Nat)) : PyData := .list [yd qs, yd qs]
theorem twoD_fine {qs : List (Nat × Nat)} (h : ∀ p ∈ qs, p.1 < 1000 ∧ p.2 < 1000) (hl : qs.length ≤ 1000) : (twoD qs).showable = true ∧ (twoD qs).hasDict = false ∧ (twoD qs).depth ≤ 16 ∧ (twoD qs).shown.length ≤ sizeLine := by
  obtain ⟨h1, h2, h3, h4, h5⟩ := yd_all qs h
  refine ⟨?_, ?_, ?_, ?_⟩
  · show ((yd qs).showable && ((yd qs).showable && true)) = true
    rw [show (yd qs).showable = true from h1]
    rfl
  · show ((yd qs).hasDict || ((yd qs).hasDict || false)) = false
    rw [show (yd qs).hasDict = false from h2]
    rfl
  · show max (yd qs).depth (max (yd qs).depth 0) + 1 ≤ 16
    have : (yd qs).depth ≤ 2 := Nat.succ_le_succ h3
    omega
  · have q := PyData.shown_le_bulk 8 (Nat.le_refl _) (twoD qs) (by
      show ((yd qs).leavesShort 8 && ((yd qs).leavesShort 8 && true)) = true
      rw [show (yd qs).leavesShort 8 = true from h4]
      rfl)
    have e : (twoD qs).bulk = (yd qs).bulk + 1 + ((yd qs).bulk + 1 + 0) := rfl
    have e2 : (yd qs).bulk = 3 * qs.length := h5
    rw [e, e2] at q
    have : (100000 : Nat) ≤ sizeLine := by decide
    omega
theorem rq_two {K : PySem.W.Frag} {H : Hp} {L t u : Addr} {as bs : List Addr} {qs : List (Nat × Nat)} {Q : VK} (hL : H L = some (.lst [.ref t, .ref u])) (ht : H t = some (.tup (refs as))) (hP : PL H as qs) (hu : H u = some (.tup (refs bs))) (hB : PL H bs qs) (h : ∀ p ∈ qs, p.1 < 1000 ∧ p.2 < 1000) (hl : qs.length ≤ 1000) (q : Q (.str (twoD qs).shown) H) : rReprQ K [.ref L] H Q := by
  obtain ⟨f1, f2, f3, f4⟩ := twoD_fine h hl
  exact ⟨.ref L, twoD qs, rfl, .inl ⟨.lst (SqL.of hL) (.cons (dp_yd ht hP) (.cons (dp_yd hu hB) .nil)), f2⟩, f1, f3, f4, q⟩
theorem rq_daB {K : PySem.W.Frag} {p l : Addr} {H : Hp} {v : V} {d : PyData} {k n : Nat} {Q : VK} (h : Da p l H v d) (f : Fx d k n) (hk : k ≤ 16) (hn : n ≤ 120000) (q : Q (.str d.shown) H) : rReprQ K [v] H Q :=
  ⟨v, d, rfl, .inr (Da.q d v h), f.sh, Nat.le_trans f.dp hk, by
    have q := PyData.shown_le_bulk 48 (by decide) d f.lf
    have := f.bk
    have : (7000000 : Nat) ≤ sizeLine := by decide
    omega, q⟩
def spRi (TT : List (Addr × Str)) : Sp := fun vs H Q _ => ∃ (v : V) (p c : Addr) (n : Nat) (d : PyData), vs = [v] ∧ MS H p c n ∧ Da p p H v d ∧ Fx d 8 120000 ∧ LamX.Tabs TT H ∧ ∀ H', MS H' p c n → ExtT p p H H' → LamX.Tabs TT H' → Q (.bl true) H'
section
variable {P : Program} {w : World} {K : PySem.W.Frag} {mg : Str → Option Value} {base : Heap}
theorem ok_ri {CL : Nat → Addr} {RE f c Pt g fD fY : Addr} {fd dg dD dY : FuncData} {TT : List (Addr × Str)} (F : FunC K "_law_right" "_law_right" sRi f fd c) (T : TB mg) (TBl : LamX.TabB base mg c Pt) (hmem : (Pt, qualR) ∈ TT) (hone : ∀ q ∈ TT, q.1 = Pt → q.2 = qualR) (Nm : ErrN mg CL RE) (R0 : ErrC K CL RE 0) (G : Fun K "_law_refused" "_law_refused" sRef g dg) (cG : Cal K mg "_law_refused" g dg ["deed"])
    (cD : Cal K mg "_law_due" fD dD ["things"]) (gD : FnOk P w K mg base CX0 2 fD dD ["things"] spDu) (cYo : Cal K mg "yard_of" fY dY ["pairs"]) (gYo : FnOk P w K mg base (L2.CX P w) 6 fY dY ["pairs"] (spYo (CL 0))) :
    FnG P w K mg base CX0 10 f fd ["things"] (spRi TT) := by
  refine okGC F scRi (fun vs H Q E h => ?_) (fun A outer s H vs Q E hgd hr h => ?_)
  · obtain ⟨v, p, c', n, d, rfl, _⟩ := h
    rfl
  · obtain ⟨v, p, c', n, d, rfl, M, hda, hfx, tb, k⟩ := h
    have nd := scRi.nd
    have hu : (A.deeper (envOfC "_law_right" (defScope sRi) s.heap.objs.size f (.ref c))).units + 64 < cLine := hr.units
    have rm : ∀ {j : Nat}, j ≤ 9 → Room j (A.deeper (envOfC "_law_right" (defScope sRi) s.heap.objs.size f (.ref c))) := fun h => hr.mono h
    obtain ⟨oc, od, kV, doc, pm, an, cdg, ctg, osl, rfl, lkg, hcg⟩ := G.ex
    let X : Cx := (cxOf CX0 P w K mg base nRi "_law_right" (defScope sRi) f (.ref c) A outer s H E).nox
    have rp : ∀ {X' : Cx}, X'.A = A.deeper (envOfC "_law_right" (defScope sRi) s.heap.objs.size f (.ref c)) → CallR X' (.builtin "repr") (rReprQ X'.K) := fun e => cr_reprQ (by rw [e]; exact hgd) (by rw [e]; exact hu)
    have lam : ∀ {body : Expr} {scope : Scope} {t : XK → TE} {p lpos pos : Pos} (LS : LamX.LamS (defScope sRi) scope) (hbody : ∀ (A' : Around) (outer : List Env) (s : Shared) (H : Hp) (E : XK) (f' c' : Addr), Room 7 (A'.deeper (LamX.lamEnv X scope s.heap.objs.size f' c')) → PE (LamX.lamCx X A' outer s H E scope f' c') body (t E)),
        PE X (.Call (.Name "_law_refused" p) [.Lambda { posonlyargs := [], args := [], vararg := none, kwonlyargs := [], kw_defaults := [], kwarg := none, defaults := [] } body scope lpos] [] pos) (LamX.tLam TT (TTref K CL RE) t) := fun LS hbody =>
      LamX.pe_lamcall (X := X) (k := 7) rfl cG.g cG.kp lkg hcg cG.b scRef rfl (.inl rfl) (ref_gives (X := X) T Nm hgd hr) TBl rfl hmem hone hr LS rfl (fun _ _ _ _ _ => rfl) hbody
    have cnd : ∀ {A' : Around} {outer : List Env} {s : Shared} {H : Hp} {E : XK} {scope : Scope} {f' c' : Addr} {a : Expr} {ta : TE} {tr : TA} {p pos : Pos} (hr8 : Room 7 (A'.deeper (LamX.lamEnv X scope s.heap.objs.size f' c'))) (hg : scope.names.lookup ("yard_of" : Str) = some .globalImplicit)
        (ha : PA (LamX.lamCx X A' outer s H E scope f' c') [a] (tCons ta tr)) (he : starEach [a] (LamX.lamEnv X scope s.heap.objs.size f' c') = (false, eval a (LamX.lamEnv X scope s.heap.objs.size f' c')) :: starEach [] (LamX.lamEnv X scope s.heap.objs.size f' c'))
        (hpl : (backTo pos (starEach [] (LamX.lamEnv X scope s.heap.objs.size f' c'))).any (·.1) = false), PE (LamX.lamCx X A' outer s H E scope f' c') (.Call (.Name "yard_of" p) [a] [] pos) (tCall (spYo (CL 0)) [] E (tCons ta tr)) := fun hr8 hg ha he hpl =>
      pe_call gYo (hr8.mono (by decide)) hg cYo.g cYo.kp cYo.b .nil (passes_call (takes_of rfl rfl rfl rfl) (fun _ _ _ _ h => h)) ha (by decide) he hpl
    refine ⟨_, pss_cons (ps_par (i := 1) (j := 2) (by rfl) nd rfl rfl (by decide) rfl rfl (pa_cons (pe_call gD (rm (by decide)) rfl cD.g cD.kp cD.b .nil pass0 (pa_cons (pv 0) pa_nil)) (pa_cons (pe_callB (rp rfl) (by rfl) T.repr boot_repr (pa_cons (pv 0) pa_nil)) pa_nil)) (by rfl))
      (pss_cons (ps_if (pt_val (pe_callB call_isi (by rfl) T.isinstance boot_isinstance (pa_cons (pv 1) (pa_cons (pe_bltn (v := .ty "list") (by rfl) T.list (by decide +kernel) rfl) pa_nil)))) (pss_cons (ps_set (i := 3) nd rfl (Or.inl rfl) (lam (LamX.lamS_by (by decide +kernel)) fun A' outer s H E f' c' hr7 => cnd hr7 (by decide +kernel) (pa_cons (pv 0) pa_nil) (by rfl) (by rfl)))
      (pss_one (ps_ret (pe_and (pe_cmpR op_eq (pv 3) (pe_op op_add_str pe_str (pe_callB (rp rfl) (by rfl) T.repr boot_repr (pa_cons (pe_ix ix_list (pv 1) pe_int (fun _ _ => rfl)) pa_nil))) (nomark _)) (pe_one (pe_cmpR op_eq (pe_callB (rp rfl) (by rfl) T.repr boot_repr (pa_cons (pv 0) pa_nil)) (pv 2) (nomark _))))))) pss_nil)
      (pss_one (ps_ret (pe_and (pe_cmpR op_eq (pe_callB (rp rfl) (by rfl) T.repr boot_repr (pa_cons (pe_lst (pa_cons (pe_call gYo (rm (by decide)) rfl cYo.g cYo.kp cYo.b .nil passL (pa_cons (pv 0) pa_nil)) (pa_cons (pe_call gYo (rm (by decide)) rfl cYo.g cYo.kp cYo.b .nil passL (pa_cons (pv 0) pa_nil)) pa_nil))) pa_nil)) (pe_callB (rp rfl) (by rfl) T.repr boot_repr (pa_cons (pe_lst (pa_cons (pv 1) (pa_cons (pv 1) pa_nil))) pa_nil)) (nomark _)) (pe_one (pe_cmpR op_eq (pe_callB (rp rfl) (by rfl) T.repr boot_repr (pa_cons (pv 0) pa_nil)) (pv 2) (nomark _))))))), ?_⟩
    have same_eq : ∀ x : Str, decide (V.str x = V.str x) = true := fun x => decide_eq_true rfl
    have S0 := Since.refl M tb
    refine ⟨_, rfl, v, p, p, d, rfl, hda, fun pl hp H1 Ld z s1 hLd hz => ?_, fun hn prs hprs H1 t as qs s1 ht hP hperm hle => ?_⟩
    · have sm := placeP_small hp
      have hsl : (nsD pl).shown.length ≤ 1000000 := by
        obtain ⟨h1, h2, h3, h4, h5⟩ := ns_all pl sm.2
        have q := PyData.shown_le_bulk 8 (Nat.le_refl _) (nsD pl) h4
        have e : (nsD pl).bulk = pl.length := h5
        rw [e] at q
        have := sm.1
        omega
      refine ⟨_, rfl, ?_⟩
      try unfold tNil
      refine rq_daB (Da.extT (ExtT.ofS s1) _ _ hda) hfx (by decide) (by decide) ?_
      refine ⟨_, _, rfl, ?_⟩
      refine ⟨_, rfl, _, _, _, _, _, rfl, .ty _, (TV.lst hLd).tyx, (TV.lst hLd).kLst, _, rfl, ?_⟩
      refine iteT ?_
      have S1 := S0.same s1
      refine ⟨S1.t, fun Ha ea ta => ?_⟩
      have Sb := S1.extn ea ta
      have zb : Ha z = some (.tup (nats pl)) := ea _ _ hz (by intro _ z; cases z)
      have Lb : Ha Ld = some (.lst [.ref z]) := ea _ _ hLd (by intro _ z; cases z)
      refine ⟨_, rfl, v, p, p, d, rfl, Da.extT Sb.e _ _ hda, fun pl2 hp2 H3 q3 dd s3 hq3 hdd => ?_, fun hn => by rw [hn] at hp; cases hp⟩
      rw [hp] at hp2
      cases hp2
      refine ⟨0, dd, .ref q3, (nsD pl).shown, R0, rfl, rfl, upd_same, fun H4 s4 => ?_, ?_, fun H4 s4 => ?_⟩
      · obtain ⟨f1, f2, f3, f4⟩ := ns_fine sm.2 (Nat.le_trans sm.1 (by decide))
        exact .data (dp_nsD (s4 _ _ ((Same.new hdd) _ _ hq3))) f1 f2 f3 f4
      · exact hsl
      · have sX := (s3.trans (Same.new (o := .xd [("place", .ref q3)]) hdd)).trans s4
        have SX := Sb.same sX
        have zX : H4 z = some (.tup (nats pl)) := sX _ _ zb
        have LX := sX _ _ Lb
        refine ⟨_, rfl, _, rfl, Ld, _, _, .ref z, rfl, rfl, SqL.of LX, rfl, ?_⟩
        refine rq_ns zX sm ?_
        refine ⟨_, _, rfl, rfl, ?_, ?_⟩
        · have : ("yard " : Str).length = 5 := by decide +kernel
          have : (1000005 : Nat) ≤ sizeLine := by decide
          omega
        refine ⟨rfl, _, rfl, ?_⟩
        rw [told_yard, same_eq]
        refine iteT ⟨_, rfl, ?_⟩
        refine rq_daB (Da.extT SX.e _ _ hda) hfx (by decide) (by decide) ?_
        refine ⟨_, rfl, rfl, ?_⟩
        rw [same_eq]
        exact k _ SX.M SX.e SX.t
    · obtain ⟨prs', n', hp', hl', n0, n40, hL, hW⟩ := placeP_none hn
      rw [hprs] at hp'
      cases hp'
      have hM := hL.perm hperm.symm
      have small : ∀ x ∈ qs, x.1 < 1000 ∧ x.2 < 1000 := fun x hx => by
        have h1 := hM.lt _ (mem_ends.mpr ⟨x, hx, .inl rfl⟩)
        have h2 := hM.lt _ (mem_ends.mpr ⟨x, hx, .inr rfl⟩)
        omega
      have hql : qs.length ≤ 1000 := by
        have := hM.len
        omega
      refine ⟨_, rfl, ?_⟩
      try unfold tNil
      refine rq_daB (Da.extT (ExtT.ofS s1) _ _ hda) hfx (by decide) (by decide) ?_
      refine ⟨_, _, rfl, ?_⟩
      refine ⟨_, rfl, _, _, _, _, _, rfl, .ty _, (TV.tup ht).tyx, (TV.tup ht).kLst, _, rfl, ?_⟩
      refine iteF ⟨_, rfl, v, p, p, d, rfl, Da.extT (ExtT.ofS s1) _ _ hda, (fun pl hp => by rw [hn] at hp; cases hp), fun _ prs2 hp2 H2 t2 as2 qs2 s2 ht2 hP2 hperm2 hle2 => ?_⟩
      rw [hprs] at hp2
      cases hp2
      have e2 := sort_one hperm2 hperm hle2 hle
      subst e2
      have s12 := s1.trans s2
      refine ⟨_, rfl, v, p, p, d, rfl, Da.extT (ExtT.ofS s12) _ _ hda, (fun pl hp => by rw [hn] at hp; cases hp), fun _ prs3 hp3 H3 t3 as3 qs3 s3 ht3 hP3 hperm3 hle3 => ?_⟩
      rw [hprs] at hp3
      cases hp3
      have e3 := sort_one hperm3 hperm hle3 hle
      subst e3
      refine ⟨two_le, fun L1 hL1 => ?_⟩
      have s4 := Same.new (o := .lst [V.ref t2, V.ref t3]) hL1
      have g4 := upd_same (H := H3) (a := L1) (o := .lst [V.ref t2, V.ref t3])
      have s34 := s3.trans s4
      refine rq_two g4 (s34 _ _ ht2) (hP2.mono (sameT s34)) (s4 _ _ ht3) (hP3.mono (sameT s4)) small hql ?_
      generalize upd H3 L1 (.lst [V.ref t2, V.ref t3]) = H4 at s4 g4 s34
      refine ⟨_, rfl, _, rfl, two_le, fun L2 hL2 => ?_⟩
      have s5 := Same.new (o := .lst [V.ref t, V.ref t]) hL2
      have g5 := upd_same (H := H4) (a := L2) (o := .lst [V.ref t, V.ref t])
      have s25 := s2.trans (s34.trans s5)
      refine rq_two g5 (s25 _ _ ht) (hP.mono (sameT s25)) (s25 _ _ ht) (hP.mono (sameT s25)) small hql ?_
      have SX := S0.same (s1.trans s25)
      refine ⟨rfl, _, rfl, ?_⟩
      rw [same_eq]
      refine iteT ⟨_, rfl, ?_⟩
      refine rq_daB (Da.extT SX.e _ _ hda) hfx (by decide) (by decide) ?_
      refine ⟨_, rfl, rfl, ?_⟩
      rw [same_eq]
      exact k _ SX.M SX.e SX.t
end
end One
end P_YH

section P_M6
set_option linter.all false
namespace One
/-- what lies behind b, seen through crossing c sewn out at way w; k turns at most -/
def backK (F : Nat → Nat) (c w : Nat) : Nat → Nat → Option Nat
  | 0, b => if b / 4 = c then none else some b
  | k + 1, b => if b / 4 = c then backK F c w k (F (b ^^^ (w + 1))) else some b
theorem xor_two : ∀ n, n < 64 → (4 * n) ^^^ 2 = 4 * n + 2 ∧ (4 * n + 1) ^^^ 2 = 4 * n + 3 ∧ (4 * n + 2) ^^^ 2 = 4 * n ∧ (4 * n + 3) ^^^ 2 = 4 * n + 1 := by
  have h : ∀ n : Fin 64, (4 * (n : Nat)) ^^^ 2 = 4 * (n : Nat) + 2 ∧ (4 * (n : Nat) + 1) ^^^ 2 = 4 * (n : Nat) + 3 ∧ (4 * (n : Nat) + 2) ^^^ 2 = 4 * (n : Nat) ∧ (4 * (n : Nat) + 3) ^^^ 2 = 4 * (n : Nat) + 1 := by decide +kernel
  exact fun n hn => h ⟨n, hn⟩
theorem backK_out {F : Nat → Nat} {c w k b : Nat} (h : b / 4 ≠ c) : backK F c w k b = some b := by
  cases k <;> exact if_neg h
theorem backK_in {F : Nat → Nat} {c w k b : Nat} (h : b / 4 = c) : backK F c w (k + 1) b = backK F c w k (F (b ^^^ (w + 1))) := if_pos h
theorem put_yard {n : Nat} {ps T : List (Nat × Nat)} {i j : Nat} {a b : Nat × Nat} (y : Yard n ps) (ha : ps[i]? = some a) (hb : ps[j]? = some b) (hp : T.Perm (putOn n ps i j a b)) (hs : T.Pairwise leP) : Yard (n + 1) T := by
  refine yard_of_sorted (Nat.succ_pos _) (put_lines y.lines ha hb) (put_whole y.pos y.lines y.whole ha hb) (fun p m => ?_) hp hs
  have lt : ∀ q ∈ ps, q.1 < 4 * n ∧ q.2 < 4 * n := fun q hq => ⟨y.lines.lt _ (mem_ends.mpr ⟨q, hq, .inl rfl⟩), y.lines.lt _ (mem_ends.mpr ⟨q, hq, .inr rfl⟩)⟩
  obtain ⟨a1, a2⟩ := lt a (List.mem_of_getElem? ha)
  obtain ⟨b1, b2⟩ := lt b (List.mem_of_getElem? hb)
  rcases List.mem_append.mp m with m | m
  · exact Nat.le_of_lt (y.low p (mem_keep _ _ _ _ m))
  · unfold fresh at m
    split at m
    · simp only [List.mem_cons, List.not_mem_nil, or_false] at m
      rcases m with rfl | rfl | rfl <;> simp only <;> omega
    · simp only [List.mem_cons, List.not_mem_nil, or_false] at m
      rcases m with rfl | rfl | rfl | rfl <;> simp only <;> omega
theorem sew_back {n : Nat} {ps T : List (Nat × Nat)} {i j : Nat} {a b : Nat × Nat} (L : Lines n ps) (ha : ps[i]? = some a) (hb : ps[j]? = some b) (hp : T.Perm (putOn n ps i j a b)) (hn : n < 64) :
    (∀ e, e < 4 * n → backK (far T) n 1 2 (far T e) = some (far ps e)) ∧ (far T (4 * n) ≠ (4 * n) ^^^ 2 ∧ far T (4 * n + 1) ≠ (4 * n + 1) ^^^ 2 ∧ far T (4 * n + 2) ≠ (4 * n + 2) ^^^ 2 ∧ far T (4 * n + 3) ≠ (4 * n + 3) ^^^ 2) := by
  have LT : Lines (n + 1) T := (put_lines L ha hb).perm hp.symm
  obtain ⟨x0, x1, x2, x3⟩ := xor_two n hn
  have lt : ∀ q ∈ ps, q.1 < 4 * n ∧ q.2 < 4 * n := fun q hq => ⟨L.lt _ (mem_ends.mpr ⟨q, hq, .inl rfl⟩), L.lt _ (mem_ends.mpr ⟨q, hq, .inr rfl⟩)⟩
  have ma := List.mem_of_getElem? ha
  have mb := List.mem_of_getElem? hb
  obtain ⟨a1, a2⟩ := lt a ma
  obtain ⟨b1, b2⟩ := lt b mb
  have d0 : (4 * n) / 4 = n := by omega
  have d1 : (4 * n + 1) / 4 = n := by omega
  have d2 : (4 * n + 2) / 4 = n := by omega
  have d3 : (4 * n + 3) / 4 = n := by omega
  have out : ∀ {b k}, b < 4 * n → backK (far T) n 1 k b = some b := fun h => backK_out (by omega)
  have isT : ∀ {p}, p ∈ putOn n ps i j a b → far T p.1 = p.2 ∧ far T p.2 = p.1 := fun m => far_of LT.nd (hp.mem_iff.mpr m)
  have kept : ∀ p ∈ keepIx (notIJ i j) 0 ps, ∀ e, e = p.1 ∨ e = p.2 → backK (far T) n 1 2 (far T e) = some (far ps e) := fun p m e he => by
    have mp := mem_keep _ _ _ _ m
    obtain ⟨t1, t2⟩ := isT (p := p) (List.mem_append_left _ m)
    obtain ⟨o1, o2⟩ := far_of L.nd mp
    obtain ⟨l1, l2⟩ := lt p mp
    rcases he with rfl | rfl
    · rw [t1, o1]; exact out l2
    · rw [t2, o2]; exact out l1
  by_cases hij : i = j
  · subst hij
    have eab : b = a := Option.some.inj (hb.symm.trans ha)
    subst eab
    have fr : fresh n i i b b = [(b.1, 4 * n), (4 * n + 1, 4 * n + 2), (b.2, 4 * n + 3)] := if_pos rfl
    have mem : ∀ q ∈ fresh n i i b b, far T q.1 = q.2 ∧ far T q.2 = q.1 := fun q m => isT (List.mem_append_right _ m)
    rw [fr] at mem
    obtain ⟨p1, p2⟩ := mem (b.1, 4 * n) (by simp)
    obtain ⟨p3, p4⟩ := mem (4 * n + 1, 4 * n + 2) (by simp)
    obtain ⟨p5, p6⟩ := mem (b.2, 4 * n + 3) (by simp)
    simp only at p1 p2 p3 p4 p5 p6
    obtain ⟨g1, g2⟩ := far_of L.nd mb
    refine ⟨fun e he => ?_, ?_, ?_, ?_, ?_⟩
    · obtain ⟨p, m, z⟩ := mem_ends.mp (ends_full L he)
      rcases List.mem_cons.mp ((keep_one ha).mem_iff.mp m) with e1 | m
      · subst e1
        rcases z with rfl | rfl
        · rw [p1, g1, backK_in d0, x0, p4, backK_in d1, x1, p6]
          exact out b2
        · rw [p5, g2, backK_in d3, x3, p3, backK_in d2, x2, p2]
          exact out b1
      · exact kept p m e z
    · rw [p2, x0]; omega
    · rw [p3, x1]; omega
    · rw [p4, x2]; omega
    · rw [p6, x3]; omega
  · have fr : fresh n i j a b = [(a.1, 4 * n), (a.2, 4 * n + 2), (b.1, 4 * n + 1), (b.2, 4 * n + 3)] := if_neg hij
    have mem : ∀ q ∈ fresh n i j a b, far T q.1 = q.2 ∧ far T q.2 = q.1 := fun q m => isT (List.mem_append_right _ m)
    rw [fr] at mem
    obtain ⟨p1, p2⟩ := mem (a.1, 4 * n) (by simp)
    obtain ⟨p3, p4⟩ := mem (a.2, 4 * n + 2) (by simp)
    obtain ⟨p5, p6⟩ := mem (b.1, 4 * n + 1) (by simp)
    obtain ⟨p7, p8⟩ := mem (b.2, 4 * n + 3) (by simp)
    simp only at p1 p2 p3 p4 p5 p6 p7 p8
    obtain ⟨g1, g2⟩ := far_of L.nd ma
    obtain ⟨g3, g4⟩ := far_of L.nd mb
    refine ⟨fun e he => ?_, ?_, ?_, ?_, ?_⟩
    · obtain ⟨p, m, z⟩ := mem_ends.mp (ends_full L he)
      rcases List.mem_cons.mp ((keep_two hij ha hb).mem_iff.mp m) with e1 | m
      · subst e1
        rcases z with rfl | rfl
        · rw [p1, g1, backK_in d0, x0, p4]
          exact out a2
        · rw [p3, g2, backK_in d2, x2, p2]
          exact out a1
      · rcases List.mem_cons.mp m with e1 | m
        · subst e1
          rcases z with rfl | rfl
          · rw [p5, g3, backK_in d1, x1, p8]
            exact out b2
          · rw [p7, g4, backK_in d3, x3, p6]
            exact out b1
        · exact kept p m e z
    · rw [p2, x0]; omega
    · rw [p6, x1]; omega
    · rw [p4, x2]; omega
    · rw [p8, x3]; omega
end One
end P_M6

section P_M7
set_option linter.all false
set_option maxRecDepth 100000
namespace One
/-- the first i crossings' lines of a ring of n -/
def ringU (n i : Nat) : List (Nat × Nat) := (List.range i).flatMap fun k => [low (4 * k) (4 * ((k + 1) % n) + 2), low (4 * k + 1) (4 * ((k + 1) % n) + 3)]
theorem ringU_snoc (n i : Nat) : ringU n (i + 1) = ringU n i ++ [low (4 * i) (4 * ((i + 1) % n) + 2), low (4 * i + 1) (4 * ((i + 1) % n) + 3)] := by
  unfold ringU
  rw [List.range_succ, List.flatMap_append]
  simp
theorem ring_len (n : Nat) : ∀ i, (ringU n i).length = 2 * i
  | 0 => rfl
  | i + 1 => by
    rw [ringU_snoc, List.length_append, ring_len n i]
    show 2 * i + 2 = _
    omega
theorem ring_whole (n : Nat) : Whole n (ringU n n) := by
  intro P hP h0 c hc
  induction c with
  | zero => exact h0
  | succ c ih =>
    have hc' : c < n := by omega
    have m : low (4 * c) (4 * ((c + 1) % n) + 2) ∈ ringU n n := List.mem_flatMap.mpr ⟨c, List.mem_range.mpr hc', by simp⟩
    have e := hP _ m
    rw [Nat.mod_eq_of_lt hc] at e
    have el : low (4 * c) (4 * (c + 1) + 2) = (4 * c, 4 * (c + 1) + 2) := if_neg (by omega)
    rw [el] at e
    simp only at e
    rw [show 4 * c / 4 = c by omega, show (4 * (c + 1) + 2) / 4 = c + 1 by omega] at e
    exact e.mp (ih hc')
theorem ring_lines : ∀ n, n = 39 ∨ n = 40 → Lines n (ringU n n) := by
  have h39 : (ends (ringU 39 39)).Nodup ∧ ∀ e ∈ ends (ringU 39 39), e < 156 := by decide +kernel
  have h40 : (ends (ringU 40 40)).Nodup ∧ ∀ e ∈ ends (ringU 40 40), e < 160 := by decide +kernel
  rintro n (rfl | rfl)
  · exact ⟨ring_len 39 39, h39.1, h39.2⟩
  · exact ⟨ring_len 40 40, h40.1, h40.2⟩
theorem ring_le (n i : Nat) : ∀ p ∈ ringU n i, p.1 ≤ p.2 := fun p m => by
  obtain ⟨k, _, h⟩ := List.mem_flatMap.mp m
  simp only [List.mem_cons, List.not_mem_nil, or_false] at h
  rcases h with rfl | rfl <;> exact low_le _ _
theorem ring_yard {n : Nat} {M : List (Nat × Nat)} (h : n = 39 ∨ n = 40) (hp : M.Perm (ringU n n)) (hs : M.Pairwise leP) : Yard n M :=
  yard_of_sorted (by omega) (ring_lines n h) (ring_whole n) (ring_le n n) hp hs
end One
end P_M7

section P_PT
set_option linter.all false
set_option maxRecDepth 100000
set_option maxHeartbeats 8000000
namespace One
open PySem PySem.Spec PyProof.Rows L2
abbrev sRing : Stmt := top 41
abbrev nRing : List Str := ["many", "found", "k", "goal"]
theorem scRing : FnScope nRing ["many"] (defScope sRing) := ⟨rfl, rfl, rfl, by decide +kernel, rfl, by decide +kernel, by decide +kernel⟩
def spRg : Sp := fun vs H Q _ => ∃ n : Nat, vs = [.int (n : Nat)] ∧ 0 < n ∧ n ≤ 41 ∧ ∀ (H' : Hp) (t : Addr) (as : List Addr) (ps : List (Nat × Nat)), Same H H' → H' t = some (.tup (refs as)) → PL H' as ps → ps.Perm (ringU n n) → ps.Pairwise leP → Q (.ref t) H'
section
variable {P : Program} {w : World} {K : PySem.W.Frag} {mg : Str → Option Value} {base : Heap}
theorem ok_ring {f : Addr} {fd : FuncData} (F : Fun K "_law_ring" "_law_ring" sRing f fd) (T : TB mg) : FnOk P w K mg base CX0 1 f fd ["many"] spRg := by
  refine F.ok scRing (fun vs H Q E h => ?_) (fun cdv A outer s H vs Q E hr h => ?_)
  · obtain ⟨n, rfl, _⟩ := h
    rfl
  · obtain ⟨n, rfl, hn0, hn, hq⟩ := h
    have nd := scRing.nd
    refine ⟨_, pss_cons (ps_set (i := 1) nd rfl (Or.inl rfl) (pe_lst pa_nil))
      (pss_cons (ps_for PassesOwn.never rfl (pi_range1 (by rfl) T.range (pa_cons (pv 0) pa_nil)) (pg_name (i := 2) nd rfl (Or.inl rfl))
        (pss_cons (ps_set (i := 3) nd rfl (Or.inl rfl) (pe_op op_mul pe_int (pe_op op_mod (pe_op op_add (pv 2) pe_int) (pv 0))))
        (pss_one (ps_set (i := 1) nd rfl (Or.inl rfl) (pe_op op_catS (pv 1) (pe_lst (pa_cons (pe_tupleOf (by rfl) T.tuple (pe_callB cr_sorted (by rfl) T.sorted boot_sorted (pa_cons (pe_lst (pa_cons (pe_op op_mul pe_int (pv 2)) (pa_cons (pe_op op_add (pv 3) pe_int) pa_nil))) pa_nil)))
          (pa_cons (pe_tupleOf (by rfl) T.tuple (pe_callB cr_sorted (by rfl) T.sorted boot_sorted (pa_cons (pe_lst (pa_cons (pe_op op_add (pe_op op_mul pe_int (pv 2)) pe_int) (pa_cons (pe_op op_add (pv 3) pe_int) pa_nil))) pa_nil))) pa_nil))))))))
      (pss_one (ps_ret (pe_tupleOf (by rfl) T.tuple (pe_callB cr_sortedPO (by rfl) T.sorted boot_sorted (pa_cons (pv 1) pa_nil)))))), ?_⟩
    refine ⟨Nat.zero_le _, fun D0 hD0 => ?_⟩
    have s0 := Same.new (o := .lst []) hD0
    refine ⟨_, rfl, n, rfl, by omega, by omega, ?_⟩
    refine for_range (lo := 0) (n := ((n : Nat) : Int).toNat) (fun i σ H' => ∃ (D : Addr) (as : List Addr) (v2 v3 : Option V), σ = [some (.int (n : Nat)), some (.ref D), v2, v3] ∧ Same H H' ∧ H' D = some (.lst (refs as)) ∧ PL H' as (ringU n i)) ⟨D0, [], none, none, rfl, s0, upd_same, .nil⟩ ?_ ?_
    · rintro i σ H1 hi ⟨D, as, v2, v3, rfl, s1, hD, hP⟩
      have hi : i < n := by omega
      have lP : as.length = 2 * i := by rw [hP.len, ring_len]
      have em : ((0 : Int) + (i : Nat) + 1) % (n : Nat) = (((i + 1) % n : Nat) : Int) := by
        rw [show ((0 : Int) + (i : Nat) + 1) = ((i + 1 : Nat) : Int) by omega]
        rfl
      refine ⟨_, rfl, _, _, rfl, rfl, _, rfl, _, _, rfl, rfl, (by show (0 : Int) < (n : Nat); omega), _, _, rfl, rfl, .inl ⟨by decide, by decide⟩, ?_⟩
      have x1 : (4 : Int) * ((0 : Int) + (i : Nat)) = ((4 * i : Nat) : Int) := by omega
      have x2 : (4 : Int) * (((0 : Int) + (i : Nat) + 1) % (n : Nat)) + 2 = ((4 * ((i + 1) % n) + 2 : Nat) : Int) := by rw [em]; omega
      have x3 : (4 : Int) * ((0 : Int) + (i : Nat)) + 1 = ((4 * i + 1 : Nat) : Int) := by omega
      have x4 : (4 : Int) * (((0 : Int) + (i : Nat) + 1) % (n : Nat)) + 3 = ((4 * ((i + 1) % n) + 3 : Nat) : Int) := by rw [em]; omega
      refine ⟨_, rfl, ?_⟩
      refine ⟨_, rfl, _, _, rfl, rfl, .inl ⟨by decide, by decide⟩, _, rfl, _, _, rfl, rfl, two_le, fun l hl => ?_⟩
      have u1 := Same.new (o := .lst [V.int ((4 : Int) * ((0 : Int) + (i : Nat))), V.int ((4 : Int) * (((0 : Int) + (i : Nat) + 1) % (n : Nat)) + 2)]) hl
      refine ⟨l, [(4 : Int) * ((0 : Int) + (i : Nat)), (4 : Int) * (((0 : Int) + (i : Nat) + 1) % (n : Nat)) + 2], rfl, SqL.of upd_same, (by show 2 < 64; decide), fun ns l2 hp hs hl2 => ?_⟩
      have u2 := Same.new (o := .lst (ns.map V.int)) hl2
      rw [x1, x2] at hp
      have en := low_of hp hs
      subst en
      refine .inl ⟨l2, _, rfl, SqL.of upd_same, fun t1 ht1 => ?_⟩
      have u3 := Same.new (o := .tup [V.int ((low (4 * i) (4 * ((i + 1) % n) + 2)).1 : Nat), V.int ((low (4 * i) (4 * ((i + 1) % n) + 2)).2 : Nat)]) ht1
      have w1 := u1.trans (u2.trans u3)
      refine ⟨_, rfl, _, _, rfl, rfl, .inl ⟨by decide, by decide⟩, _, _, rfl, rfl, _, rfl, _, _, rfl, rfl, two_le, fun l3 hl3 => ?_⟩
      have u4 := Same.new (o := .lst [V.int ((4 : Int) * ((0 : Int) + (i : Nat)) + 1), V.int ((4 : Int) * (((0 : Int) + (i : Nat) + 1) % (n : Nat)) + 3)]) hl3
      refine ⟨l3, [(4 : Int) * ((0 : Int) + (i : Nat)) + 1, (4 : Int) * (((0 : Int) + (i : Nat) + 1) % (n : Nat)) + 3], rfl, SqL.of upd_same, (by show 2 < 64; decide), fun ns2 l4 hp2 hs2 hl4 => ?_⟩
      have u5 := Same.new (o := .lst (ns2.map V.int)) hl4
      rw [x3, x4] at hp2
      have en2 := low_of hp2 hs2
      subst en2
      refine .inl ⟨l4, _, rfl, SqL.of upd_same, fun t2 ht2 => ?_⟩
      have u6 := Same.new (o := .tup [V.int ((low (4 * i + 1) (4 * ((i + 1) % n) + 3)).1 : Nat), V.int ((low (4 * i + 1) (4 * ((i + 1) % n) + 3)).2 : Nat)]) ht2
      have w2 := u4.trans (u5.trans u6)
      refine ⟨two_le, fun l5 hl5 => ?_⟩
      have u7 := Same.new (o := .lst [V.ref t1, V.ref t2]) hl5
      have wA := w1.trans (w2.trans u7)
      refine ⟨D, l5, _, _, rfl, rfl, SqL.of (wA _ _ hD), upd_same, Nat.le_of_lt (small1000 (by rw [List.length_map]; show _ + 2 ≤ 1000; omega)), fun l6 hl6 => ?_⟩
      have u8 := Same.new (o := .lst (refs as ++ [V.ref t1, V.ref t2])) hl6
      have wB := wA.trans u8
      refine ⟨l6, as ++ [t1, t2], _, _, rfl, s1.trans wB, by rw [upd_same, refs_app]; rfl, ?_⟩
      rw [ringU_snoc]
      exact (hP.mono (sameT wB)).app (.cons (u8 _ _ (u7 _ _ (w2 _ _ upd_same))) (.cons (u8 _ _ (u7 _ _ upd_same)) .nil))
    · rintro σ H1 ⟨D, as, v2, v3, rfl, s1, hD, hP⟩
      refine ⟨_, rfl, ?_⟩
      show rSortedPO K [V.ref D] _ (fun x H1 => kTup K x H1 Q)
      refine rd_sorted (SqL.of hD) hP fun cs qs l2 hC hperm hle hl2 => ?_
      have s10 := Same.new (o := .lst (refs cs)) hl2
      refine .inl ⟨l2, _, rfl, SqL.of upd_same, fun u hu => ?_⟩
      have s11 := Same.new (o := .tup (refs cs)) hu
      have hperm : qs.Perm (ringU n n) := hperm
      exact hq _ u cs qs (s1.trans (s10.trans s11)) upd_same (hC.mono (sameT (s10.trans s11))) hperm hle
end
end One
end P_PT

section P_YX
set_option linter.all false
set_option maxRecDepth 100000
set_option maxHeartbeats 16000000
namespace One
open PySem PySem.Spec PyProof.Rows L2
abbrev sLaw : Stmt := top 42
abbrev nLaw : List Str := ["script", "m", "turn", "yard", "pairs", "bent", "are_good", "again", "things", "great", "one"]
theorem scLaw : FnScope nLaw ["script"] (defScope sLaw) := ⟨rfl, rfl, rfl, by decide +kernel, rfl, by decide +kernel, by decide +kernel⟩
theorem okN {n : Nat} (h : n < 2000) : okI ((n : Nat) : Int) := .inl (by omega)
theorem fx_pr {q : Nat × Nat} (h1 : q.1 < 2000) (h2 : q.2 < 2000) : Fx (prD q) 1 2 := (FxA.cons (okI_fx (okN h1)).1 (FxA.cons (okI_fx (okN h2)).1 (FxA.nil (n := 0)))).tup
theorem fx_prs {ps : List (Nat × Nat)} (h : ∀ q ∈ ps, q.1 < 2000 ∧ q.2 < 2000) : FxA (ps.map prD) 1 (3 * ps.length) := by
  have a := fxA_all (k := 1) (n := 2) (ds := ps.map prD) fun d hd => by
    obtain ⟨q, hq, rfl⟩ := List.mem_map.mp hd
    exact fx_pr (h q hq).1 (h q hq).2
  rw [List.length_map] at a
  exact a
theorem da_pairs {p c : Addr} {H : Hp} {n : Nat} (M : MS H p c n) {as : List Addr} {ps : List (Nat × Nat)} (h : PL H as ps) : DaAll p p H (refs as) (ps.map prD) := by
  induction h with
  | nil => exact .nil
  | cons h1 _ ih => exact .cons (.tup (tup_off M h1) (tup_off M h1) h1 (.cons (.int _) (.cons (.int _) .nil))) ih
theorem ring_lt {n : Nat} (hn : 0 < n) : ∀ p ∈ ringU n n, p.1 < 4 * n + 4 ∧ p.2 < 4 * n + 4 := fun p m => by
  obtain ⟨k, hk, h⟩ := List.mem_flatMap.mp m
  have hk := List.mem_range.mp hk
  have hm := Nat.mod_lt (k + 1) hn
  have lo : ∀ a b : Nat, a < 4 * n + 4 → b < 4 * n + 4 → (low a b).1 < 4 * n + 4 ∧ (low a b).2 < 4 * n + 4 := fun a b ha hb => by
    unfold low
    split <;> exact ⟨by assumption, by assumption⟩
  simp only [List.mem_cons, List.not_mem_nil, or_false] at h
  rcases h with rfl | rfl <;> exact lo _ _ (by omega) (by omega)
theorem tabs_soft {T : List (Addr × Str)} {H H' : Hp} (t : LamX.Tabs T H) (e : ∀ b o, (∀ xs, o ≠ .lst xs) → (∀ kvs, o ≠ .dK kvs) → H b = some o → H' b = some o) : LamX.Tabs T H' := fun q hq => by
  obtain ⟨ps, h1, h2, h3⟩ := t q hq
  refine ⟨ps, e _ _ (fun _ z => nomatch z) (fun _ z => nomatch z) h1, h2, fun pos cv hcv => ?_⟩
  obtain ⟨c', rfl, hc⟩ := h3 pos cv hcv
  exact ⟨c', rfl, e _ _ (fun _ z => nomatch z) (fun _ z => nomatch z) hc⟩
theorem tabs_ext {T : List (Addr × Str)} {H H' : Hp} {p c : Addr} {n : Nat} (t : LamX.Tabs T H) (M : MS H p c n) (e : Ext p H H') : LamX.Tabs T H' := tabs_soft t fun b o n1 n2 h => e b o (fun z => by
  subst z
  obtain ⟨_, _, _, _, h1, _⟩ := M.ex
  exact n2 _ (Option.some.inj (h.symm.trans h1))) h
/-- pairs of a yard's lines are let by -/
theorem dup_good {N : Nat} : ∀ {prs : List (Int × Int)} {k : Nat} {met : List Nat}, (met ++ ends (prsL prs)).Nodup → (∀ e ∈ ends (prsL prs), e < N) → (∀ q ∈ prs, 0 ≤ q.1 ∧ 0 ≤ q.2) → dupF N k met prs = none
  | [], _, _, _, _, _ => rfl
  | p :: r, k, met, h, hl, h0 => by
    have pm := ends_low p.1.toNat p.2.toNat (ends (prsL r))
    have e : ends (prsL (p :: r)) = (low p.1.toNat p.2.toNat).1 :: (low p.1.toNat p.2.toNat).2 :: ends (prsL r) := rfl
    rw [e] at h hl
    have h := (List.Perm.append_left met pm).nodup_iff.mp h
    have hl : ∀ x ∈ p.1.toNat :: p.2.toNat :: ends (prsL r), x < N := fun x hx => hl x (pm.mem_iff.mpr hx)
    obtain ⟨a0, b0⟩ := h0 p (List.mem_cons_self ..)
    have l1 := hl p.1.toNat (List.mem_cons_self ..)
    have l2 := hl p.2.toNat (List.mem_cons_of_mem _ (List.mem_cons_self ..))
    obtain ⟨_, _, hd⟩ := List.nodup_append.mp h
    have nb : ∀ a : Int, 0 ≤ a → a.toNat < N → ¬ a.toNat ∈ met → bad N met a = false := fun a ha hN hm => by
      unfold bad
      rw [decide_eq_true ha, decide_eq_true (by omega : a < (N : Int))]
      cases hx : met.contains a.toNat with
      | false => rfl
      | true => exact absurd (List.contains_iff_mem.mp hx) hm
    have b1 := nb p.1 a0 l1 fun m => hd _ m p.1.toNat (List.mem_cons_self ..) rfl
    have b2 := nb p.2 b0 l2 fun m => hd _ m p.2.toNat (List.mem_cons_of_mem _ (List.mem_cons_self ..)) rfl
    show (if bad N met p.1 || bad N met p.2 then some k else dupF N (k + 1) (met ++ [p.1.toNat, p.2.toNat]) r) = none
    rw [b1, b2, Bool.or_false, if_neg (by decide)]
    exact dup_good (by rw [List.append_assoc]; exact h) (fun x hx => hl x (List.mem_cons_of_mem _ (List.mem_cons_of_mem _ hx))) fun q hq => h0 q (List.mem_cons_of_mem _ hq)
theorem all_of {ds : List PyData} {prs : List (Int × Int)} (h : ds.map pairD = prs.map some) : (ds.all fun e => (pairD e).isSome) = true ∧ ds.filterMap pairD = prs ∧ ds.length = prs.length := by
  have hl := congrArg List.length h
  rw [List.length_map, List.length_map] at hl
  refine ⟨List.all_eq_true.mpr fun e he => ?_, ?_, hl⟩
  · have : pairD e ∈ prs.map some := by rw [← h]; exact List.mem_map.mpr ⟨e, he, rfl⟩
    obtain ⟨q, _, e2⟩ := List.mem_map.mp this
    rw [← e2]
    rfl
  · have : (ds.map pairD).filterMap id = (prs.map some).filterMap id := by rw [h]
    rw [List.filterMap_map, List.filterMap_map] at this
    simpa using this
theorem place_yard {n : Nat} {ps : List (Nat × Nat)} {ds : List PyData} {prs : List (Int × Int)} (Y : Yard n ps) (hn : n ≤ 40) (hm : ds.map pairD = prs.map some) (hp : (prsL prs).Perm ps) (h0 : ∀ q ∈ prs, 0 ≤ q.1 ∧ 0 ≤ q.2) : pairsD (.list ds) = some prs ∧ placeP (.list ds) = none := by
  obtain ⟨a1, a2, a3⟩ := all_of hm
  have hl : prs.length = 2 * n := by
    have := hp.length_eq
    rw [show (prsL prs).length = prs.length from List.length_map _, Y.lines.len] at this
    exact this
  have hpos := Y.pos
  have hc : canBe (ds.length : Nat) = true := by
    unfold canBe
    simp only [Bool.and_eq_true, decide_eq_true_eq]
    omega
  have e : pairsD (.list ds) = some prs := by
    show (if canBe (ds.length : Nat) && ds.all (fun e => (pairD e).isSome) then some (ds.filterMap pairD) else none) = _
    rw [hc, a1, a2]
    rfl
  have L := Y.lines.perm hp.symm
  refine ⟨e, ?_⟩
  have e2 : placeP (.list ds) = match dupF (2 * prs.length) 0 [] prs with
    | some k => some [k]
    | none => open Classical in if Whole (prs.length / 2) (prsL prs) then none else some [prs.length] := by unfold placeP; rw [e] <;> rfl
  rw [e2, dup_good (by simpa using L.nd) (fun x hx => by have := L.lt x hx; omega) h0]
  show (open Classical in if Whole (prs.length / 2) (prsL prs) then none else some [prs.length]) = none
  rw [hl, show 2 * n / 2 = n by omega]
  exact if_pos (Y.whole.perm hp.symm)
theorem up_le {ps : List (Nat × Nat)} (h : ps.Pairwise ltP) : ps.Pairwise leP := h.imp fun {a b} h => by
  unfold ltP at h
  unfold leP
  omega
/-- rows of pairs, out of data -/
theorem LP.of {p : Addr} {H : Hp} : ∀ {ds : List PyData} {xs : List V}, DaAll p p H xs ds → (∀ e ∈ ds, (pairD e).isSome) → ∃ prs, LP p H xs prs ∧ ds.map pairD = prs.map some
  | [], _, h, _ => by cases h; exact ⟨[], .nil, rfl⟩
  | d :: ds, _, h, ha => by
    cases h with
    | cons a b =>
      obtain ⟨prs, i1, i2⟩ := LP.of b fun e he => ha e (List.mem_cons_of_mem _ he)
      have hs := ha d (List.mem_cons_self ..)
      cases hq : pairD d with
      | none => rw [hq] at hs; cases hs
      | some q =>
        obtain ⟨t, rfl, ht⟩ := pair_at a hq
        refine ⟨q :: prs, ?_, by rw [List.map_cons, List.map_cons, hq, i2]⟩
        rcases ht with ht | ht
        · cases a with
          | lst a1 a2 a3 f g => exact .lst a1 a3 ht i1
          | tup a1 a2 f g => rw [ht] at f; cases f
          | emp a1 a2 f => rw [ht] at f; cases f
        · cases a with
          | lst a1 a2 a3 f g => rw [ht] at f; cases f
          | tup a1 a2 f g => exact .tup a1 ht i1
          | emp a1 a2 f => rw [ht] at f; cases f
def spLaw (K : PySem.W.Frag) (Pt : Addr) : Sp := fun vs H Q _ => ∃ (a : Addr) (ns : List Int), vs = [.ref a] ∧ SqL K H a (ns.map V.int) ∧ ns.length ≤ 63 ∧ H Pt = some (.tbl #[]) ∧ ∀ H', Q (.bl true) H'
section
variable {P : Program} {w : World} {K : PySem.W.Frag} {mg : Str → Option Value} {base : Heap} {Pt : Addr} {CL : Nat → Addr}
theorem ok_law {f fB fY fLo fBe fIp fR fI fYo fG : Addr} {fd dB dY dLo dBe dIp dR dI dYo dG : FuncData} {TT : List (Addr × Str)} (hTT : TT = [(Pt, qualR)]) (F : Fun K "law" "law" sLaw f fd) (T : TB mg) (cB : Cal K mg "_law_begun" fB dB ["script"]) (gB : FnOk P w K mg base CX0 1 fB dB ["script"] (spBegun K))
    (cY : Cal K mg "_law_yard" fY dY ["m", "most"]) (gY : FnOk P w K mg base CX0 3 fY dY ["m", "most"] spYard) (cLo : Cal K mg "_law_loose" fLo dLo ["m", "yard"]) (gLo : FnOk P w K mg base CX0 2 fLo dLo ["m", "yard"] spLo) (cBe : Cal K mg "_law_bent" fBe dBe ["m", "pairs"]) (gBe : FnG P w K mg base CX0 2 fBe dBe ["m", "pairs"] spBe)
    (cIp : Cal K mg "_law_is_pair" fIp dIp ["thing"]) (gIp : FnOk P w K mg base CX0 1 fIp dIp ["thing"] spLl) (cR : Cal K mg "_law_right" fR dR ["things"]) (gR : FnG P w K mg base CX0 10 fR dR ["things"] (spRi TT))
    (cI : Cal K mg "is_yard" fI dI ["thing"]) (gI : FnOk P w K mg base CX0 5 fI dI ["thing"] spIsYard) (cYo : Cal K mg "yard_of" fYo dYo ["pairs"]) (gYo : FnOk P w K mg base (L2.CX P w) 6 fYo dYo ["pairs"] (spYo (CL 0))) (cRg : Cal K mg "_law_ring" fG dG ["many"]) (gG : FnOk P w K mg base CX0 1 fG dG ["many"] spRg) :
    FnG P w K mg base CX0 11 f fd ["script"] (spLaw K Pt) := by
  refine okG0 F scLaw (fun vs H Q E h => ?_) (fun cdv A outer s H vs Q E hgd hr h => ?_)
  · obtain ⟨a, ns, rfl, _⟩ := h
    rfl
  · obtain ⟨a, ns, rfl, hS, hl, hPt, k⟩ := h
    have nd := scLaw.nd
    have hu : (A.deeper (envOfC "law" (defScope sLaw) s.heap.objs.size f cdv)).units + 64 < cLine := hr.units
    have rm : ∀ {j : Nat}, j ≤ 10 → Room j (A.deeper (envOfC "law" (defScope sLaw) s.heap.objs.size f cdv)) := fun h => hr.mono h
    have rp : ∀ {X' : Cx}, X'.A = A.deeper (envOfC "law" (defScope sLaw) s.heap.objs.size f cdv) → CallR X' (.builtin "repr") (rReprQ X'.K) := fun e => cr_reprQ (by rw [e]; exact hgd) (by rw [e]; exact hu)
    refine ⟨_, pss_cons (ps_set (i := 1) nd rfl (Or.inl rfl) (pe_call gB (rm (by decide)) rfl cB.g cB.kp cB.b .nil pass0 (pa_cons (pv 0) pa_nil)))
      (pss_cons (ps_for PassesOwn.never rfl (pi_range1 (by rfl) T.range (pa_cons pe_int pa_nil)) (pg_name (i := 2) nd rfl (Or.inl rfl))
        (pss_cons (ps_set (i := 3) nd rfl (Or.inl rfl) (pe_call gY (rm (by decide)) rfl cY.g cY.kp cY.b .nil pass0 (pa_cons (pv 1) (pa_cons pe_int pa_nil))))
      (pss_cons (ps_set (i := 4) nd rfl (Or.inl rfl) (pe_call gLo (rm (by decide)) rfl cLo.g cLo.kp cLo.b .nil pass0 (pa_cons (pv 1) (pa_cons (pv 3) pa_nil))))
      (pss_cons (ps_if (PW.pt (pw_or (pt_cmpR op_ne (pe_callB (rp rfl) (by rfl) T.repr boot_repr (pa_cons (pe_call gYo (rm (by decide)) rfl cYo.g cYo.kp cYo.b .nil passL (pa_cons (pv 4) pa_nil)) pa_nil)) (pe_callB (rp rfl) (by rfl) T.repr boot_repr (pa_cons (pv 3) pa_nil)) (nomark _)) (pw_or1 (pt_not (pt_val (pe_call gI (rm (by decide)) rfl cI.g cI.kp cI.b .nil pass0 (pa_cons (pe_call gYo (rm (by decide)) rfl cYo.g cYo.kp cYo.b .nil passL (pa_cons (pv 4) pa_nil)) pa_nil))))))) (pss_one (ps_ret pe_bl)) pss_nil)
      (pss_cons (ps_set (i := 5) nd rfl (Or.inl rfl) (pe_callG gBe (by exact hgd) (rm (by decide)) rfl cBe.g cBe.kp cBe.b .nil pass0 (pa_cons (pv 1) (pa_cons (pv 4) pa_nil))))
      (C8.pss_cut (ps_set (i := 6) nd rfl (Or.inl rfl) (pe_and (pe_callB call_isi (by rfl) T.isinstance boot_isinstance (pa_cons (pv 5) (pa_cons (pe_bltn (v := .ty "list") (by rfl) T.list (by decide +kernel) rfl) pa_nil))) (pe_one (pe_cmpR (op_eqNil (by exact hu)) (pe_lc (own := [("one", 10)]) (g := (gName 10)) (tt := (tNot (tB (tCall spLl [] E0 (tCons (tVar 10) tNil))))) (te := (tVar 10)) rfl nd (pi_list (pv 5)) (blkOk_by (N := nLaw) (sc := defScope sLaw) (by decide +kernel)) (fun _ _ _ _ _ => pg_name (i := 10) nd rfl (Or.inl rfl)) (fun _ _ _ _ _ => pts_one (pt_not (pt_val (pe_call gIp (rm (by decide)) rfl cIp.g cIp.kp cIp.b .nil pass0 (pa_cons (pv 10) pa_nil))))) (fun _ _ _ _ _ => by exact (pv 10))) (pe_lst pa_nil) (nomark _)))))
      (C8.pss_cut (ps_set (i := 7) nd rfl (Or.inl rfl) (pe_ifExp (pt_val (pv 6)) (pe_callG gBe (by exact hgd) (rm (by decide)) rfl cBe.g cBe.kp cBe.b .nil pass0 (pa_cons (pv 1) (pa_cons (pv 5) pa_nil))) (pv 5)))
      (pss_one (ps_for PassesOwn.never rfl (pi_tup (pe_tup (pa_cons (pv 4) (pa_cons (pe_tupleOf (by rfl) T.tuple (pv 4)) (pa_cons (pv 5) (pa_cons (pv 7) (pa_cons (pv 4) pa_nil))))))) (pg_name (i := 8) nd rfl (Or.inl rfl))
        (pss_one (ps_if (pt_not (pt_val (pe_callG gR (by exact hgd) (rm (by decide)) rfl cR.g cR.kp cR.b .nil pass0 (pa_cons (pv 8) pa_nil)))) (pss_one (ps_ret pe_bl)) pss_nil)))))))))))
      (pss_cons (ps_set (i := 9) nd rfl (Or.inl rfl) (pe_call gLo (rm (by decide)) rfl cLo.g cLo.kp cLo.b .nil pass0 (pa_cons (pv 1) (pa_cons (pe_call gG (rm (by decide)) rfl cRg.g cRg.kp cRg.b .nil pass0 (pa_cons pe_int pa_nil)) pa_nil))))
      (pss_cons (ps_if (PW.pt (pw_or (pt_cmpR op_ne (pe_callB (rp rfl) (by rfl) T.repr boot_repr (pa_cons (pe_call gYo (rm (by decide)) rfl cYo.g cYo.kp cYo.b .nil passL (pa_cons (pv 9) pa_nil)) pa_nil)) (pe_callB (rp rfl) (by rfl) T.repr boot_repr (pa_cons (pe_call gG (rm (by decide)) rfl cRg.g cRg.kp cRg.b .nil pass0 (pa_cons pe_int pa_nil)) pa_nil)) (nomark _)) (pw_or1 (pt_not (pt_val (pe_callG gR (by exact hgd) (rm (by decide)) rfl cR.g cR.kp cR.b .nil pass0 (pa_cons (pe_callG gBe (by exact hgd) (rm (by decide)) rfl cBe.g cBe.kp cBe.b .nil pass0 (pa_cons (pv 1) (pa_cons (pv 9) pa_nil))) pa_nil))))))) (pss_one (ps_ret pe_bl)) pss_nil)
      (pss_one (ps_ret (pe_callG gR (by exact hgd) (rm (by decide)) rfl cR.g cR.kp cR.b .nil pass0 (pa_cons (pe_call gG (rm (by decide)) rfl cRg.g cRg.kp cRg.b .nil pass0 (pa_cons pe_int pa_nil)) pa_nil))))))), ?_⟩
    have same_ne : ∀ x : Str, (!decide (V.str x = V.str x)) = false := fun x => by rw [decide_eq_true rfl]; rfl
    refine ⟨_, rfl, a, ns, rfl, hS, hl, fun H0 p c s0 hp M0 => ?_⟩
    have t0 : LamX.Tabs TT H0 := fun q hq => by
      rw [hTT] at hq
      rw [List.mem_singleton.mp hq]
      exact LamX.TabS.nil (s0 _ _ hPt)
    refine ⟨12, rfl, by decide, by decide, ?_⟩
    refine for_range (lo := 0) (n := (12 : Int).toNat) (fun i σ H' => ∃ v2 v3 v4 v5 v6 v7 v8 : Option V, σ = [some (.ref a), some (.ref p), v2, v3, v4, v5, v6, v7, v8, none, none] ∧ MS H' p c (1000 * i) ∧ LamX.Tabs TT H') ⟨none, none, none, none, none, none, none, rfl, M0, t0⟩ ?_ ?_
    · rintro i σ H1 hi ⟨v2, v3, v4, v5, v6, v7, v8, rfl, M1, t1⟩
      have hi : i < 12 := hi
      refine ⟨_, rfl, p, c, _, 10, rfl, M1, by omega, by decide, by decide, fun H2 y n ps M2 e2 hY hn => ?_⟩
      obtain ⟨Y, as, ht, hP⟩ := id hY
      have lp := Y.lines.len
      have hpos := Y.pos
      have ylt := Y.lt
      refine ⟨_, rfl, _, rfl, p, c, _, y, as, ps, rfl, M2, by omega, ht, hP, fun q hq => ⟨(ylt q hq).1, by have := (ylt q hq).2; omega⟩, by omega, fun H3 L fs prs M3 e3 nL nLs hL lpr hperm hsm => ?_⟩
      have hok : ∀ q ∈ prs, okI q.1 ∧ okI q.2 ∧ q.1 ≠ q.2 := fun q hq => by
        obtain ⟨h1, h2, h3, h4, h5⟩ := hsm q hq
        exact ⟨.inl (by omega), .inl (by omega), h5⟩
      obtain ⟨ds, z1, z2, z3, z4⟩ := lpr.rw hok
      have hprl : prs.length = 2 * n := by
        have := hperm.length_eq
        rw [show (prsL prs).length = prs.length from List.length_map _] at this
        omega
      obtain ⟨pd, pn⟩ := place_yard Y (by omega) z4 hperm fun q hq => ⟨(hsm q hq).1, (hsm q hq).2.2.1⟩
      have t3 : LamX.Tabs TT H3 := tabs_ext t1 M1 (e2.trans e3)
      have hdL : Da p p H3 (.ref L) (.list ds) := .lst nL nL nLs hL z1
      have ht3 := tupE M2 e3 _ _ ht
      have hP3 := hP.mono (tupE M2 e3)
      have small : ∀ q ∈ ps, q.1 < 1000 ∧ q.2 < 1000 := fun q hq => by
        have := ylt q hq
        omega
      have ofP : ∀ (H5 : Hp) (Q' : VK) (E' : XK), Same H3 H5 → (∀ H6 t as', Same H5 H6 → H6 t = some (.tup (refs as')) → PL H6 as' ps → Q' (.ref t) H6) → spYo (CL 0) [.ref L] H5 Q' E' := fun H5 Q' E' s5 kq => by
        refine ⟨.ref L, p, p, .list ds, rfl, Da.extT (ExtT.ofS s5) _ _ hdL, (fun pl hp => by rw [pn] at hp; cases hp), fun _ prs2 hp2 H6 t as' qs s6 ht6 hP6 hperm6 hle6 => ?_⟩
        rw [pd] at hp2
        cases hp2
        have e := sort_one hperm6 hperm.symm hle6 (up_le Y.up)
        subst e
        exact kq H6 t as' s6 ht6 hP6
      refine ⟨_, rfl, ?_⟩
      unfold tNil
      dsimp only
      refine ofP _ _ _ (Same.refl H3) fun H5 t5 as5 s5 ht5 hP5 => ?_
      refine rq_of (repr_yd ht5 hP5 small (by omega) ?_)
      refine ⟨_, rfl, ?_⟩
      try unfold tNil
      refine rq_of (repr_yd (s5 _ _ ht3) (hP3.mono (sameT s5)) small (by omega) ?_)
      refine ⟨rfl, _, rfl, ?_⟩
      rw [same_ne]
      refine iteF ⟨_, rfl, ?_⟩
      refine ofP _ _ _ s5 fun H6 t6 as6 s6 ht6 hP6 => ⟨.ref t6, rfl, fault_good ⟨Y, as6, ht6, hP6⟩ (by omega) fun H7 s7 => ⟨_, rfl, iteF ?_⟩⟩
      have s37 := s5.trans (s6.trans s7)
      have M7 := M3.keep s37
      have hL7 := s37 _ _ hL
      have lp7 := lpr.same s37
      generalize H7 = H7' at *
      refine ⟨_, rfl, _, rfl, p, c, _, L, fs, prs, rfl, M7, by omega, nL, nLs, hL7, lp7, hok, by omega, by omega, fun H8 v d M8 e8 hda hfx hes => ?_⟩
      refine ⟨fun σ H' => ∃ g : Bool, σ = [some (.ref a), some (.ref p), some (.int (0 + ((i : Nat) : Int))), some (.ref y), some (.ref L), some v, some (.bl g), v7, v8, none, none] ∧ Same H8 H' ∧ (g = true → ∃ es, d = .list es ∧ ∀ e ∈ es, (pairD e).isSome), ?_, ?_⟩
      · rcases seq_kind hda with ⟨tb, xs, es, T', rfl, htb, hes2, hde, hv, hT⟩ | ⟨hes2, T', hv, hT⟩
        · rcases htb with htb | htb
          · have ed : d = .list es := by
              cases hda with
              | lst _ _ _ f g => rw [htb] at f; cases f; cases hes2; rfl
              | tup _ _ f g => rw [htb] at f; cases f
              | emp _ _ f => rw [htb] at f; cases f
            refine ⟨_, rfl, _, _, _, _, _, rfl, .ty _, (TV.lst htb).tyx, (TV.lst htb).kLst, _, rfl, ?_⟩
            have hle := hde.len
            obtain ⟨hlen41, _, _⟩ := hes es ed
            refine iteT ⟨_, rfl, tb, rfl, ⟨_, SqL.of htb⟩, fun D hD => ?_⟩
            refine lc_it (walk_list (K := K) (a := tb) (xs := xs)) (fun j H4 => (∃ zs, H4 D = some (.lst zs) ∧ zs.length ≤ j ∧ (zs.length = 0 ↔ ((es.take j).all fun e => (pairD e).isSome) = true)) ∧ Same H8 H4) ⟨⟨[], upd_same, Nat.le_refl _, by simp⟩, Same.new hD⟩ (fun j H4 _ h => SqL.of (h.2 _ _ htb)) ?_ ?_
            · rintro j x H9' H9 hj ⟨⟨zs, h4, l4, z4⟩, s4⟩ ⟨rfl, hx⟩
              have hj : j < xs.length := hj
              obtain ⟨d', hd', hda'⟩ := hde.get hx
              have tk : ((es.take (j + 1)).all fun e => (pairD e).isSome) = (((es.take j).all fun e => (pairD e).isSome) && (pairD d').isSome) := by
                rw [List.take_succ, hd', Option.toList_some, List.all_append]
                congr 1
                exact Bool.and_true _
              refine ⟨rfl, _, rfl, x, p, p, d', rfl, Da.extT (ExtT.ofS s4) _ _ hda', fun H5 s5 => ⟨_, rfl, ?_⟩⟩
              cases hb : (pairD d').isSome with
              | true =>
                exact iteF ⟨⟨zs, s5 _ _ h4, by omega, by rw [tk, hb, Bool.and_true]; exact z4⟩, s4.trans s5⟩
              | false =>
                refine iteT ⟨_, rfl, zs, s5 _ _ h4, Nat.lt_of_lt_of_le (by omega : _ < 40000) (by decide), ⟨zs ++ [x], upd_same, by rw [List.length_append]; show zs.length + 1 ≤ _; omega, ?_⟩, fun b o eo => (upd_ne (ne_of_none eo hD)).trans ((s4.trans s5) _ _ eo)⟩
                rw [tk, hb, Bool.and_false, List.length_append]
                exact ⟨fun q => by simp at q, fun q => by cases q⟩
            · rintro H4 ⟨⟨zs, h4, l4, z4⟩, s4⟩
              refine ⟨Nat.zero_le _, fun m hm => ?_⟩
              have s5 := Same.new (o := .lst []) hm
              refine ⟨D, m, zs, rfl, rfl, SqL.of (s5 _ _ h4), upd_same, decide (zs.length = 0), rfl, s4.trans s5, fun hg => ⟨es, ed, fun e he => ?_⟩⟩
              rw [hle, List.take_length] at z4
              exact List.all_eq_true.mp (z4.mp (of_decide_eq_true hg)) e he
          · refine ⟨_, rfl, _, _, _, _, _, rfl, .ty _, (TV.tup htb).tyx, (TV.tup htb).kLst, _, rfl, ?_⟩
            exact iteF ⟨false, rfl, Same.refl H8, fun h => by cases h⟩
        · rw [Bool.or_eq_false_iff] at hT
          refine ⟨_, rfl, _, _, _, _, _, rfl, .ty _, hv.tyx, hv.kLst, _, rfl, ?_⟩
          rw [hT.1]
          exact iteF ⟨false, rfl, Same.refl H8, fun h => by cases h⟩
      rintro σ H9 ⟨g, rfl, s9, hg⟩
      have M9 := M8.keep s9
      have e9 := e8.trans (Ext.same s9)
      have hda9 := Da.extT (ExtT.ofS s9) _ _ hda
      refine ⟨fun σ H' => ∃ (va : V) (da : PyData), σ = [some (.ref a), some (.ref p), some (.int (0 + ((i : Nat) : Int))), some (.ref y), some (.ref L), some v, some (.bl g), some va, v8, none, none] ∧ MS H' p c (1000 * i + 500) ∧ Ext p H9 H' ∧ Da p p H' va da ∧ Fx da 8 120000, ?_, ?_⟩
      · refine ⟨_, rfl, _, rfl, ?_⟩
        cases g with
        | false => exact iteF ⟨_, rfl, v, d, rfl, M9.lt (by omega) (by omega), Ext.refl p H9, hda9, hfx.up (by decide) (by decide)⟩
        | true =>
          obtain ⟨es, ed, hall⟩ := hg rfl
          obtain ⟨h41, hpg, hpos'⟩ := hes es ed
          have hpos2 := hpos' hall (by omega)
          subst ed
          cases hda9 with
          | @lst tb xs _ a1 a2 a3 ff gg =>
            obtain ⟨prs2, lp2, hm2⟩ := LP.of gg hall
            have hl2 := congrArg List.length hm2
            rw [List.length_map, List.length_map] at hl2
            have hok2 : ∀ q ∈ prs2, okI q.1 ∧ okI q.2 ∧ q.1 ≠ q.2 := fun q hq => by
              have : some q ∈ es.map pairD := by rw [hm2]; exact List.mem_map.mpr ⟨q, hq, rfl⟩
              obtain ⟨e', he', hqe⟩ := List.mem_map.mp this
              obtain ⟨k1, k2⟩ := hpg e' he' q hqe
              exact ⟨k1, k2, pair_ne hqe⟩
            refine iteT ⟨_, rfl, _, rfl, p, c, _, tb, xs, prs2, rfl, M9, by omega, a1, a3, ff, lp2, hok2, by omega, by omega, fun HA va da MA eA hdaA hfxA _ => ?_⟩
            exact ⟨va, da, rfl, MA.lt (by omega) (by omega), eA, hdaA, hfxA.up (by decide) (by decide)⟩
      rintro σ HA ⟨va, da, rfl, MA, eA, hdaA, hfxA⟩
      have e7A := e9.trans eA
      have hLA := e7A _ _ nL hL7
      have z1A : DaAll p p HA fs ds := DaAll.extT (ExtT.ofE ((Ext.same s37).trans e7A)) _ _ z1
      refine ⟨_, rfl, _, rfl, .inl ⟨L, _, rfl, SqL.of hLA, fun tq htq => ?_⟩⟩
      have sB := Same.new (o := .tup fs) htq
      have gB := upd_same (H := HA) (a := tq) (o := .tup fs)
      have MB := MA.keep sB
      generalize upd HA tq (.tup fs) = HB at sB gB MB
      refine ⟨_, rfl, _, rfl, _, rfl, by show 5 ≤ sizeLine; decide, fun tt htt => ?_⟩
      have sC := Same.new (o := .tup [V.ref L, V.ref tq, v, va, V.ref L]) htt
      have gC := upd_same (H := HB) (a := tt) (o := .tup [V.ref L, V.ref tq, v, va, V.ref L])
      have MC := MB.keep sC
      have sAC := sB.trans sC
      generalize upd HB tt (.tup [V.ref L, V.ref tq, v, va, V.ref L]) = HC at sC gC MC sAC
      have z1C := DaAll.extT (ExtT.ofS sAC) _ _ z1A
      have dL : Da p p HC (.ref L) (.list ds) := .lst nL nL nLs (sAC _ _ hLA) z1C
      have fL : Fx (.list ds) 8 120000 := z2.lst.up (by decide) (by omega)
      have every : ∀ x ∈ [V.ref L, V.ref tq, v, va, V.ref L], ∃ d, Da p p HC x d ∧ Fx d 8 120000 := fun x hx => by
        simp only [List.mem_cons, List.not_mem_nil, or_false] at hx
        rcases hx with rfl | rfl | rfl | rfl | rfl
        · exact ⟨_, dL, fL⟩
        · exact ⟨_, .tup (tup_off MC (sC _ _ gB)) (tup_off MC (sC _ _ gB)) (sC _ _ gB) z1C, z2.tup.up (by decide) (by omega)⟩
        · exact ⟨_, Da.extT (ExtT.ofE (eA.trans (Ext.same sAC))) _ _ hda9, hfx.up (by decide) (by decide)⟩
        · exact ⟨_, Da.extT (ExtT.ofS sAC) _ _ hdaA, hfxA⟩
        · exact ⟨_, dL, fL⟩
      have tC : LamX.Tabs TT HC := tabs_ext t3 M3 (((Ext.same s37).trans e7A).trans (Ext.same sAC))
      generalize hxs : ([V.ref L, V.ref tq, v, va, V.ref L] : List V) = xs at every gC
      have tto := tup_off MC gC
      refine ⟨tt, rfl, ⟨_, SqT.of gC⟩, for_it (walk_tup (K := K) (a := tt) (xs := xs)) (fun j σ H' => ∃ w8 : Option V, σ = [some (.ref a), some (.ref p), some (.int (0 + ((i : Nat) : Int))), some (.ref y), some (.ref L), some v, some (.bl g), some va, w8, none, none] ∧ Since TT p c (1000 * i + 500) HC H') ⟨_, rfl, ⟨ExtT.refl _ _ _, MC, tC⟩⟩ (fun j σ H' _ ⟨_, _, S⟩ => SqT.of (S.e _ _ tto tto (fun _ z => nomatch z) gC)) ?_ ?_⟩
      · rintro j x σ HD' HD hj ⟨w8, rfl, SD⟩ ⟨rfl, hx⟩
        obtain ⟨d', hd', hf'⟩ := every x (List.mem_of_getElem? hx)
        refine ⟨_, rfl, x, p, c, _, d', rfl, SD.M, Da.extT SD.e d' x hd', hf', SD.t, fun HE ME eE tE => ⟨_, rfl, iteF ?_⟩⟩
        exact ⟨_, rfl, ⟨SD.e.trans eE, ME, tE⟩⟩
      · rintro σ HD ⟨w8, rfl, SD⟩
        exact ⟨_, _, _, _, _, _, _, rfl, SD.M.lt (by omega) (by omega), SD.t⟩
    · rintro σ H1 ⟨v2, v3, v4, v5, v6, v7, v8, rfl, M1, t1⟩
      refine ⟨_, rfl, 40, rfl, by decide, by decide, fun H2 t as ps s2 ht hP hpr hle => ?_⟩
      have Y := ring_yard (.inr rfl) hpr hle
      have lp := Y.lines.len
      have ylt := Y.lt
      have M2 := M1.keep s2
      refine ⟨p, c, _, t, as, ps, rfl, M2, by show 1000 * 12 ≤ _; decide, ht, hP, fun q hq => ⟨(ylt q hq).1, by have := (ylt q hq).2; omega⟩, by omega, fun H3 L fs prs M3 e3 nL nLs hL lpr hperm hsm => ?_⟩
      have hok : ∀ q ∈ prs, okI q.1 ∧ okI q.2 ∧ q.1 ≠ q.2 := fun q hq => by
        obtain ⟨h1, h2, h3, h4, h5⟩ := hsm q hq
        exact ⟨.inl (by omega), .inl (by omega), h5⟩
      obtain ⟨ds, z1, z2, z3, z4⟩ := lpr.rw hok
      have hprl : prs.length = 80 := by
        have := hperm.length_eq
        rw [show (prsL prs).length = prs.length from List.length_map _] at this
        omega
      obtain ⟨pd, pn⟩ := place_yard Y (by decide) z4 hperm fun q hq => ⟨(hsm q hq).1, (hsm q hq).2.2.1⟩
      have t3 : LamX.Tabs TT H3 := tabs_ext (t1.ext s2) M2 e3
      have hdL : Da p p H3 (.ref L) (.list ds) := .lst nL nL nLs hL z1
      have small : ∀ q ∈ ps, q.1 < 1000 ∧ q.2 < 1000 := fun q hq => by
        have := ylt q hq
        omega
      refine ⟨_, rfl, ?_⟩
      unfold tNil
      dsimp only
      refine ⟨.ref L, p, p, .list ds, rfl, hdL, (fun pl hp => by rw [pn] at hp; cases hp), fun _ prs2 hp2 H6 t6 as' qs s6 ht6 hP6 hperm6 hle6 => ?_⟩
      rw [pd] at hp2
      cases hp2
      have e := sort_one hperm6 hperm.symm hle6 (up_le Y.up)
      subst e
      refine rq_of (repr_yd ht6 hP6 small (by omega) ?_)
      refine ⟨40, rfl, by decide, by decide, fun H7 t7 as7 ps7 s7 ht7 hP7 hpr7 hle7 => ?_⟩
      have e := sort_one hpr7 hpr hle7 hle
      subst e
      refine rq_of (repr_yd ht7 hP7 small (by omega) ?_)
      refine ⟨rfl, _, rfl, ?_⟩
      rw [same_ne]
      have s37 := s6.trans s7
      have M7 := M3.keep s37
      refine iteF ⟨_, rfl, _, rfl, p, c, _, L, fs, prs, rfl, M7, by show 1000 * 12 + 200 ≤ _; decide, nL, nLs, s37 _ _ hL, lpr.same s37, hok, by omega, by omega, fun H8 v d M8 e8 hda hfx hes => ?_⟩
      have t8 := tabs_ext (t3.ext s37) M7 e8
      refine ⟨v, p, c, _, d, rfl, M8, hda, hfx.up (by decide) (by decide), t8, fun H9 M9 e9 t9 => ⟨_, rfl, iteF ?_⟩⟩
      refine ⟨41, rfl, by decide, by decide, fun HA tA asA psA sA htA hPA hprA hleA => ?_⟩
      have MA := M9.keep sA
      have lpA : psA.length = 82 := by rw [hprA.length_eq, ring_len]
      have smallA : ∀ q ∈ psA, q.1 < 2000 ∧ q.2 < 2000 := fun q hq => by
        have := ring_lt (n := 41) (by decide) q (hprA.mem_iff.mp hq)
        omega
      exact ⟨.ref tA, p, c, _, yd psA, rfl, MA, .tup (tup_off MA htA) (tup_off MA htA) htA (da_pairs MA hPA), ((fx_prs smallA).tup).up (by decide) (by omega), t9.ext sA, fun HB _ _ _ => k HB⟩
end
end One
end P_YX

section P_G3
set_option linter.all false
set_option maxRecDepth 100000
set_option maxHeartbeats 4000000
namespace One
open PySem PySem.Spec PyProof.Rows L2
/-- the one call of a law that has lambdas: cs, its code objects with their tables -/
theorem law_goesT {P : Program} {w : World} {K : PySem.W.Frag} {mg mb : Str → Option Value} {CX : CXT} {k : Nat} {fa a : Addr} {cs : List (Addr × Addr)} {fd : FuncData} {x : Str} {sp : Sp} {s : Shared} {vs : List Value} {ns : List Int} (inK : K.In s.heap) (nsm : s.heap.Ns mainGlobals mg)
    (nsb : s.heap.Ns builtinsNs mb) (boot : ∀ y : Str, y ≠ "__name__" → mb y = bootBuiltins y) (nolim : s.heap.NoLimit) (nogen : s.gens = #[]) (tab : ∀ p ∈ cs, s.heap.get? p.2 = some { cls := .none, data := .fields #[] }) (ntab : ∀ p ∈ cs, K.lookup p.2 = none) (heads : ∀ p ∈ cs, PySem.W.CodeHd s.heap p.1 p.2)
    (blt : ∃ (bm : Addr) (ob : Obj), mg "__builtins__" = some (.ref bm) ∧ bm ≠ builtinsNs ∧ s.heap.get? bm = some ob ∧ ob.cls = .type "module" ∧ ob.dict = some builtinsNs ∧ ob.data = .plain) (ha : s.heap.get? a = some { cls := .type "list", data := .seq vs.toArray }) (hi : IntsAre vs ns) (hl : ns.length ≤ sizeLine)
    (hr : Room k callerA) (F : ∀ base : Heap, K.In base → base.Ns mainGlobals mg → (∀ p ∈ cs, LamX.TabB base mg p.1 p.2) → FnG P w K mg base CX k fa fd [x] sp) (bind : ∀ (s : Shared) (u : Value), BindsTo s fd ⟨[u], []⟩ [(x, u)])
    (hsp : ∀ H : Hp, (∀ p ∈ cs, H p.2 = some (.tbl #[])) → SqL K H a (ns.map V.int) → sp [.ref a] H (fun v _ => v = .bl true) fun _ _ _ => False) (none_out : ∀ H e s', CX [] H s (fun _ _ _ => False) e s' → False) :
    codeAny (model P w) callerA (.call (.ref fa) ⟨[.ref a], []⟩) (fun r s' => r = .ok (.ret (.bool true)) ∧ OldK s.heap s'.heap ∧ s'.os = s.os ∧ AllBare s'.gens) s := by
  have rv := vals_ints hi
  have hlen := hi.length
  have isT : ∀ {b : Addr}, b ∈ cs.map (·.2) → s.heap.get? b = some { cls := .none, data := .fields #[] } := fun {b} hb => by
    obtain ⟨p, hp, e⟩ := List.mem_map.mp hb
    exact e ▸ tab p hp
  have toT : ∀ {p}, p ∈ cs → p.2 ∈ cs.map (·.2) := fun {p} hp => List.mem_map.mpr ⟨p, hp, rfl⟩
  have aT : a ∉ cs.map (·.2) := fun z => Data.noConfusion (show Data.seq vs.toArray _ = Data.fields #[] from congrArg Obj.data (Option.some.inj (ha.symm.trans (isT z))))
  have main : ∀ H : Hp, (∀ b ∈ cs.map (·.2), H b = some (.tbl #[])) → (∀ b u, H b = some u → (b ∈ cs.map (·.2) ∧ u = .tbl #[]) ∨ (b = a ∧ K.lookup a = none ∧ u = .frz { cls := .type "list", data := .seq vs.toArray } (.lst (ns.map V.int)))) → SqL K H a (ns.map V.int) →
      codeAny (model P w) callerA (.call (.ref fa) ⟨[.ref a], []⟩) (fun r s' => r = .ok (.ret (.bool true)) ∧ OldK s.heap s'.heap ∧ s'.os = s.os ∧ AllBare s'.gens) s := by
    intro H hT inv hS
    have ok : HOk P w H s.heap := fun b u e => by
      rcases inv b u e with ⟨hb, rfl⟩ | ⟨rfl, _, rfl⟩
      · exact isT hb
      · exact ⟨ha, by rw [List.length_map]; exact hl, vs, _, rv, ha⟩
    have put : ∀ {b : Addr} {o : Obj}, s.heap.get? b = some o → H b = none → (hidT s.heap H).get? b = some o := fun e n => hidT_get e n
    have free : ∀ {b : Addr} {o : Obj}, s.heap.get? b = some o → (∀ us n, o.data ≠ .seq us n) → o.data ≠ .fields #[] → H b = none := fun {b o} e h1 h2 => by
      match q : H b with
      | none => rfl
      | some u =>
        rcases inv b u q with ⟨hb, _⟩ | ⟨rfl, _, _⟩
        · cases (isT hb).symm.trans e
          exact (h2 rfl).elim
        · cases ha.symm.trans e
          exact (h1 _ _ rfl).elim
    have nsH : ∀ {b : Addr} {m : Str → Option Value}, s.heap.Ns b m → (hidT s.heap H).Ns b m := fun ⟨o, es, ep, e, d, r⟩ => ⟨o, es, ep, put e (free e (fun us n z => by cases d.symm.trans z) (fun z => by cases d.symm.trans z)), d, r⟩
    have inH : K.In (hidT s.heap H) := fun b o e => put (inK b o e) (by
      match q : H b with
      | none => rfl
      | some u =>
        rcases inv b u q with ⟨hb, _⟩ | ⟨rfl, z, _⟩
        · obtain ⟨p, hp, rfl⟩ := List.mem_map.mp hb
          cases (ntab p hp).symm.trans e
        · cases z.symm.trans e)
    obtain ⟨mc, n1, n2⟩ := nolim
    have tabB : ∀ p ∈ cs, LamX.TabB (hidT s.heap H) mg p.1 p.2 := fun p hp => by
      have hTp := tab p hp
      obtain ⟨og, es, ep, eg, dg, _⟩ := nsm
      refine ⟨?_, ?_, fun z => ?_⟩
      · obtain ⟨o, us, file, tf, flags, tg, inF, text, tt, e1, r1, r2, r3, rest⟩ := heads p hp
        refine ⟨o, us, file, tf, flags, tg, inF, text, tt, put e1 (free e1 (fun vs n z => by cases r2.symm.trans z) (fun z => ?_)), r1, r2, r3, rest⟩
        have z' : us = #[] := Data.fields.inj (r2.symm.trans z)
        rw [z'] at r3
        simp at r3
      · obtain ⟨bm, ob, b1, b2, b3, b4, b5, b6⟩ := blt
        refine ⟨bm, ob, b1, b2, fun q => ?_, fun q => ?_, put b3 (free b3 (fun vs n z => by cases b6.symm.trans z) (fun z => by cases b6.symm.trans z)), b4, b5, b6⟩
        · cases (q ▸ b3 : s.heap.get? mainGlobals = some ob).symm.trans eg
          cases b6.symm.trans dg
        · cases (q ▸ b3 : s.heap.get? p.2 = some ob).symm.trans hTp
          cases b6
      · cases (z ▸ hTp : s.heap.get? mainGlobals = _).symm.trans eg
        cases dg
    have env : Env0 P w K mg (hidT s.heap H) callerA [] s H := ⟨rfl, ⟨inH, nsH nsm, ⟨mb, nsH nsb, boot⟩, ⟨mc, nsH n1, n2⟩⟩, fun b o e => of_hidT e, Nat.le_of_eq (hidT_size _ _), trivial, fun b hb => absurd (show b ∈ ([] : List Addr) from hb) List.not_mem_nil, ok, .of_eq nogen⟩
    refine codeAny_mono ((F _ inH (nsH nsm) tabB).go callerA [] s H ⟨[.ref a], []⟩ [.ref a] [.ref a] _ _ rfl hr env (bind s (.ref a)) (.cons rfl .nil) (hsp H (fun p hp => hT _ (toT hp)) hS)) fun r s' h => ?_
    match r, h with
    | .error e, h => exact (none_out H e s' h).elim
    | .ok .next, h => exact h.elim
    | .ok .brk, h => exact h.elim
    | .ok .cont, h => exact h.elim
    | .ok (.ret u), ⟨v, H', os, bare, un, ok', rel, q⟩ =>
      cases (show v = .bl true from q)
      cases (show u = Value.bool true from rel)
      have key : ∀ b o, b ∉ cs.map (·.2) → s.heap.get? b = some o → s'.heap.get? b = some o := fun b o nb e => by
        match q : H b with
        | none => exact un.keep b o e q (fun z => absurd (show b ∈ ([] : List Addr) from z) List.not_mem_nil) (fun z => absurd z List.not_mem_nil)
        | some u =>
          rcases inv b u q with ⟨hb, _⟩ | ⟨rfl, _, rfl⟩
          · exact absurd hb nb
          · obtain ⟨e2, _⟩ := ok' b _ (un.frzs b _ _ q)
            cases ha.symm.trans e
            exact e2
      have more : ∀ p ∈ cs, ∃ m : Array Value, s'.heap.get? p.2 = some { cls := .none, data := .fields m } := fun p hp => let ⟨m, z⟩ := un.tbls p.2 #[] (hT _ (toT hp)); ⟨_, ok' p.2 _ z⟩
      refine ⟨rfl, ⟨fun b o e => ?_, fun b o e => ?_⟩, os, bare⟩
      · rcases Classical.em (b ∈ cs.map (·.2)) with hb | hb
        · obtain ⟨p, hp, rfl⟩ := List.mem_map.mp hb
          obtain ⟨m, hm⟩ := more p hp
          cases (tab p hp).symm.trans e
          exact .inr (.inl ⟨((heads p hp).tab (tab p hp)).isCodeTable, rfl, #[], m, rfl, by rw [Array.empty_append]; exact hm⟩)
        · exact .inl (key b o hb e)
      · rcases Classical.em (b ∈ cs.map (·.2)) with hb | hb
        · obtain ⟨p, hp, rfl⟩ := List.mem_map.mp hb
          obtain ⟨m, hm⟩ := more p hp
          exact ⟨_, hm⟩
        · exact ⟨o, key b o hb e⟩
  match hk : K.lookup a with
  | some o =>
    cases ha.symm.trans (inK a o hk)
    refine main (fun b => if b ∈ cs.map (·.2) then some (.tbl #[]) else none) (fun b hb => if_pos hb) (fun b u z => ?_) (.inr ⟨_, vs.toArray, _, hk, rfl, rfl, rfl, by rw [List.size_toArray, hlen]; exact hl, by simpa using rv⟩)
    rcases Classical.em (b ∈ cs.map (·.2)) with hb | hb
    · exact .inl ⟨hb, (Option.some.inj ((if_pos hb).symm.trans z)).symm⟩
    · cases (if_neg hb).symm.trans z
  | none =>
    refine main (fun b => if b ∈ cs.map (·.2) then some (.tbl #[]) else if b = a then some (.frz { cls := .type "list", data := .seq vs.toArray } (.lst (ns.map V.int))) else none) (fun b hb => if_pos hb) (fun b u z => ?_) (.inl (.inr ⟨{ cls := .type "list", data := .seq vs.toArray }, (if_neg aT).trans (if_pos rfl)⟩))
    rcases Classical.em (b ∈ cs.map (·.2)) with hb | hb
    · exact .inl ⟨hb, (Option.some.inj ((if_pos hb).symm.trans z)).symm⟩
    · have z1 := (if_neg hb).symm.trans z
      rcases Classical.em (b = a) with e | e
      · exact .inr ⟨e, hk, (Option.some.inj ((if_pos e).symm.trans z1)).symm⟩
      · cases (if_neg e).symm.trans z1
/-- what is known of the law's promise behind its top -/
def LawG (l : PySem.W.OpenLaw) (w : World) (K : PySem.W.Frag) (CX : CXT) (k n : Nat) (x : Str) (mg : Str → Option Value) (fa : Addr) (h : Heap) : Prop :=
  ∃ (fd : FuncData) (cs : List (Addr × Addr)) (sp : Sp), (∀ y ∈ cs, h.get? y.2 = some { cls := .none, data := .fields #[] }) ∧ (∀ y ∈ cs, K.lookup y.2 = none) ∧ (∀ y ∈ cs, PySem.W.CodeHd h y.1 y.2) ∧ (∀ (s : Shared) (u : Value), BindsTo s fd ⟨[u], []⟩ [(x, u)]) ∧
    (∀ (H : Hp) (a : Addr) (ns : List Int), ns.length ≤ n → (∀ z ∈ ns, Builtin.Int.intBits z ≤ 1048576) → (∀ y ∈ cs, H y.2 = some (.tbl #[])) → SqL K H a (ns.map V.int) → sp [.ref a] H (fun v _ => v = .bl true) fun _ _ _ => False) ∧
    (∀ base : Heap, K.In base → base.Ns mainGlobals mg → (∀ p ∈ cs, LamX.TabB base mg p.1 p.2) → FnG l.prog w K mg base CX k fa fd [x] sp)
theorem walkGT {l : PySem.W.OpenLaw} {n k : Nat} {q : Program} {loose : List Str} {XP : (Str → Option Value) → Heap → Prop} {YP : World → Heap → Prop} {d : DefRec} {K : Params → PySem.W.Frag} {CX : World → CXT} {x : Str} (hn : l.most = some n) (small : n ≤ sizeLine) (nodef : d.params.defaults = []) (hr : Room k callerA)
    (inY : ∀ (w : World) (h : Heap), YP w h → (K w.params).In h) (F : ∀ (w : World) (mg : Str → Option Value) (fa : Addr) (h : Heap), YP w h → (K w.params).In h → h.Ns mainGlobals mg → mg d.name = some (.ref fa) → LawG l w (K w.params) (CX w) k n x mg fa h)
    (none_out : ∀ (w : World) (H : Hp) (s : Shared) (e : Value) (s' : Shared), CX w [] H s (fun _ _ _ => False) e s' → False) : PySem.W.WalkO q loose XP YP l.row.toRowW d [] (fun f vs => PySem.call f vs) := by
  refine Att.attach_callB hn nodef fun w s0 s1 mg mb fa o pm cd doc a vs ns G Y ho hd hcd hmg hobj hints hlen hbits hg => ?_
  obtain ⟨fd, cs, sp, hT, nT, C, hb, hsp, hF⟩ := F w mg fa _ Y (inY w _ Y) G.T.g hmg
  exact law_goesT (inY w _ Y) G.T.g G.T.b G.T.builtins G.T.nolimit hg hT nT C G.T.bmain hobj hints (Nat.le_trans hlen small) hr hF hb (fun H hH hS => hsp H a ns hlen hbits hH hS) fun H e s' => none_out w H s1 e s'
end One
end P_G3

section P_H10
set_option linter.all false
set_option maxRecDepth 100000
set_option maxHeartbeats 8000000
namespace One
open PySem PySem.W PySem.Calls PyProof.Rows PySem.HandSPX L2
/-- a class's __init__, its first statement -/
def initOf : Stmt → Stmt
  | .ClassDef (body := b) .. => b.getD 0 (.Pass ⟨0, 0, 0, 0⟩)
  | s => s
theorem shape0 : Shape (initOf (top 2)) "place" := ⟨_, _, _, _, _, _, _, _, _, _, _, _, _, _, _, _, rfl, rfl, rfl, by decide +kernel, fun _ => rfl⟩
/-- a def of the top -/
structure DefAt (K : Frag) (x : Str) (st : Stmt) (f : Addr) (fd : FuncData) : Prop where
  ns : nsIn K mainGlobals x = some (some (.ref f))
  fn : L2.Fun K x x st f fd
theorem def_at {K : Frag} {x : Str} {st : Stmt} {f : Addr} {oc kV dc pm cd ct : Value} {od an : Option Addr} {sl : Array (Option Value)} (a : nsIn K mainGlobals x = some (some (.ref f))) (l : K.lookup f = some ⟨oc, od, .func (fnOf x x (defArgs st) (defBody st) (defScope st) .none kV dc pm an cd ct), sl⟩)
    (c : codeIn K cd x = true) (k : keepIn K (.ref f) = true) : DefAt K x st f (fnOf x x (defArgs st) (defBody st) (defScope st) .none kV dc pm an cd ct) := ⟨a, fun_mk l c k⟩
theorem DefAt.cal {K : Frag} {x : Str} {st : Stmt} {f : Addr} {fd : FuncData} {h : Heap} {mg : Str → Option Value} {ps : List Str} (D : DefAt K x st f fd) (X : K.In h) (G : h.Ns mainGlobals mg)
    (hb : ∀ (kV doc pm : Value) (an : Option Addr) (cdv ct : Value) (us : List Value), us.length = ps.length → bindArgs (fnOf x x (defArgs st) (defBody st) (defScope st) .none kV doc pm an cdv ct) ⟨us, []⟩ = pure (ps.zip us)) : Cal K mg x f fd ps := ⟨mg_of X G D.ns, D.fn.kp, D.fn.binds hb⟩
/-- an own exception class: what the top has written of it -/
structure ClsAt (P : Program) (K : Frag) (x : Str) (st : Stmt) (fld : Str) (C fI : Addr) : Prop where
  ns : nsIn K mainGlobals x = some (some (.ref C))
  own : OwnTxt P K st fld C fI
  iC : findIn K (.ref C) "__init__" = some (some (.ref fI))
  tC : typeIn K (.ref fI) = some (.type "function")
  kC : keepIn K (.ref C) = true
  exC : subIn K (.ref C) (.type "BaseException") = some true
  tyC : typeIn K (.ref C) = some (.type "type")
theorem al_of {K : Frag} {nm q : Str} {RE N : Addr} {bs : List Value} {sn : List Str} {sub : List Value} {ab : Bool} {col : Option Bool} {dd : Option Addr} {m0 m1 m2 m3 m5 : Option Value} {r : Option (Option Value)} {hdct : Bool}
    (xR : K.lookup RE = some (excClassObj nm q RE N bs [.type "ValueError", .type "Exception", .type "BaseException", .type "object"] hdct sn sub ab col dd m0 m1 m2 m3 m5 "ValueError.__new__")) (fR : findIn K (.ref RE) "__init__" = r) : alongIn K "__init__" [.ref RE, .type "ValueError", .type "Exception", .type "BaseException", .type "object"] = r := by
  unfold findIn at fR
  dsimp only at fR
  rw [xR] at fR
  exact fR
theorem cls_at {P : Program} {K : Frag} {x : Str} {st : Stmt} {fld nm q : Str} {C fI N RE cda cc : Addr} {bs : List Value} {sn : List Str} {sub : List Value} {ab : Bool} {col : Option Bool} {dd od an cdd cld : Option Addr} {m0 m1 m2 m3 m5 : Option Value} {oc doc pm ct ccl cl : Value} {osl ccs csl : Array (Option Value)} {vs : Array Value} {file qual : Str} {tf : Tok}
    (ns : nsIn K mainGlobals x = some (some (.ref C))) (xL : K.lookup C = some (excClassObj nm q C N bs [.ref RE, .type "ValueError", .type "Exception", .type "BaseException", .type "object"] true sn sub ab col dd m0 m1 m2 m3 m5 "ValueError.__new__"))
    (al : alongIn K "__init__" [.ref RE, .type "ValueError", .type "Exception", .type "BaseException", .type "object"] = some (some (.builtin "ValueError.__init__"))) (sa : findIn K (.ref C) "__setattr__" = some (some (.builtin "object.__setattr__"))) (noF : findIn K (.ref C) fld = some none)
    (veB : subIn K (.ref C) (.type "ValueError") = some true) (slf : mroIn K C (.ref C) = some true) (op : nsIn K cStatics "thirdparty.any" = some none) (tp : (P.main.scope.names.lookup ("super" : Str)).isSome = false) (sh : Shape st fld)
    (iC : findIn K (.ref C) "__init__" = some (some (.ref fI))) (l1 : K.lookup fI = some ⟨oc, od, .func (ksFn "__init__" qual (defArgs st) (defBody st) (defScope st) .none .none doc pm an (.ref cda) ct cc), osl⟩) (c1 : codeIn K (.ref cda) qual = true)
    (lc : K.lookup cda = some ⟨ccl, cdd, .fields vs, ccs⟩) (hvs : vs[2]? = some (.str file tf)) (hfile : ((P.main.file : Str) == file) = true) (lcc : K.lookup cc = some ⟨cl, cld, .cell (some (.ref C)), csl⟩)
    (tC : typeIn K (.ref fI) = some (.type "function")) (kC : keepIn K (.ref C) = true) (exC : subIn K (.ref C) (.type "BaseException") = some true) (tyC : typeIn K (.ref C) = some (.type "type")) : ClsAt P K x st fld C fI :=
  ⟨ns, ⟨⟨_, _, _, _, _, _, _, _, _, _, _, _, _, _, _, xL, rfl, by rw [PySem.ESX.drop_own]; exact al⟩, sa, noF, veB, slf, op, tp, sh, ⟨_, _, _, _, _, _, _, _, _, _, _, _, _, _, _, _, _, _, _, l1, c1, lc, hvs, hfile, lcc⟩⟩, iC, tC, kC, exC, tyC⟩
theorem ClsAt.cls {P : Program} {K : Frag} {x : Str} {st : Stmt} {fld : Str} {C fI : Addr} {h : Heap} {mg : Str → Option Value} (D : ClsAt P K x st fld C fI) (X : K.In h) (G : h.Ns mainGlobals mg) : OwnCls K mg x C fI := ⟨mg_of X G D.ns, D.iC, D.tC, D.kC, D.exC, D.tyC⟩
end One
end P_H10

section P_H12
set_option linter.all false
set_option maxRecDepth 100000
set_option maxHeartbeats 8000000
namespace One
open PySem PySem.W PySem.Calls PyProof.Rows PySem.HandSPX L2
def clsL (C0 C1 C2 C3 C4 C5 C6 C7 : Addr) : Nat → Addr := fun i => [C0, C1, C2, C3, C4, C5, C6, C7].getD i C0
theorem err0 {K : Frag} {RE C0 C1 C2 C3 C4 C5 C6 C7 : Addr} (hg : findIn K (.ref C0) "__getattribute__" = some (some (.builtin "BaseException.__getattribute__"))) (hk : findIn K (.ref C0) "__getattr__" = some none) (hs : subIn K (.ref C0) (.type "BaseException") = some true)
    (hd : hasDictIn K C0 = true) (ha : findIn K (.ref C0) "__class__" = some (some (.builtin "object.__class__"))) (hn : specialIn K (.builtin "object.__class__") "__get__" = some (some (.builtin "getset_descriptor.__get__"))) (ht : takesIn K (.builtin "object.__class__") = some true)
    (hm : mroIn K C0 (.type "object") = some true) (no : findIn K (.ref C0) "place" = some none)
    (q0 : kitOne K (.ref C0) (.ref C0) = some true)    (q1 : kitOne K (.ref C0) (.ref C1) = some false)    (q2 : kitOne K (.ref C0) (.ref C2) = some false)    (q3 : kitOne K (.ref C0) (.ref C3) = some false)    (q4 : kitOne K (.ref C0) (.ref C4) = some false)    (q5 : kitOne K (.ref C0) (.ref C5) = some false)    (q6 : kitOne K (.ref C0) (.ref C6) = some false)    (q7 : kitOne K (.ref C0) (.ref C7) = some false)
    (ve : kitOne K (.ref C0) (.type "ValueError") = some true) (u1 : subIn K (.ref RE) (.type "BaseException") = some true) (u2 : hasDictIn K RE = true) (u3 : typeIn K (.ref RE) = some (.type "type")) (u4 : subIn K (.ref C0) (.ref RE) = some true) : ErrC K (clsL C0 C1 C2 C3 C4 C5 C6 C7) RE 0 :=
  ⟨by decide, ⟨hg, hk, hs, hd, ha, hn, ht, hm⟩, ⟨hg, hk, hs, hd⟩, no, fun j hj => match j, hj with
    | 0, _ => q0
    | 1, _ => q1
    | 2, _ => q2
    | 3, _ => q3
    | 4, _ => q4
    | 5, _ => q5
    | 6, _ => q6
    | 7, _ => q7, ve, exm_ref u1 u2 u3 u4⟩
end One
end P_H12

section P_H13
set_option linter.all false
set_option maxRecDepth 100000
set_option maxHeartbeats 8000000
namespace One
open PySem PySem.W PySem.Calls PyProof.Rows PySem.HandSPX L2
theorem tab_mkX {K : Frag} {x : Str} {f c Pt : Addr} {oc oc2 : Value} {od od2 : Option Addr} {fd : FuncData} {sl sl2 : Array (Option Value)} {vs : Array Value} (a : nsIn K mainGlobals x = some (some (.ref f))) (l : K.lookup f = some ⟨oc, od, .func fd, sl⟩) (hc : fd.code = .ref c)
    (lc : K.lookup c = some ⟨oc2, od2, .fields vs, sl2⟩) (hv : (vs[11]? : Option Value) = some (.ref Pt)) : tabIn K x = some (c, Pt) := by
  unfold tabIn
  rw [a]
  simp only [l, hc, lc, hv]
theorem walkGX {l : OpenLaw} {n k : Nat} {q : Program} {loose : List Str} {XP : (Str → Option Value) → Heap → Prop} {YP : World → Heap → Prop} {d : DefRec} {K : Params → Frag} {CX : World → CXT} {x : Str} (hn : l.most = some n) (small : n ≤ sizeLine) (nodef : d.params.defaults = []) (hr : Room k callerA)
    (inY : ∀ (w : World) (h : Heap), YP w h → (K w.params).In h)
    (F : ∀ (w : World) (mg : Str → Option Value) (fa : Addr) (h : Heap), YP w h → (K w.params).In h → h.Ns mainGlobals mg → mg d.name = some (.ref fa) →
      (∀ {x : Str} {dL : DefRec}, (recsOf q).find? (fun e => e.name == x) = some dL → ∀ {c P : Addr}, tabIn (K w.params) x = some (c, P) → CodeHd h c P ∧ h.get? P = some { cls := .none, data := .fields #[] }) → LawG l w (K w.params) (CX w) k n x mg fa h)
    (none_out : ∀ (w : World) (H : Hp) (s : Shared) (e : Value) (s' : Shared), CX w [] H s (fun _ _ _ => False) e s' → False) : WalkO q loose XP YP l.row.toRowW d [] (fun f vs => PySem.call f vs) := by
  refine Att.attach_callB hn nodef fun w s0 s1 mg mb fa o pm cd doc a vs ns G Y ho hd hcd hmg hobj hints hlen hbits hg => ?_
  have X := inY w _ Y
  obtain ⟨fd, cs, sp, hT, nT, C, hb, hsp, hF⟩ := F w mg fa _ Y X G.T.g hmg (@fun _ _ hrec _ _ ht => tab_of G.T X hrec ht)
  exact law_goesT X G.T.g G.T.b G.T.builtins G.T.nolimit hg hT nT C G.T.bmain hobj hints (Nat.le_trans hlen small) hr hF hb (fun H hH hS => hsp H a ns hlen hbits hH hS) fun H e s' => none_out w H s1 e s'
end One
end P_H13

section P_H11
set_option linter.all false
set_option maxRecDepth 100000
set_option maxHeartbeats 16000000
namespace One
open PySem PySem.W PySem.Calls PyProof.Rows PySem.HandSPX L2
theorem all_mk {l : OpenLaw} {w : World} {K : Frag} {h : Heap} {mg : Str → Option Value} {fa RE C0 C1 C2 C3 C4 C5 C6 C7 i0 : Addr} {f_law c_law : Addr} {t0 t1 : Tok} {f_is_number f_is_below f_reached f_need_yard f_is_yard f_yard_fault f_can_be_many_lines f_is_line f_is_whole f_crossings_beside f_yard_of f_are_loose_lines f_is_loose_line f_law_begun f_law_draw f_law_grown f_law_called f_law_yard f_law_is_whole f_law_refused f_law_loose f_law_is_pair f_law_due f_law_bent f_law_right f_law_ring : Addr} {e_is_number e_is_below e_reached e_need_yard e_is_yard e_yard_fault e_can_be_many_lines e_is_line e_is_whole e_crossings_beside e_yard_of e_are_loose_lines e_is_loose_line e_law_begun e_law_draw e_law_grown e_law_called e_law_yard e_law_is_whole e_law_refused e_law_loose e_law_is_pair e_law_due e_law_bent e_law_ring : FuncData} {oc kV doc pm ct : Value} {od an : Option Addr} {sl : Array (Option Value)}
    {co_law_right P_law_right : Addr} {oc_law_right kV_law_right doc_law_right pm_law_right ct_law_right : Value} {od_law_right an_law_right : Option Addr} {sl_law_right : Array (Option Value)}
    (X : K.In h) (G : h.Ns mainGlobals mg) (hfa : mg "law" = some (.ref fa))
    (tabs_law_right : ∀ {c P : Addr}, tabIn K "_law_right" = some (c, P) → CodeHd h c P ∧ h.get? P = some { cls := .none, data := .fields #[] })
    (z_len : nsIn K mainGlobals "len" = some none)
    (z_range : nsIn K mainGlobals "range" = some none)
    (z_tuple : nsIn K mainGlobals "tuple" = some none)
    (z_list : nsIn K mainGlobals "list" = some none)
    (z_sorted : nsIn K mainGlobals "sorted" = some none)
    (z_enumerate : nsIn K mainGlobals "enumerate" = some none)
    (z_isinstance : nsIn K mainGlobals "isinstance" = some none)
    (z_int : nsIn K mainGlobals "int" = some none)
    (z_bool : nsIn K mainGlobals "bool" = some none)
    (z_repr : nsIn K mainGlobals "repr" = some none)
    (z_all : nsIn K mainGlobals "all" = some none)
    (z_super : nsIn K mainGlobals "super" = some none)
    (z_ValueError : nsIn K mainGlobals "ValueError" = some none)
    (z_str : nsIn K mainGlobals "str" = some none)
    (z_min : nsIn K mainGlobals "min" = some none)
    (z_max : nsIn K mainGlobals "max" = some none)
    (k_MOST_CROSSINGS : nsIn K mainGlobals "MOST_CROSSINGS" = some (some (.int 40 t0)))
    (k_PLACES : nsIn K mainGlobals "PLACES" = some (some (.int 4 t1)))
    (d_is_number : DefAt K "is_number" (top 11) f_is_number e_is_number)
    (d_is_below : DefAt K "is_below" (top 12) f_is_below e_is_below)
    (d_reached : DefAt K "reached" (top 14) f_reached e_reached)
    (d_need_yard : DefAt K "need_yard" (top 18) f_need_yard e_need_yard)
    (d_is_yard : DefAt K "is_yard" (top 19) f_is_yard e_is_yard)
    (d_yard_fault : DefAt K "yard_fault" (top 20) f_yard_fault e_yard_fault)
    (d_can_be_many_lines : DefAt K "can_be_many_lines" (top 21) f_can_be_many_lines e_can_be_many_lines)
    (d_is_line : DefAt K "is_line" (top 22) f_is_line e_is_line)
    (d_is_whole : DefAt K "is_whole" (top 23) f_is_whole e_is_whole)
    (d_crossings_beside : DefAt K "crossings_beside" (top 24) f_crossings_beside e_crossings_beside)
    (d_yard_of : DefAt K "yard_of" (top 25) f_yard_of e_yard_of)
    (d_are_loose_lines : DefAt K "are_loose_lines" (top 26) f_are_loose_lines e_are_loose_lines)
    (d_is_loose_line : DefAt K "is_loose_line" (top 27) f_is_loose_line e_is_loose_line)
    (d_law_begun : DefAt K "_law_begun" (top 29) f_law_begun e_law_begun)
    (d_law_draw : DefAt K "_law_draw" (top 30) f_law_draw e_law_draw)
    (d_law_grown : DefAt K "_law_grown" (top 31) f_law_grown e_law_grown)
    (d_law_called : DefAt K "_law_called" (top 32) f_law_called e_law_called)
    (d_law_yard : DefAt K "_law_yard" (top 33) f_law_yard e_law_yard)
    (d_law_is_whole : DefAt K "_law_is_whole" (top 34) f_law_is_whole e_law_is_whole)
    (d_law_refused : DefAt K "_law_refused" (top 35) f_law_refused e_law_refused)
    (d_law_loose : DefAt K "_law_loose" (top 36) f_law_loose e_law_loose)
    (d_law_is_pair : DefAt K "_law_is_pair" (top 37) f_law_is_pair e_law_is_pair)
    (d_law_due : DefAt K "_law_due" (top 38) f_law_due e_law_due)
    (d_law_bent : DefAt K "_law_bent" (top 39) f_law_bent e_law_bent)
    (ns_law_right : nsIn K mainGlobals "_law_right" = some (some (.ref f_law_right))) (lk_law_right : K.lookup f_law_right = some ⟨oc_law_right, od_law_right, .func (fnOf "_law_right" "_law_right" (defArgs (top 40)) (defBody (top 40)) (defScope (top 40)) .none kV_law_right doc_law_right pm_law_right an_law_right (.ref co_law_right) ct_law_right), sl_law_right⟩) (cd_law_right : codeIn K (.ref co_law_right) "_law_right" = true) (kp_law_right : keepIn K (.ref f_law_right) = true)
    (d_law_ring : DefAt K "_law_ring" (top 41) f_law_ring e_law_ring)
    (nRE : nsIn K mainGlobals "RoundError" = some (some (.ref RE))) (k0 : ClsAt l.prog K "BadYard" (initOf (top 2)) "place" C0 i0) (n1 : nsIn K mainGlobals "BadText" = some (some (.ref C1))) (n2 : nsIn K mainGlobals "BadEnd" = some (some (.ref C2))) (n3 : nsIn K mainGlobals "BadSetting" = some (some (.ref C3))) (n4 : nsIn K mainGlobals "BadDraft" = some (some (.ref C4))) (n5 : nsIn K mainGlobals "OutOfPlace" = some (some (.ref C5))) (n6 : nsIn K mainGlobals "Barred" = some (some (.ref C6))) (n7 : nsIn K mainGlobals "TooMany" = some (some (.ref C7)))
    (r0 : ErrC K (clsL C0 C1 C2 C3 C4 C5 C6 C7) RE 0)
    (lawNs : nsIn K mainGlobals "law" = some (some (.ref f_law))) (lawLk : K.lookup f_law = some ⟨oc, od, .func (fnOf "law" "law" (defArgs sLaw) (defBody sLaw) (defScope sLaw) .none kV doc pm an (.ref c_law) ct), sl⟩) (lawCd : codeIn K (.ref c_law) "law" = true) (lawKp : keepIn K (.ref f_law) = true)
    (tab_law_right : tabIn K "_law_right" = some (co_law_right, P_law_right)) (ntab_law_right : K.lookup P_law_right = none) : LawG l w K CX0 11 63 "script" mg fa h := by
  have e := hfa.symm.trans (mg_of X G lawNs)
  cases e
  obtain ⟨hd_law_right, ht_law_right⟩ := tabs_law_right tab_law_right
  have memC : ∀ p ∈ [(co_law_right, P_law_right)], p ∈ [(co_law_right, P_law_right)] := fun p hp => hp
  refine ⟨fnOf "law" "law" (defArgs sLaw) (defBody sLaw) (defScope sLaw) .none kV doc pm an (.ref c_law) ct, [(co_law_right, P_law_right)], spLaw K P_law_right, (List.forall_mem_cons.mpr ⟨ht_law_right, (fun p hp => absurd hp List.not_mem_nil)⟩), (List.forall_mem_cons.mpr ⟨ntab_law_right, (fun p hp => absurd hp List.not_mem_nil)⟩), (List.forall_mem_cons.mpr ⟨hd_law_right, (fun p hp => absurd hp List.not_mem_nil)⟩), fun s u => .of_eq rfl, fun H a ns hl _ hT hS => ⟨a, ns, rfl, hS, hl, hT _ (memC (co_law_right, P_law_right) (by simp)), fun _ => rfl⟩, fun base inB nsB tB => ?_⟩
  have no : ∀ {x : Str}, nsIn K mainGlobals x = some none → mg x = none := fun z => mg_none_of X G z
  have T : TB mg := ⟨no z_len, no z_range, no z_tuple, no z_list, no z_sorted, no z_enumerate, no z_isinstance, no z_int, no z_bool, no z_repr, no z_all⟩
  have TCo : TC mg := ⟨⟨_, mg_of X G k_MOST_CROSSINGS⟩, ⟨_, mg_of X G k_PLACES⟩⟩
  have noS : mg "super" = none := no z_super
  have tB_law_right := tB _ (memC (co_law_right, P_law_right) (by simp))
  have c_is_number := d_is_number.cal (ps := ["thing"]) X G fun _ _ _ _ _ _ us hl => match us, hl with | [_], _ => rfl
  have c_is_below := d_is_below.cal (ps := ["thing", "many"]) X G fun _ _ _ _ _ _ us hl => match us, hl with | [_, _], _ => rfl
  have c_reached := d_reached.cal (ps := ["beside", "start"]) X G fun _ _ _ _ _ _ us hl => match us, hl with | [_, _], _ => rfl
  have c_need_yard := d_need_yard.cal (ps := ["thing"]) X G fun _ _ _ _ _ _ us hl => match us, hl with | [_], _ => rfl
  have c_is_yard := d_is_yard.cal (ps := ["thing"]) X G fun _ _ _ _ _ _ us hl => match us, hl with | [_], _ => rfl
  have c_yard_fault := d_yard_fault.cal (ps := ["thing"]) X G fun _ _ _ _ _ _ us hl => match us, hl with | [_], _ => rfl
  have c_can_be_many_lines := d_can_be_many_lines.cal (ps := ["many"]) X G fun _ _ _ _ _ _ us hl => match us, hl with | [_], _ => rfl
  have c_is_line := d_is_line.cal (ps := ["thing", "many_ends"]) X G fun _ _ _ _ _ _ us hl => match us, hl with | [_, _], _ => rfl
  have c_is_whole := d_is_whole.cal (ps := ["lines"]) X G fun _ _ _ _ _ _ us hl => match us, hl with | [_], _ => rfl
  have c_crossings_beside := d_crossings_beside.cal (ps := ["lines", "many"]) X G fun _ _ _ _ _ _ us hl => match us, hl with | [_, _], _ => rfl
  have c_yard_of := d_yard_of.cal (ps := ["pairs"]) X G fun _ _ _ _ _ _ us hl => match us, hl with | [_], _ => rfl
  have c_are_loose_lines := d_are_loose_lines.cal (ps := ["thing"]) X G fun _ _ _ _ _ _ us hl => match us, hl with | [_], _ => rfl
  have c_is_loose_line := d_is_loose_line.cal (ps := ["thing"]) X G fun _ _ _ _ _ _ us hl => match us, hl with | [_], _ => rfl
  have c_law_begun := d_law_begun.cal (ps := ["script"]) X G fun _ _ _ _ _ _ us hl => match us, hl with | [_], _ => rfl
  have c_law_draw := d_law_draw.cal (ps := ["m", "many"]) X G fun _ _ _ _ _ _ us hl => match us, hl with | [_, _], _ => rfl
  have c_law_grown := d_law_grown.cal (ps := ["m", "many"]) X G fun _ _ _ _ _ _ us hl => match us, hl with | [_, _], _ => rfl
  have c_law_called := d_law_called.cal (ps := ["m", "many"]) X G fun _ _ _ _ _ _ us hl => match us, hl with | [_, _], _ => rfl
  have c_law_yard := d_law_yard.cal (ps := ["m", "most"]) X G fun _ _ _ _ _ _ us hl => match us, hl with | [_, _], _ => rfl
  have c_law_is_whole := d_law_is_whole.cal (ps := ["lines"]) X G fun _ _ _ _ _ _ us hl => match us, hl with | [_], _ => rfl
  have c_law_refused := d_law_refused.cal (ps := ["deed"]) X G fun _ _ _ _ _ _ us hl => match us, hl with | [_], _ => rfl
  have c_law_loose := d_law_loose.cal (ps := ["m", "yard"]) X G fun _ _ _ _ _ _ us hl => match us, hl with | [_, _], _ => rfl
  have c_law_is_pair := d_law_is_pair.cal (ps := ["thing"]) X G fun _ _ _ _ _ _ us hl => match us, hl with | [_], _ => rfl
  have c_law_due := d_law_due.cal (ps := ["things"]) X G fun _ _ _ _ _ _ us hl => match us, hl with | [_], _ => rfl
  have c_law_bent := d_law_bent.cal (ps := ["m", "pairs"]) X G fun _ _ _ _ _ _ us hl => match us, hl with | [_, _], _ => rfl
  have fn_law_right : FunC K "_law_right" "_law_right" (top 40) f_law_right _ co_law_right := ⟨_, _, _, _, _, _, _, _, rfl, lk_law_right, cd_law_right⟩
  have d_law_right := def_at (st := top 40) ns_law_right lk_law_right cd_law_right kp_law_right
  have c_law_right := d_law_right.cal (ps := ["things"]) X G fun _ _ _ _ _ _ us hl => match us, hl with | [_], _ => rfl
  have c_law_ring := d_law_ring.cal (ps := ["many"]) X G fun _ _ _ _ _ _ us hl => match us, hl with | [_], _ => rfl
  have Nm : ErrN mg (clsL C0 C1 C2 C3 C4 C5 C6 C7) RE := ⟨mg_of X G nRE, mg_of X G k0.ns, mg_of X G n1, mg_of X G n2, mg_of X G n3, mg_of X G n4, mg_of X G n5, mg_of X G n6, mg_of X G n7, no z_ValueError⟩
  have G_is_number := ok_isnum (P := l.prog) (w := w) (base := base) d_is_number.fn T
  have G_is_below := ok_isbelow d_is_below.fn c_is_number G_is_number
  have G_can := ok_canbe (P := l.prog) (w := w) (base := base) d_can_be_many_lines.fn T TCo
  have G_is_line := ok_isline d_is_line.fn T c_is_below G_is_below
  have G_reached := ok_reached (P := l.prog) (w := w) (base := base) d_reached.fn T
  have G_beside := ok_besideX (P := l.prog) (w := w) (base := base) d_crossings_beside.fn T TCo
  have G_whole := ok_iswhole d_is_whole.fn T c_reached G_reached c_crossings_beside G_beside
  have G_fault := ok_fault d_yard_fault.fn T c_can_be_many_lines G_can c_is_line G_is_line c_is_whole G_whole
  have G_isyard := ok_isyard d_is_yard.fn c_yard_fault G_fault
  have G_need := ok_need d_need_yard.fn k0.own (k0.cls X G) noS c_yard_fault G_fault
  have G_begun := ok_begun (P := l.prog) (w := w) (base := base) d_law_begun.fn T
  have G_draw := ok_draw (P := l.prog) (w := w) (base := base) d_law_draw.fn T
  have G_grown := ok_grown d_law_grown.fn T c_law_draw G_draw
  have G_called := ok_called d_law_called.fn T c_law_draw G_draw
  have G_yard := ok_yard d_law_yard.fn T c_law_draw G_draw c_law_grown G_grown c_law_called G_called
  have G_lw := ok_lwhole (P := l.prog) (w := w) (base := base) d_law_is_whole.fn T
  have G_ll := ok_ll d_is_loose_line.fn T c_is_number G_is_number
  have G_al := ok_al d_are_loose_lines.fn T c_is_loose_line G_ll c_can_be_many_lines G_can
  have G_yo := ok_yo d_yard_of.fn T (no z_min) (no z_max) k0.own (k0.cls X G) noS c_are_loose_lines G_al c_is_below G_is_below c_need_yard G_need
  have G_ip := ok_ip (P := l.prog) (w := w) (base := base) d_law_is_pair.fn T
  have G_du := ok_du d_law_due.fn T c_law_is_pair G_ip c_law_is_whole G_lw
  have G_lo := ok_lo d_law_loose.fn T c_law_draw G_draw
  have G_be := ok_be d_law_bent.fn T (no z_str) c_law_draw G_draw
  have G_rg := ok_ring (P := l.prog) (w := w) (base := base) d_law_ring.fn T
  have G_ri := ok_ri (CL := clsL C0 C1 C2 C3 C4 C5 C6 C7) (TT := [(P_law_right, qualR)]) fn_law_right T tB_law_right (List.mem_cons_self ..) (fun q hq _ => by rw [List.mem_singleton.mp hq]) Nm r0 d_law_refused.fn c_law_refused c_law_due G_du c_yard_of G_yo
  exact ok_law (CL := clsL C0 C1 C2 C3 C4 C5 C6 C7) rfl (fun_mk lawLk lawCd lawKp) T c_law_begun G_begun c_law_yard G_yard c_law_loose G_lo c_law_bent G_be c_law_is_pair G_ip c_law_right G_ri c_is_yard G_isyard c_yard_of G_yo c_law_ring G_rg
end One
end P_H11

open PySem PySem.W PyProof.Rows in
set_option maxRecDepth 100000 in
set_option maxHeartbeats 0 in
theorem PySem.Challenge.cw_oneround_k03_yards_of_pairs_holds : PySem.Challenge.rw_oneround_k03_yards_of_pairs.Holds := by
  w_on; o_law; k_head; (case hw => w_witness2)
  k_fill
  refine One.walkGX (l := PySem.Challenge.rw_oneround_k03_yards_of_pairs) (n := 63) (k := 11) (CX := fun _ => L2.CX0) (x := "script") rfl (by decide) rfl ⟨rfl, by decide, by decide⟩ (fun w h Y => PySem.W.km_in_of Y) ?F (fun _ _ _ _ _ z => z)
  case F =>
    intro w mg fa h Y KX G hmg tabs
    refine' One.all_mk KX G hmg (tabs (x := "_law_right") (by rfl)) ?z_len ?z_range ?z_tuple ?z_list ?z_sorted ?z_enumerate ?z_isinstance ?z_int ?z_bool ?z_repr ?z_all ?z_super ?z_ValueError ?z_str ?z_min ?z_max ?k_MOST_CROSSINGS ?k_PLACES ?d_is_number ?d_is_below ?d_reached ?d_need_yard ?d_is_yard ?d_yard_fault ?d_can_be_many_lines ?d_is_line ?d_is_whole ?d_crossings_beside ?d_yard_of ?d_are_loose_lines ?d_is_loose_line ?d_law_begun ?d_law_draw ?d_law_grown ?d_law_called ?d_law_yard ?d_law_is_whole ?d_law_refused ?d_law_loose ?d_law_is_pair ?d_law_due ?d_law_bent ?ns_law_right ?lk_law_right ?cd_law_right ?kp_law_right ?d_law_ring ?nRE ?k0 ?n1 ?n2 ?n3 ?n4 ?n5 ?n6 ?n7 ?r0 ?lawNs ?lawLk ?lawCd ?lawKp ?tab_law_right ?ntab_law_right
    (case z_len => k_is)
    (case z_range => k_is)
    (case z_tuple => k_is)
    (case z_list => k_is)
    (case z_sorted => k_is)
    (case z_enumerate => k_is)
    (case z_isinstance => k_is)
    (case z_int => k_is)
    (case z_bool => k_is)
    (case z_repr => k_is)
    (case z_all => k_is)
    (case z_super => k_is)
    (case z_ValueError => k_is)
    (case z_str => k_is)
    (case z_min => k_is)
    (case z_max => k_is)
    (case k_MOST_CROSSINGS => k_is)
    (case k_PLACES => k_is)
    (case d_is_number => refine' One.def_at ?a ?l ?c ?k; (case a => k_is); (case l => k_is); (case c => k_is); (case k => k_is))
    (case d_is_below => refine' One.def_at ?a ?l ?c ?k; (case a => k_is); (case l => k_is); (case c => k_is); (case k => k_is))
    (case d_reached => refine' One.def_at ?a ?l ?c ?k; (case a => k_is); (case l => k_is); (case c => k_is); (case k => k_is))
    (case d_need_yard => refine' One.def_at ?a ?l ?c ?k; (case a => k_is); (case l => k_is); (case c => k_is); (case k => k_is))
    (case d_is_yard => refine' One.def_at ?a ?l ?c ?k; (case a => k_is); (case l => k_is); (case c => k_is); (case k => k_is))
    (case d_yard_fault => refine' One.def_at ?a ?l ?c ?k; (case a => k_is); (case l => k_is); (case c => k_is); (case k => k_is))
    (case d_can_be_many_lines => refine' One.def_at ?a ?l ?c ?k; (case a => k_is); (case l => k_is); (case c => k_is); (case k => k_is))
    (case d_is_line => refine' One.def_at ?a ?l ?c ?k; (case a => k_is); (case l => k_is); (case c => k_is); (case k => k_is))
    (case d_is_whole => refine' One.def_at ?a ?l ?c ?k; (case a => k_is); (case l => k_is); (case c => k_is); (case k => k_is))
    (case d_crossings_beside => refine' One.def_at ?a ?l ?c ?k; (case a => k_is); (case l => k_is); (case c => k_is); (case k => k_is))
    (case d_yard_of => refine' One.def_at ?a ?l ?c ?k; (case a => k_is); (case l => k_is); (case c => k_is); (case k => k_is))
    (case d_are_loose_lines => refine' One.def_at ?a ?l ?c ?k; (case a => k_is); (case l => k_is); (case c => k_is); (case k => k_is))
    (case d_is_loose_line => refine' One.def_at ?a ?l ?c ?k; (case a => k_is); (case l => k_is); (case c => k_is); (case k => k_is))
    (case d_law_begun => refine' One.def_at ?a ?l ?c ?k; (case a => k_is); (case l => k_is); (case c => k_is); (case k => k_is))
    (case d_law_draw => refine' One.def_at ?a ?l ?c ?k; (case a => k_is); (case l => k_is); (case c => k_is); (case k => k_is))
    (case d_law_grown => refine' One.def_at ?a ?l ?c ?k; (case a => k_is); (case l => k_is); (case c => k_is); (case k => k_is))
    (case d_law_called => refine' One.def_at ?a ?l ?c ?k; (case a => k_is); (case l => k_is); (case c => k_is); (case k => k_is))
    (case d_law_yard => refine' One.def_at ?a ?l ?c ?k; (case a => k_is); (case l => k_is); (case c => k_is); (case k => k_is))
    (case d_law_is_whole => refine' One.def_at ?a ?l ?c ?k; (case a => k_is); (case l => k_is); (case c => k_is); (case k => k_is))
    (case d_law_refused => refine' One.def_at ?a ?l ?c ?k; (case a => k_is); (case l => k_is); (case c => k_is); (case k => k_is))
    (case d_law_loose => refine' One.def_at ?a ?l ?c ?k; (case a => k_is); (case l => k_is); (case c => k_is); (case k => k_is))
    (case d_law_is_pair => refine' One.def_at ?a ?l ?c ?k; (case a => k_is); (case l => k_is); (case c => k_is); (case k => k_is))
    (case d_law_due => refine' One.def_at ?a ?l ?c ?k; (case a => k_is); (case l => k_is); (case c => k_is); (case k => k_is))
    (case d_law_bent => refine' One.def_at ?a ?l ?c ?k; (case a => k_is); (case l => k_is); (case c => k_is); (case k => k_is))
    (case ns_law_right => k_is)
    (case lk_law_right => k_is)
    (case cd_law_right => k_is)
    (case kp_law_right => k_is)
    (case d_law_ring => refine' One.def_at ?a ?l ?c ?k; (case a => k_is); (case l => k_is); (case c => k_is); (case k => k_is))
    (case nRE => k_is)
    (case k0 => refine' One.cls_at ?ns ?xL ?al ?sa ?noF ?veB ?slf ?op ?tp ?sh ?iC ?l1 ?c1 ?lc ?hvs ?hfile ?lcc ?tC ?kC ?exC ?tyC; (case ns => k_is); (case xL => k_is); (case al => refine' One.al_of ?xR ?fR; (case xR => k_is); (case fR => k_is)); (case sa => k_is); (case noF => k_is); (case veB => k_is); (case slf => k_is); (case op => k_is); (case tp => rfl); (case sh => exact One.shape0); (case iC => k_is); (case l1 => k_is); (case c1 => k_is); (case lc => k_is); (case hvs => first | rfl | k_is); (case hfile => first | rfl | decide +kernel | k_is); (case lcc => k_is); (case tC => k_is); (case kC => k_is); (case exC => k_is); (case tyC => k_is))
    (case n1 => k_is)
    (case n2 => k_is)
    (case n3 => k_is)
    (case n4 => k_is)
    (case n5 => k_is)
    (case n6 => k_is)
    (case n7 => k_is)
    (case r0 => refine' One.err0 ?hg ?hk ?hs ?hd ?ha ?hn ?ht ?hm ?no ?q0 ?q1 ?q2 ?q3 ?q4 ?q5 ?q6 ?q7 ?ve ?u1 ?u2 ?u3 ?u4; (case hg => k_is); (case hk => k_is); (case hs => k_is); (case hd => k_is); (case ha => k_is); (case hn => k_is); (case ht => k_is); (case hm => k_is); (case no => k_is); (case q0 => first | k_is | kit_is); (case q1 => first | k_is | kit_is); (case q2 => first | k_is | kit_is); (case q3 => first | k_is | kit_is); (case q4 => first | k_is | kit_is); (case q5 => first | k_is | kit_is); (case q6 => first | k_is | kit_is); (case q7 => first | k_is | kit_is); (case ve => first | k_is | kit_is); (case u1 => k_is); (case u2 => k_is); (case u3 => k_is); (case u4 => k_is))
    (case lawNs => k_is)
    (case lawLk => k_is)
    (case lawCd => k_is)
    (case lawKp => k_is)
    (case tab_law_right => refine' One.tab_mkX ?ta ?tl ?tc ?tf ?tv; (case ta => k_is); (case tl => k_is); (case tc => rfl); (case tf => k_is); (case tv => rfl))
    (case ntab_law_right => first | rfl | kernel_rfl | decide +kernel)
