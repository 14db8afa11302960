import PyProof.Rows.All
import Wide.All
import OpenK.AllK
import Wide.FinOn
import HandS.ForMost
import HandS.Wide
import HandS.Codes
import HandS.Flow
import HandS.SortRule
import HandS.IsInst
import HandS.Conv
import HandS.TupLe
import KE.GoesMore
import HandS.Lambda
import HandS.ExcInit
import HandS.ExcIs
import HandS.ExcField
import HandS.ExcValue
import HandS.RaiseMore
import KE.KExcSuper
import HandS.WordsExc
import PyProof.ReprRoads
import PySem.Challenge.RW_oneround_k01_yards_looked_at
import HandS.Walk
import HandS.Ends
import HandS.FStrTup
import KE.KExcIs
import HandS.SetFor
import KE.LtData
import KE.DataCmp
import KE.SortData
import HandS.TupAny
import HandS.Style
import HandS.EndTab
import HandS.ExcSuper
set_option Elab.async false

section P_D0
set_option maxRecDepth 100000
set_option maxHeartbeats 4000000
namespace One
open PySem L2
def top (i : Nat) : Stmt := PySem.Challenge.pw_oneround_k01_yards_looked_at.main.body.getD i (.Pass ⟨0, 0, 0, 0⟩)
abbrev sBegun : Stmt := top 26
abbrev sDraw : Stmt := top 27
theorem scBegun : FnScope ["script"] ["script"] (defScope sBegun) := ⟨rfl, rfl, rfl, by decide +kernel, rfl, by decide +kernel, by decide +kernel⟩
end One
end P_D0

section P_D1
set_option maxRecDepth 100000
set_option maxHeartbeats 4000000
/-! The draws: what the top's first two helpers of a law promise. -/
namespace One
open PySem PySem.Spec PyProof.Rows L2
/-! ### a list that is only read, with a list behind it -/
theorem add_read (l : Addr) (items : Array Value) (n : Nat) (sl : Array (Option Value)) (b : Addr) (items2 : Array Value) (n2 : Nat) (hc0 : items.size + items2.size ≤ sizeLine) :
    Meets (Builtin.«list.__add__» ⟨[.ref l, .ref b], []⟩) (fun _ R s => s.heap.get? l = some ⟨.type "list", none, .seq items n, sl⟩ ∧ s.heap.get? b = some ⟨.type "list", none, .seq items2 n2, #[]⟩ ∧
      R (.ok (.ret (Value.ref s.heap.objs.size))) { s with heap := s.heap.push { cls := Value.type "list", data := Data.seq (items ++ items2) }, toks := s.toks }) :=
  .of_wp fun prog w A R s h => by
    obtain ⟨hp, g, d, tk, os⟩ := s
    obtain ⟨hl, hb, h⟩ := h
    have f1 := PySem.AutoSeq1.idx_int
    have f3 := PySem.AutoSeq1.sub_list_list
    wp_walk using PySem.AutoSeq1.wpAny_loadPart' hl, PySem.AutoSeq1.wpAny_loadPart' hb
    exact ⟨_, rfl, h⟩
section
variable {X : Cx}
def rCatS (K : PySem.W.Frag) : R2 := fun x y H Q => ∃ l b xs zs, x = .ref l ∧ y = .ref b ∧ SqL K H l xs ∧ H b = some (.lst zs) ∧ xs.length + zs.length ≤ sizeLine ∧ ∀ p, H p = none → Q (.ref p) (upd H p (.lst (xs ++ zs)))
theorem op_catS : OpR X (binaryOp .Add) (rCatS X.K) := by
  intro pins s σ H x y v u Q I rx ry h
  obtain ⟨l, b, xs, zs, rfl, rfl, hS, hB, hz, q⟩ := h
  cases rx
  cases ry
  obtain ⟨its, r, ⟨⟨oc, od, oda, osl⟩, n, e, ec, ed, edd⟩, hl⟩ := I.list hS
  dsimp only at ec ed edd
  subst ec ed edd
  obtain ⟨z2, its2, n2, r2, hl2, e2⟩ := I.lstM hB
  have ha : s.TypeIs (.ref l) "list" := ⟨_, e, rfl⟩
  have hb : s.TypeIs (.ref b) "list" := ⟨_, e2, rfl⟩
  have hsz : its.toArray.size + its2.toArray.size ≤ sizeLine := by
    rw [List.size_toArray, List.size_toArray, ← r.length, ← r2.length]
    exact hz
  refine PySem.concat_meets ha hb PySem.noFill_list_add PySem.seq_list_add F.slot_list_add F.entry_list_add (F.args_list_add_2 _ _) (add_read l its.toArray n osl b its2.toArray n2 hsz) ⟨e, e2, ?_⟩
  have ea : its.toArray ++ its2.toArray = (its ++ its2).toArray := by simp
  rw [ea]
  exact ⟨.ref _, _, I.lnew (t' := s.toks) (r.append r2) (by rw [List.length_append]; exact hz), rfl, q _ I.fresh⟩
end
end One
end P_D1

section P_D2
set_option maxRecDepth 100000
set_option maxHeartbeats 4000000
namespace One
open PySem PySem.Spec PyProof.Rows L2
/-! ### the dict of the draws -/
abbrev kC : Key := Sum.inr ("cells" : Str)
abbrev kA : Key := Sum.inr ("at" : Str)
abbrev kL : Key := Sum.inr ("left" : Str)
abbrev kM : Key := Sum.inr ("mixed" : Str)
def mkv (c : Addr) (a l x : Int) : List (Key × V) := [(kC, .ref c), (kA, .int a), (kL, .int l), (kM, .int x)]
theorem nCA : ¬ (kC = kA) := by decide +kernel
theorem nCL : ¬ (kC = kL) := by decide +kernel
theorem nCM : ¬ (kC = kM) := by decide +kernel
theorem nAL : ¬ (kA = kL) := by decide +kernel
theorem nAM : ¬ (kA = kM) := by decide +kernel
theorem nLM : ¬ (kL = kM) := by decide +kernel
section
variable (c : Addr) (a l x : Int)
theorem mkv_C : valV (mkv c a l x) kC = some (.ref c) := valV_pos rfl
theorem mkv_A : valV (mkv c a l x) kA = some (.int a) := (valV_neg nCA).trans (valV_pos rfl)
theorem mkv_L : valV (mkv c a l x) kL = some (.int l) := (valV_neg nCL).trans ((valV_neg nAL).trans (valV_pos rfl))
theorem mkv_M : valV (mkv c a l x) kM = some (.int x) := (valV_neg nCM).trans ((valV_neg nAM).trans ((valV_neg nLM).trans (valV_pos rfl)))
theorem put_at (p : List (Key × V)) (k : Key) (v : V) (h : (p.any fun kv => decide (kv.1 = k)) = true) : putK p k v = p.map (fun kv => if kv.1 = k then (kv.1, v) else kv) := by
  unfold putK
  rw [if_pos h]
theorem mkv_putA (b : Int) : putK (mkv c a l x) kA (.int b) = mkv c b l x := by
  rw [put_at _ _ _ (by rw [valV_any, mkv_A]; rfl)]
  simp only [mkv, List.map_cons, List.map_nil, if_neg nCA, if_neg (Ne.symm nAL), if_neg (Ne.symm nAM), if_true]
theorem mkv_putL (b : Int) : putK (mkv c a l x) kL (.int b) = mkv c a b x := by
  rw [put_at _ _ _ (by rw [valV_any, mkv_L]; rfl)]
  simp only [mkv, List.map_cons, List.map_nil, if_neg nCL, if_neg nAL, if_neg (Ne.symm nLM), if_true]
theorem mkv_putM (b : Int) : putK (mkv c a l x) kM (.int b) = mkv c a l b := by
  rw [put_at _ _ _ (by rw [valV_any, mkv_M]; rfl)]
  simp only [mkv, List.map_cons, List.map_nil, if_neg nCM, if_neg nAM, if_neg nLM, if_true]
theorem mkv_make : mergeK [] [(kC, V.ref c), (kA, .int a), (kL, .int l), (kM, .int x)] = mkv c a l x := by
  have e1 : putK ([] : List (Key × V)) kC (.ref c) = [(kC, .ref c)] := putK_new _ valV_nil
  have e2 : putK [(kC, V.ref c)] kA (.int a) = [(kC, .ref c), (kA, .int a)] := putK_new _ (by rw [valV_neg nCA]; rfl)
  have e3 : putK [(kC, V.ref c), (kA, V.int a)] kL (.int l) = [(kC, .ref c), (kA, .int a), (kL, .int l)] := putK_new _ (by rw [valV_neg nCL, valV_neg nAL]; rfl)
  have e4 : putK [(kC, V.ref c), (kA, V.int a), (kL, V.int l)] kM (.int x) = [(kC, .ref c), (kA, .int a), (kL, .int l), (kM, .int x)] := putK_new _ (by rw [valV_neg nCM, valV_neg nAM, valV_neg nLM]; rfl)
  simp only [mergeK, List.foldl_cons, List.foldl_nil]
  rw [e1, e2, e3, e4]
  rfl
end
/-- the draws' dict at p, its cells at c, with at most n mixed draws so far -/
structure MS (H : Hp) (p c : Addr) (n : Nat) : Prop where
  ex : ∃ (cells : List Int) (a l x : Int), H p = some (.dK (mkv c a l x)) ∧ H c = some (.lst (cells.map V.int)) ∧ 0 < cells.length ∧ cells.length ≤ 64 ∧ 0 ≤ a ∧ 0 ≤ l ∧ 0 ≤ x ∧ x ≤ (n : Int)
  nn : n ≤ 1000000
/-- all but p stands as it stood -/
def But (p : Addr) (H H' : Hp) : Prop := ∀ b, b ≠ p → H' b = H b
/-- all that stood but p stands as it stood -/
def Ext (p : Addr) (H H' : Hp) : Prop := ∀ b o, b ≠ p → H b = some o → H' b = some o
theorem But.ext {p : Addr} {H H' : Hp} (h : But p H H') : Ext p H H' := fun b o hb e => (h b hb).trans e
theorem But.trans {p : Addr} {H H1 H2 : Hp} (h : But p H H1) (k : But p H1 H2) : But p H H2 := fun b hb => (k b hb).trans (h b hb)
theorem Ext.refl (p : Addr) (H : Hp) : Ext p H H := fun _ _ _ e => e
theorem Ext.trans {p : Addr} {H H1 H2 : Hp} (h : Ext p H H1) (k : Ext p H1 H2) : Ext p H H2 := fun b o hb e => k b o hb (h b o hb e)
theorem Ext.same {p : Addr} {H H1 : Hp} (h : Same H H1) : Ext p H H1 := fun b o _ e => h b o e
theorem Ext.new {p q : Addr} {H : Hp} {o : HO} (h : H q = none) : Ext p H (upd H q o) := fun b u _ e => by
  rw [upd_ne (ne_of_none e h)]
  exact e
theorem MS.lt {H : Hp} {p c : Addr} {n k : Nat} (M : MS H p c n) (h : n ≤ k) (hk : k ≤ 1000000) : MS H p c k := by
  obtain ⟨cells, a, l, x, h1, h2, h3, h4, h5, h6, h7, h8⟩ := M.ex
  exact ⟨⟨cells, a, l, x, h1, h2, h3, h4, h5, h6, h7, by omega⟩, hk⟩
theorem MS.ne {H : Hp} {p c : Addr} {n : Nat} (M : MS H p c n) : p ≠ c := by
  obtain ⟨cells, a, l, x, h1, h2, _⟩ := M.ex
  exact ne_of h1 h2 (by intro z; cases z)
theorem MS.there {H : Hp} {p c : Addr} {n : Nat} (M : MS H p c n) : ∃ o, H p = some o := by
  obtain ⟨cells, a, l, x, h1, _⟩ := M.ex
  exact ⟨_, h1⟩
/-- kept where what stood at both places stands -/
theorem MS.keep {H H' : Hp} {p c : Addr} {n : Nat} (M : MS H p c n) (k : Same H H') : MS H' p c n := by
  obtain ⟨cells, a, l, x, h1, h2, r⟩ := M.ex
  exact ⟨⟨cells, a, l, x, k _ _ h1, k _ _ h2, r⟩, M.nn⟩
theorem MS.new {H : Hp} {p c q : Addr} {n : Nat} {o : HO} (M : MS H p c n) (h : H q = none) : MS (upd H q o) p c n :=
  M.keep fun b u e => by
    rw [upd_ne (ne_of_none e h)]
    exact e
end One
end P_D2

section P_D3
set_option linter.all false
set_option maxRecDepth 100000
set_option maxHeartbeats 4000000
namespace One
open PySem PySem.Spec PyProof.Rows L2
/-- the names that the program's top leaves to the built-ins -/
structure TB (mg : Str → Option Value) : Prop where
  len : mg "len" = none
  range : mg "range" = none
  tuple : mg "tuple" = none
  list : mg "list" = none
  sorted : mg "sorted" = none
  enumerate : mg "enumerate" = none
  isinstance : mg "isinstance" = none
  int : mg "int" = none
  bool : mg "bool" = none
  repr : mg "repr" = none
  all : mg "all" = none
def spBegun (K : PySem.W.Frag) : Sp := fun vs H Q _ => ∃ (a : Addr) (ns : List Int), vs = [.ref a] ∧ SqL K H a (ns.map V.int) ∧ ns.length ≤ 63 ∧
  ∀ (H' : Hp) (p c : Addr), Same H H' → H p = none → MS H' p c 0 → Q (.ref p) H'
def spDraw : Sp := fun vs H Q _ => ∃ (p c : Addr) (n : Nat) (many : Int), vs = [.ref p, .int many] ∧ MS H p c n ∧ n < 1000000 ∧ 0 < many ∧ many < 1073741824 ∧
  ∀ (H' : Hp) (f : Int), MS H' p c (n + 1) → But p H H' → 0 ≤ f → f < many → Q (.int f) H'
section
variable {P : Program} {w : World} {K : PySem.W.Frag} {mg : Str → Option Value} {base : Heap}
theorem ok_begun {f : Addr} {fd : FuncData} (F : Fun K "_law_begun" "_law_begun" sBegun f fd) (T : TB mg) : FnOk P w K mg base CX0 1 f fd ["script"] (spBegun K) := by
  refine F.ok scBegun (fun vs H Q E h => ?_) (fun cdv A outer s H vs Q E hr h => ?_)
  · obtain ⟨a, ns, rfl, _⟩ := h
    rfl
  · obtain ⟨a, ns, rfl, hS, hl, k⟩ := h
    refine ⟨_, pss_one (ps_ret (pe_disp (pps_cons pe_str (pe_op op_catS (pv 0) (pe_lst (pa_cons (pe_callB call_len_seq (by rfl) T.len PySem.boot_len (pa_cons (pv 0) pa_nil)) pa_nil)))
      (pps_cons pe_str pe_int (pps_cons pe_str pe_int (pps_cons pe_str pe_int pps_nil)))) (by rfl) (by rfl) (fun z => by cases z) (by decide))), ?_⟩
    intro p hp
    have s0 : Same H (upd H p (.dK [])) := fun b o e => by
      rw [upd_ne (ne_of_none e hp)]
      exact e
    refine ⟨_, rfl, _, rfl, a, _, rfl, .inl (s0.seq hS), ?_⟩
    refine ⟨by show 1 ≤ sizeLine; decide, fun l hl1 => ?_⟩
    have hpl : p ≠ l := fun z => by
      rw [← z, upd_same] at hl1
      cases hl1
    have hl0 : H l = none := s0.free hl1
    have s1 : Same (upd H p (.dK [])) (upd (upd H p (.dK [])) l (.lst [V.int ((ns.map V.int).length : Nat)])) := fun b o e => by
      rw [upd_ne (ne_of_none e hl1)]
      exact e
    refine ⟨a, l, _, _, rfl, rfl, s1.seq (s0.seq hS), upd_same, by rw [List.length_map]; show ns.length + 1 ≤ sizeLine; exact Nat.le_of_lt (small1000 (by omega)), fun c hc => ?_⟩
    have s2 : Same (upd (upd H p (.dK [])) l (.lst [V.int ((ns.map V.int).length : Nat)])) (upd (upd (upd H p (.dK [])) l (.lst [V.int ((ns.map V.int).length : Nat)])) c (.lst (ns.map V.int ++ [V.int ((ns.map V.int).length : Nat)]))) := fun b o e => by
      rw [upd_ne (ne_of_none e hc)]
      exact e
    have hp2 := s2 _ _ (s1 _ _ upd_same)
    have hpc : p ≠ c := ne_of_none (s1 _ _ upd_same) hc
    refine ⟨hp2, [(kC, .ref c), (kA, .int 0), (kL, .int 0), (kM, .int 0)], rfl, by show 4 ≤ 15; decide, ?_⟩
    refine k _ p c (fun b o e => ?_) hp ⟨⟨ns ++ [(ns.length : Int)], 0, 0, 0, ?_, ?_, ?_, ?_, Int.le_refl _, Int.le_refl _, Int.le_refl _, by decide⟩, by decide⟩
    · rw [upd_ne (ne_of_none e hp)]
      exact s2 _ _ (s1 _ _ (s0 _ _ e))
    · rw [upd_same, mkv_make]
    · rw [upd_ne (Ne.symm hpc), upd_same, List.map_append, List.length_map]
      rfl
    · rw [List.length_append]
      exact Nat.succ_pos _
    · rw [List.length_append]
      show ns.length + 1 ≤ 64
      omega
end
end One
end P_D3

section P_D4
set_option linter.all false
set_option maxRecDepth 100000
set_option maxHeartbeats 4000000
namespace One
open PySem PySem.Spec PyProof.Rows L2
theorem scDraw : FnScope ["m", "many", "cell", "k", "number", "found"] ["m", "many"] (defScope sDraw) := ⟨rfl, rfl, rfl, by decide +kernel, rfl, by decide +kernel, by decide +kernel⟩
theorem get_cell {cells : List Int} {i : Int} (h0 : 0 ≤ i) (h1 : i < (cells.length : Int)) : ∃ z, atI (cells.map V.int) i = some (V.int z) := by
  have hlt : i.toNat < cells.length := by omega
  refine ⟨cells[i.toNat], at_of (j := i.toNat) (by omega) ?_⟩
  rw [List.getElem?_map, List.getElem?_eq_getElem hlt]
  rfl
theorem gC {H : Hp} {p c : Addr} {a l x : Int} (h : H p = some (.dK (mkv c a l x))) : DGet H p (.str ("cells" : Str)) (some (.ref c)) := by
  have q := DGet.k (k := kC) h
  rw [mkv_C] at q
  exact q
theorem gA {H : Hp} {p c : Addr} {a l x : Int} (h : H p = some (.dK (mkv c a l x))) : DGet H p (.str ("at" : Str)) (some (.int a)) := by
  have q := DGet.k (k := kA) h
  rw [mkv_A] at q
  exact q
theorem gL {H : Hp} {p c : Addr} {a l x : Int} (h : H p = some (.dK (mkv c a l x))) : DGet H p (.str ("left" : Str)) (some (.int l)) := by
  have q := DGet.k (k := kL) h
  rw [mkv_L] at q
  exact q
theorem gM {H : Hp} {p c : Addr} {a l x : Int} (h : H p = some (.dK (mkv c a l x))) : DGet H p (.str ("mixed" : Str)) (some (.int x)) := by
  have q := DGet.k (k := kM) h
  rw [mkv_M] at q
  exact q
theorem len4 (c : Addr) (a l x : Int) : (mkv c a l x).length < sizeLine := by
  show 4 < sizeLine
  decide
theorem pA {H : Hp} {p c : Addr} {a l x b : Int} (h : H p = some (.dK (mkv c a l x))) : DPut H p (.str ("at" : Str)) (.int b) (upd H p (.dK (mkv c b l x))) := by
  have q := DPut.k (k := kA) (v := .int b) h (len4 _ _ _ _)
  rw [mkv_putA] at q
  exact q
theorem pL {H : Hp} {p c : Addr} {a l x b : Int} (h : H p = some (.dK (mkv c a l x))) : DPut H p (.str ("left" : Str)) (.int b) (upd H p (.dK (mkv c a b x))) := by
  have q := DPut.k (k := kL) (v := .int b) h (len4 _ _ _ _)
  rw [mkv_putL] at q
  exact q
theorem pM {H : Hp} {p c : Addr} {a l x b : Int} (h : H p = some (.dK (mkv c a l x))) : DPut H p (.str ("mixed" : Str)) (.int b) (upd H p (.dK (mkv c a l b))) := by
  have q := DPut.k (k := kM) (v := .int b) h (len4 _ _ _ _)
  rw [mkv_putM] at q
  exact q
theorem But.upd {p : Addr} {H H' : Hp} {o : HO} (h : But p H H') : But p H (upd H' p o) := fun b hb => (upd_ne hb).trans (h b hb)
/-- the number of a mixed draw -/
theorem mix_bound {z k : Int} (h0 : 0 ≤ k) (h1 : k ≤ 1000001) : -(2 ^ 64) < z % 2147483629 + 104729 * k ∧ z % 2147483629 + 104729 * k < 2 ^ 64 := by
  have a := Int.emod_nonneg z (b := 2147483629) (by decide)
  have b := Int.emod_lt_of_pos z (b := 2147483629) (by decide)
  constructor <;> omega
/-- a test, then what comes of it, with a word between them -/
def tMid (t : TT) : TT := fun σ H Q => ∃ M : Bool → Hp → Prop, t σ H M ∧ ∀ b H', M b H' → Q b H'
theorem pt_mid {X : Cx} {e : Expr} {t : TT} (h : PT X e t) : PT X e (tMid t) := ⟨fun pins s σ H Q I ⟨M, h1, h2⟩ =>
  thn (h.run pins s σ H M I h1) fun b s' ⟨H', I', q⟩ => ⟨H', I', h2 b H' q⟩⟩
/-- an expression, then what comes of it, with a word between them -/
def tMidE (t : TE) : TE := fun σ H Q => ∃ M : V → Hp → Prop, t σ H M ∧ ∀ v H', M v H' → Q v H'
theorem pe_mid {X : Cx} {e : Expr} {t : TE} (h : PE X e t) : PE X e (tMidE t) := ⟨fun pins s σ H Q I ⟨M, h1, h2⟩ =>
  thn (h.run pins s σ H M I h1) fun u s' ⟨v, H', I', r, q⟩ => ⟨v, H', I', r, h2 v H' q⟩⟩
section
variable {P : Program} {w : World} {K : PySem.W.Frag} {mg : Str → Option Value} {base : Heap}
theorem ok_draw {f : Addr} {fd : FuncData} (F : Fun K "_law_draw" "_law_draw" sDraw f fd) (T : TB mg) : FnOk P w K mg base CX0 1 f fd ["m", "many"] spDraw := by
  refine F.ok scDraw (fun vs H Q E h => ?_) (fun cdv A outer s H vs Q E hr h => ?_)
  · obtain ⟨p, c, n, many, rfl, _⟩ := h
    rfl
  · obtain ⟨p, c, n, many, rfl, M, hn, h0, h1, k⟩ := h
    obtain ⟨cells, a, l, x, hm, hc, hne, h64, ha, hl, hx, hxn⟩ := M.ex
    have hu := hu_of hr
    have npc : p ≠ c := M.ne
    refine ⟨_, C8.pss_cut
      (ps_if (pt_cmpR op_eq (pe_dget hu (pv 0) pe_str (fun _ _ => rfl)) pe_int (nomark _))
        (pss_cons (ps_set (i := 2) scDraw.nd rfl (Or.inl rfl) (pe_ix ix_list (pe_dget hu (pv 0) pe_str (fun _ _ => rfl)) (pe_op op_mod (pe_dget hu (pv 0) pe_str (fun _ _ => rfl)) (pe_callB call_len_seq (by rfl) T.len PySem.boot_len (pa_cons (pe_dget hu (pv 0) pe_str (fun _ _ => rfl)) pa_nil))) (fun _ _ => rfl)))
        (pss_cons (ps_dput hu (pv 0) pe_str (pe_op op_add (pe_dget hu (pv 0) pe_str (fun _ _ => rfl)) pe_int) rfl)
        (pss_one (ps_if (pt_mid (PW.pt (pw_and (pt_cmpR op_ge (pv 2) (pe_op op_pow pe_int pe_int) (nomark _)) (pw_and1 (pt_cmpR op_le (pe_dget hu (pv 0) pe_str (fun _ _ => rfl)) (pe_callB call_len_seq (by rfl) T.len PySem.boot_len (pa_cons (pe_dget hu (pv 0) pe_str (fun _ _ => rfl)) pa_nil)) (nomark _))))))
          (pss_one (ps_dput hu (pv 0) pe_str (pv 2) rfl))
          (pss_cons (ps_set (i := 3) scDraw.nd rfl (Or.inl rfl) (pe_op op_add (pe_dget hu (pv 0) pe_str (fun _ _ => rfl)) pe_int))
          (pss_cons (ps_dput hu (pv 0) pe_str (pv 3) rfl)
          (pss_cons (ps_set (i := 4) scDraw.nd rfl (Or.inl rfl) (pe_mid (pe_op op_mod (pe_op op_mul (pe_op op_add (pe_op op_mod (pv 2) pe_int) (pe_op op_mul pe_int (pv 3))) (pe_op op_add (pe_op op_mul (pv 3) (pv 3)) pe_int)) pe_int)))
          (pss_cons (ps_dput hu (pv 0) pe_str (pe_op op_mul (pe_op op_mod (pe_op op_mul (pv 4) pe_int) pe_int) pe_int) rfl)
          (pss_one (ps_dput hu (pv 0) pe_str (pe_op op_add (pe_op op_add (pe_dget hu (pv 0) pe_str (fun _ _ => rfl)) (pe_op op_mod (pe_op op_mul (pv 4) (pv 4)) pe_int)) pe_int) rfl))))))))))
        pss_nil)
      (pss_cons (ps_set (i := 5) scDraw.nd rfl (Or.inl rfl) (pe_op op_mod (pe_dget hu (pv 0) pe_str (fun _ _ => rfl)) (pv 1)))
      (pss_cons (ps_dput hu (pv 0) pe_str (pe_op op_fdiv (pe_dget hu (pv 0) pe_str (fun _ _ => rfl)) (pv 1)) rfl)
      (pss_one (ps_ret (pv 5))))), ?_⟩
    refine ⟨fun σ H2 => ∃ (a' l' x' : Int) (v2 v3 v4 : Option V), σ = [some (.ref p), some (.int many), v2, v3, v4, none] ∧ H2 p = some (.dK (mkv c a' l' x')) ∧ But p H H2 ∧ 0 ≤ a' ∧ 0 ≤ l' ∧ 0 ≤ x' ∧ x' ≤ (n : Int) + 1, ?_, ?_⟩
    · refine ⟨_, rfl, p, _, rfl, gL hm, rfl, _, rfl, ?_⟩
      refine ite2 (fun _ => ?_) (fun _ => ?_)
      · have hmod0 : 0 ≤ a % (cells.length : Int) := Int.emod_nonneg _ (by omega)
        have hmod1 : a % (cells.length : Int) < (cells.length : Int) := Int.emod_lt_of_pos _ (by omega)
        obtain ⟨z, hz⟩ := get_cell (cells := cells) hmod0 hmod1
        -- cell
        refine ⟨_, rfl, p, _, rfl, gC hm, _, rfl, p, _, rfl, gA hm, _, rfl, p, _, rfl, gC hm, c, _, rfl, .inl (SqL.of hc), _, _, rfl, rfl, (by rw [List.length_map]; omega), ?_⟩
        refine ⟨c, _, _, _, rfl, rfl, SqL.of hc, (by rw [List.length_map]; exact hz), ?_⟩
        -- m['at'] = m['at'] + 1
        refine ⟨_, rfl, p, _, rfl, gA hm, _, _, rfl, rfl, _, rfl, p, _, rfl, pA hm, ?_⟩
        have hm1 : (upd H p (.dK (mkv c (a + 1) l x))) p = some (.dK (mkv c (a + 1) l x)) := upd_same
        have b1 : But p H (upd H p (.dK (mkv c (a + 1) l x))) := But.upd fun _ _ => rfl
        have hc1 : (upd H p (.dK (mkv c (a + 1) l x))) c = some (.lst (cells.map V.int)) := (b1 c (Ne.symm npc)).trans hc
        -- if cell >= 10 ** 18 and ..
        refine ⟨fun b H3 => H3 = upd H p (.dK (mkv c (a + 1) l x)) ∧ (b = true → 10 ^ 18 ≤ z), ?_, ?_⟩
        · refine ⟨_, rfl, _, _, rfl, rfl, ⟨by decide, by decide, by decide⟩, _, _, rfl, rfl, _, rfl, ?_⟩
          refine ite2 (fun hc18 => ?_) (fun _ => ⟨rfl, fun z => nomatch z⟩)
          exact ⟨_, rfl, p, _, rfl, gA hm1, _, rfl, p, _, rfl, gC hm1, c, _, rfl, .inl (SqL.of hc1), _, _, rfl, rfl, _, rfl, rfl, fun _ => of_decide_eq_true hc18⟩
        · rintro b H3 ⟨rfl, hb⟩
          refine ite2 (fun e => ?_) (fun _ => ?_)
          · have hz18 : 0 ≤ z := Int.le_trans (by decide) (hb e)
            exact ⟨_, rfl, _, rfl, p, _, rfl, pL hm1, a + 1, z, x, _, _, _, rfl, upd_same, b1.upd, by omega, hz18, hx, by omega⟩
          · refine ⟨_, rfl, p, _, rfl, gM hm1, _, _, rfl, rfl, ?_⟩
            refine ⟨_, rfl, _, rfl, p, _, rfl, pM hm1, ?_⟩
            have hm2 : (upd (upd H p (.dK (mkv c (a + 1) l x))) p (.dK (mkv c (a + 1) l (x + 1)))) p = some (.dK (mkv c (a + 1) l (x + 1))) := upd_same
            have b2 := b1.upd (o := .dK (mkv c (a + 1) l (x + 1)))
            have hnn := M.nn
            have hk0 : 0 ≤ x + 1 := by omega
            have hk1 : x + 1 ≤ 1000001 := by omega
            refine ⟨fun v H3 => H3 = _ ∧ ∃ N : Int, v = .int N ∧ 0 ≤ N ∧ N < 2147483647, ⟨_, rfl, _, _, rfl, rfl, (by show (0 : Int) < 2147483629; decide), _, rfl, _, _, rfl, rfl, .inl ⟨by decide, by decide⟩, _, _, rfl, rfl, _, rfl, _, rfl, _, _, rfl, rfl, .inl ⟨by omega, by omega⟩, _, _, rfl, rfl, _, _, rfl, rfl, .inl (mix_bound hk0 hk1), _, _, rfl, rfl, (by show (0 : Int) < 2147483647; decide),
              rfl, _, rfl, Int.emod_nonneg _ (by decide), Int.emod_lt_of_pos _ (by decide)⟩, ?_⟩
            rintro v H3 ⟨rfl, N, rfl, hN0, hN1⟩
            have hr0 := Int.emod_nonneg (N * 1000003) (b := 2147483587) (by decide)
            have hr1 := Int.emod_lt_of_pos (N * 1000003) (b := 2147483587) (by decide)
            have hs0 := Int.emod_nonneg (N * N) (b := 2147483563) (by decide)
            refine ⟨_, rfl, _, _, rfl, rfl, .inr ⟨by decide, by decide⟩, _, _, rfl, rfl, (by show (0 : Int) < 2147483587; decide), _, _, rfl, rfl, .inr ⟨by decide, by decide⟩, _, rfl, p, _, rfl, pL hm2, ?_⟩
            have hm3 : (upd (upd (upd H p (.dK (mkv c (a + 1) l x))) p (.dK (mkv c (a + 1) l (x + 1)))) p (.dK (mkv c (a + 1) (N * 1000003 % 2147483587 * 2147483647) (x + 1)))) p = some (.dK (mkv c (a + 1) (N * 1000003 % 2147483587 * 2147483647) (x + 1))) := upd_same
            have b3 := b2.upd (o := .dK (mkv c (a + 1) (N * 1000003 % 2147483587 * 2147483647) (x + 1)))
            refine ⟨_, rfl, p, _, rfl, gL hm3, _, rfl, _, rfl, _, _, rfl, rfl, .inl ⟨by omega, by omega⟩, _, _, rfl, rfl, (by show (0 : Int) < 2147483563; decide), _, _, rfl, rfl, _, _, rfl, rfl, _, rfl, p, _, rfl, pL hm3, ?_⟩
            exact ⟨a + 1, _, x + 1, _, _, _, rfl, upd_same, b3.upd, by omega, by omega, by omega, by omega⟩
      · exact ⟨a, l, x, none, none, none, rfl, hm, fun _ _ => rfl, ha, hl, hx, by omega⟩
    · rintro σ H2 ⟨a', l', x', v2, v3, v4, rfl, hm2, b2, ha', hl', hx', hxn'⟩
      refine ⟨_, rfl, p, _, rfl, gL hm2, _, rfl, _, _, rfl, rfl, h0, ?_⟩
      refine ⟨_, rfl, p, _, rfl, gL hm2, _, rfl, _, _, rfl, rfl, ⟨h0, h1⟩, _, rfl, p, _, rfl, pL hm2, ?_⟩
      refine ⟨_, rfl, ?_⟩
      refine k _ _ ⟨⟨cells, a', l' / many, x', upd_same, ?_, hne, h64, ha', Int.ediv_nonneg hl' (Int.le_of_lt h0), hx', by omega⟩, by omega⟩ b2.upd (Int.emod_nonneg _ (by omega)) (Int.emod_lt_of_pos _ h0)
      exact (upd_ne (Ne.symm npc)).trans ((b2 c (Ne.symm npc)).trans hc)
end
end One
end P_D4

section P_M1
set_option linter.all false
/-! Lines, yards: the mathematics of what a law's own growing and calling makes. -/
namespace One
/-- the ends of lines -/
def ends : List (Nat × Nat) → List Nat
  | [] => []
  | p :: r => p.1 :: p.2 :: ends r
/-- the items whose place, counted from k, is let by p -/
def keepIx {α : Type} (p : Nat → Bool) : Nat → List α → List α
  | _, [] => []
  | k, x :: r => if p k then x :: keepIx p (k + 1) r else keepIx p (k + 1) r
theorem ends_append : ∀ (a b : List (Nat × Nat)), ends (a ++ b) = ends a ++ ends b
  | [], _ => rfl
  | p :: r, b => by simp [ends, ends_append r b]
theorem ends_perm {a b : List (Nat × Nat)} (h : a.Perm b) : (ends a).Perm (ends b) := by
  induction h with
  | nil => exact .refl _
  | cons x _ ih => exact .cons _ (.cons _ ih)
  | swap x y l => 
    show (y.1 :: y.2 :: x.1 :: x.2 :: ends l).Perm (x.1 :: x.2 :: y.1 :: y.2 :: ends l)
    have : ([y.1, y.2] ++ ([x.1, x.2] ++ ends l)).Perm ([x.1, x.2] ++ ([y.1, y.2] ++ ends l)) := by
      rw [← List.append_assoc, ← List.append_assoc]
      exact List.Perm.append_right _ List.perm_append_comm
    exact this
  | trans _ _ i j => exact i.trans j
theorem ends_length : ∀ a : List (Nat × Nat), (ends a).length = 2 * a.length
  | [] => rfl
  | p :: r => by simp [ends, ends_length r]; omega
theorem mem_ends : ∀ {a : List (Nat × Nat)} {e : Nat}, e ∈ ends a ↔ ∃ p ∈ a, e = p.1 ∨ e = p.2
  | [], e => by simp [ends]
  | p :: r, e => by
    simp only [ends, List.mem_cons, mem_ends (a := r)]
    constructor
    · rintro (h | h | ⟨q, hq, h⟩)
      · exact ⟨p, .inl rfl, .inl h⟩
      · exact ⟨p, .inl rfl, .inr h⟩
      · exact ⟨q, .inr hq, h⟩
    · rintro ⟨q, rfl | hq, h⟩
      · rcases h with h | h
        · exact .inl h
        · exact .inr (.inl h)
      · exact .inr (.inr ⟨q, hq, h⟩)
theorem keepIx_length_le {α : Type} (p : Nat → Bool) : ∀ (k : Nat) (l : List α), (keepIx p k l).length ≤ l.length
  | _, [] => Nat.le_refl _
  | k, x :: r => by
    unfold keepIx
    have := keepIx_length_le p (k + 1) r
    split <;> simp <;> omega
theorem keepIx_snoc {α : Type} (p : Nat → Bool) : ∀ (k : Nat) (l : List α) (x : α), keepIx p k (l ++ [x]) = keepIx p k l ++ (if p (k + l.length) then [x] else [])
  | k, [], x => by simp [keepIx]
  | k, y :: r, x => by
    simp only [List.cons_append, keepIx, keepIx_snoc p (k + 1) r x, List.length_cons]
    have : k + 1 + r.length = k + (r.length + 1) := by omega
    rw [this]
    split <;> simp
theorem keepIx_congr {α : Type} {p q : Nat → Bool} : ∀ (k : Nat) (l : List α), (∀ m, k ≤ m → p m = q m) → keepIx p k l = keepIx q k l
  | _, [], _ => rfl
  | k, x :: r, h => by
    unfold keepIx
    rw [h k (Nat.le_refl _), keepIx_congr (k + 1) r (fun m hm => h m (by omega))]
theorem keepIx_out {α : Type} (p : Nat → Bool) : ∀ (k i : Nat) (l : List α) (x : α), l[i]? = some x → p (k + i) = true → (keepIx p k l).Perm (x :: keepIx (fun m => p m && !decide (m = k + i)) k l)
  | k, _, [], x, h, _ => by simp at h
  | k, 0, y :: r, x, h, hp => by
    have e : y = x := Option.some.inj h
    subst e
    have hp' : p k = true := hp
    simp only [keepIx, hp', Nat.add_zero, decide_true, Bool.not_true, Bool.and_false, if_true]
    refine .cons _ ?_
    have e : keepIx (fun m => p m && !decide (m = k)) (k + 1) r = keepIx p (k + 1) r := keepIx_congr (k + 1) r fun m hm => by
      have : ¬ m = k := by omega
      simp [this]
    simp [e]
  | k, i + 1, y :: r, x, h, hp => by
    have ih := keepIx_out p (k + 1) i r x (by simpa using h) (by rw [show k + 1 + i = k + (i + 1) by omega]; exact hp)
    have hk : ¬ k = k + (i + 1) := by omega
    simp only [keepIx, hk, decide_false, Bool.not_false, Bool.and_true]
    rw [show (fun m => p m && !decide (m = k + (i + 1))) = (fun m => p m && !decide (m = k + 1 + i)) by funext m; rw [show k + (i + 1) = k + 1 + i by omega]]
    split
    · exact (List.Perm.cons _ ih).trans (.swap _ _ _)
    · exact ih
theorem keepIx_all {α : Type} : ∀ (k : Nat) (l : List α), keepIx (fun _ => true) k l = l
  | _, [] => rfl
  | k, x :: r => by simp [keepIx, keepIx_all (k + 1) r]
/-- lines of n crossings: each end in just one of them -/
structure Lines (n : Nat) (ps : List (Nat × Nat)) : Prop where
  len : ps.length = 2 * n
  nd : (ends ps).Nodup
  lt : ∀ e ∈ ends ps, e < 4 * n
/-- all hangs together: what is closed under lines and has crossing 0 has all -/
def Whole (n : Nat) (ps : List (Nat × Nat)) : Prop := ∀ P : Nat → Prop, (∀ p ∈ ps, P (p.1 / 4) ↔ P (p.2 / 4)) → P 0 → ∀ c, c < n → P c
theorem Whole.from {n : Nat} {ps : List (Nat × Nat)} (w : Whole n ps) {P : Nat → Prop} (h : ∀ p ∈ ps, P (p.1 / 4) ↔ P (p.2 / 4)) {a : Nat} (ha : a < n) (hp : P a) {c : Nat} (hc : c < n) : P c := by
  by_cases h0 : P 0
  · exact w P h h0 c hc
  · exact absurd hp (w (fun x => ¬ P x) (fun p m => not_congr (h p m)) h0 a ha)
theorem Whole.perm {n : Nat} {ps qs : List (Nat × Nat)} (w : Whole n ps) (h : ps.Perm qs) : Whole n qs := fun P hP h0 c hc => w P (fun p m => hP p (h.mem_iff.mp m)) h0 c hc
theorem Lines.perm {n : Nat} {ps qs : List (Nat × Nat)} (w : Lines n ps) (h : ps.Perm qs) : Lines n qs :=
  ⟨h.length_eq ▸ w.len, (ends_perm h).nodup_iff.mp w.nd, fun e m => w.lt e ((ends_perm h).mem_iff.mpr m)⟩
/-- the fresh lines of crossing n put across two lines, or twice across one -/
def fresh (n : Nat) (i j : Nat) (a b : Nat × Nat) : List (Nat × Nat) :=
  if i = j then [(a.1, 4 * n), (4 * n + 1, 4 * n + 2), (a.2, 4 * n + 3)] else [(a.1, 4 * n), (a.2, 4 * n + 2), (b.1, 4 * n + 1), (b.2, 4 * n + 3)]
/-- the places but two -/
def notIJ (i j : Nat) : Nat → Bool := fun m => !decide (m = i) && !decide (m = j)
def putOn (n : Nat) (ps : List (Nat × Nat)) (i j : Nat) (a b : Nat × Nat) : List (Nat × Nat) := keepIx (notIJ i j) 0 ps ++ fresh n i j a b
theorem keep_one {α : Type} {ps : List α} {i : Nat} {a : α} (ha : ps[i]? = some a) : ps.Perm (a :: keepIx (notIJ i i) 0 ps) := by
  have h := keepIx_out (fun _ => true) 0 i ps a ha rfl
  rw [keepIx_all] at h
  refine h.trans ?_
  rw [keepIx_congr (q := notIJ i i) 0 ps fun m _ => by simp [notIJ]]
theorem keep_two {α : Type} {ps : List α} {i j : Nat} {a b : α} (hij : i ≠ j) (ha : ps[i]? = some a) (hb : ps[j]? = some b) : ps.Perm (a :: b :: keepIx (notIJ i j) 0 ps) := by
  have h := keepIx_out (fun _ => true) 0 i ps a ha rfl
  rw [keepIx_all] at h
  refine h.trans (.cons _ ?_)
  have h2 := keepIx_out (fun m => true && !decide (m = 0 + i)) 0 j ps b hb (by simp; omega)
  refine h2.trans ?_
  rw [keepIx_congr (q := notIJ i j) 0 ps fun m _ => by simp [notIJ]]
theorem mem_keep {α : Type} (p : Nat → Bool) : ∀ (k : Nat) (l : List α) (x : α), x ∈ keepIx p k l → x ∈ l
  | _, [], _, h => h
  | k, y :: r, x, h => by
    unfold keepIx at h
    split at h
    · rcases List.mem_cons.mp h with e | h
      · exact List.mem_cons.mpr (.inl e)
      · exact List.mem_cons.mpr (.inr (mem_keep p (k + 1) r x h))
    · exact List.mem_cons.mpr (.inr (mem_keep p (k + 1) r x h))
theorem put_ends {n : Nat} {ps : List (Nat × Nat)} {i j : Nat} {a b : Nat × Nat} (ha : ps[i]? = some a) (hb : ps[j]? = some b) :
    (ends (putOn n ps i j a b)).Perm (ends ps ++ [4 * n, 4 * n + 1, 4 * n + 2, 4 * n + 3]) := by
  unfold putOn
  rw [ends_append]
  unfold fresh
  by_cases hij : i = j
  · subst hij
    rw [if_pos rfl]
    have h := ends_perm (keep_one ha)
    refine List.Perm.trans ?_ (List.Perm.append_right _ h.symm)
    show (ends (keepIx (notIJ i i) 0 ps) ++ [a.1, 4 * n, 4 * n + 1, 4 * n + 2, a.2, 4 * n + 3]).Perm ((a.1 :: a.2 :: ends (keepIx (notIJ i i) 0 ps)) ++ [4 * n, 4 * n + 1, 4 * n + 2, 4 * n + 3])
    refine List.perm_iff_count.mpr fun x => ?_
    simp only [List.count_append, List.count_cons, List.count_nil]
    omega
  · rw [if_neg hij]
    have h := ends_perm (keep_two hij ha hb)
    refine List.Perm.trans ?_ (List.Perm.append_right _ h.symm)
    show (ends (keepIx (notIJ i j) 0 ps) ++ [a.1, 4 * n, a.2, 4 * n + 2, b.1, 4 * n + 1, b.2, 4 * n + 3]).Perm ((a.1 :: a.2 :: b.1 :: b.2 :: ends (keepIx (notIJ i j) 0 ps)) ++ [4 * n, 4 * n + 1, 4 * n + 2, 4 * n + 3])
    refine List.perm_iff_count.mpr fun x => ?_
    simp only [List.count_append, List.count_cons, List.count_nil]
    omega
theorem put_len {n : Nat} {ps : List (Nat × Nat)} {i j : Nat} {a b : Nat × Nat} (ha : ps[i]? = some a) (hb : ps[j]? = some b) : (putOn n ps i j a b).length = ps.length + 2 := by
  have h := (put_ends (n := n) ha hb).length_eq
  rw [List.length_append, ends_length, ends_length] at h
  simp at h
  omega
theorem put_lines {n : Nat} {ps : List (Nat × Nat)} {i j : Nat} {a b : Nat × Nat} (L : Lines n ps) (ha : ps[i]? = some a) (hb : ps[j]? = some b) : Lines (n + 1) (putOn n ps i j a b) := by
  have hp := put_ends (n := n) ha hb
  refine ⟨by rw [put_len ha hb, L.len]; omega, hp.nodup_iff.mpr (List.nodup_append.mpr ⟨L.nd, ?_, fun x hx y hy => ?_⟩), fun e he => ?_⟩
  · simp
  · have := L.lt x hx
    simp at hy
    omega
  · rcases List.mem_append.mp (hp.mem_iff.mp he) with h | h
    · have := L.lt e h
      omega
    · simp at h
      omega
theorem put_whole {n : Nat} {ps : List (Nat × Nat)} {i j : Nat} {a b : Nat × Nat} (hn : 0 < n) (L : Lines n ps) (w : Whole n ps) (ha : ps[i]? = some a) (hb : ps[j]? = some b) : Whole (n + 1) (putOn n ps i j a b) := by
  intro P hP h0
  have old : ∀ p ∈ keepIx (notIJ i j) 0 ps, P (p.1 / 4) ↔ P (p.2 / 4) := fun p m => hP p (List.mem_append.mpr (.inl m))
  have d0 : 4 * n / 4 = n := by omega
  have d1 : (4 * n + 1) / 4 = n := by omega
  have d2 : (4 * n + 2) / 4 = n := by omega
  have d3 : (4 * n + 3) / 4 = n := by omega
  have new : ∀ p ∈ fresh n i j a b, P (p.1 / 4) ↔ P (p.2 / 4) := fun p m => hP p (List.mem_append.mpr (.inr m))
  have hA : (P (a.1 / 4) ↔ P n) ∧ (P (a.2 / 4) ↔ P n) ∧ (i ≠ j → (P (b.1 / 4) ↔ P n) ∧ (P (b.2 / 4) ↔ P n)) := by
    unfold fresh at new
    by_cases hij : i = j
    · rw [if_pos hij] at new
      have q1 := new (a.1, 4 * n) (by simp)
      have q2 := new (a.2, 4 * n + 3) (by simp)
      simp only [d0, d3] at q1 q2
      exact ⟨q1, q2, fun z => absurd hij z⟩
    · rw [if_neg hij] at new
      have q1 := new (a.1, 4 * n) (by simp)
      have q2 := new (a.2, 4 * n + 2) (by simp)
      have q3 := new (b.1, 4 * n + 1) (by simp)
      have q4 := new (b.2, 4 * n + 3) (by simp)
      simp only [d0, d1, d2, d3] at q1 q2 q3 q4
      exact ⟨q1, q2, fun _ => ⟨q3, q4⟩⟩
  have clo : ∀ p ∈ ps, P (p.1 / 4) ↔ P (p.2 / 4) := by
    intro p m
    by_cases hij : i = j
    · subst hij
      rcases List.mem_cons.mp ((keep_one ha).mem_iff.mp m) with e | m
      · subst e
        exact hA.1.trans hA.2.1.symm
      · exact old p m
    · rcases List.mem_cons.mp ((keep_two hij ha hb).mem_iff.mp m) with e | m
      · subst e
        exact hA.1.trans hA.2.1.symm
      · rcases List.mem_cons.mp m with e | m
        · subst e
          exact (hA.2.2 hij).1.trans (hA.2.2 hij).2.symm
        · exact old p m
  have all := w P clo h0
  intro c hc
  by_cases h : c < n
  · exact all c h
  · have e : c = n := by omega
    subst e
    have am : a.1 ∈ ends ps := mem_ends.mpr ⟨a, List.mem_of_getElem? ha, .inl rfl⟩
    have := L.lt _ am
    exact hA.1.mp (all _ (by omega))
end One
end P_M1

section P_M2
set_option linter.all false
namespace One
/-- what a law's own growing makes -/
structure Grown (n : Nat) (ps : List (Nat × Nat)) : Prop where
  pos : 0 < n
  lines : Lines n ps
  whole : Whole n ps
theorem grown_one {a b c d : Nat} (h : [a, b, c, d].Perm [0, 1, 2, 3]) : Grown 1 [(a, b), (c, d)] := by
  refine ⟨by decide, ⟨rfl, h.nodup_iff.mpr (by decide), fun e he => ?_⟩, fun P _ h0 x hx => ?_⟩
  · have := h.mem_iff.mp he
    simp at this
    omega
  · have e : x = 0 := by omega
    subst e
    exact h0
theorem Grown.put {n : Nat} {ps : List (Nat × Nat)} {i j : Nat} {a b : Nat × Nat} (g : Grown n ps) (ha : ps[i]? = some a) (hb : ps[j]? = some b) : Grown (n + 1) (putOn n ps i j a b) :=
  ⟨by omega, put_lines g.lines ha hb, put_whole g.pos g.lines g.whole ha hb⟩
/-- how ends are called otherwise, crossing by crossing -/
structure Called (n : Nat) (ns : List Nat) : Prop where
  perm : ns.Perm (List.range (4 * n))
  blk : ∀ i j, i < 4 * n → j < 4 * n → i / 4 = j / 4 → ns.getD i 0 / 4 = ns.getD j 0 / 4
theorem Called.len {n : Nat} {ns : List Nat} (c : Called n ns) : ns.length = 4 * n := by rw [c.perm.length_eq, List.length_range]
theorem Called.lt {n : Nat} {ns : List Nat} (c : Called n ns) {i : Nat} (hi : i < 4 * n) : ns.getD i 0 < 4 * n := by
  have h : i < ns.length := by rw [c.len]; exact hi
  rw [List.getD_eq_getElem?_getD, List.getElem?_eq_getElem h, Option.getD_some]
  exact List.mem_range.mp (c.perm.mem_iff.mp (List.getElem_mem h))
theorem Called.inj {n : Nat} {ns : List Nat} (c : Called n ns) {i j : Nat} (hi : i < 4 * n) (hj : j < 4 * n) (e : ns.getD i 0 = ns.getD j 0) : i = j := by
  have h1 : i < ns.length := by rw [c.len]; exact hi
  have h2 : j < ns.length := by rw [c.len]; exact hj
  rw [List.getD_eq_getElem?_getD, List.getElem?_eq_getElem h1, Option.getD_some, List.getD_eq_getElem?_getD, List.getElem?_eq_getElem h2, Option.getD_some] at e
  exact (List.getElem_inj (c.perm.nodup_iff.mpr List.nodup_range)).mp e
theorem Called.onto {n : Nat} {ns : List Nat} (c : Called n ns) {x : Nat} (hx : x < 4 * n) : ∃ i, i < 4 * n ∧ ns.getD i 0 = x := by
  have h := c.perm.mem_iff.mpr (List.mem_range.mpr hx)
  obtain ⟨i, hi, e⟩ := List.mem_iff_getElem.mp h
  refine ⟨i, by rw [← c.len]; exact hi, ?_⟩
  rw [List.getD_eq_getElem?_getD, List.getElem?_eq_getElem hi, Option.getD_some, e]
/-- a line, the lesser end ahead -/
def low (x y : Nat) : Nat × Nat := if y < x then (y, x) else (x, y)
def callL (ns : List Nat) (p : Nat × Nat) : Nat × Nat := low (ns.getD p.1 0) (ns.getD p.2 0)
theorem low_mem (x y : Nat) : ∀ e, (e = (low x y).1 ∨ e = (low x y).2) ↔ (e = x ∨ e = y) := by
  intro e
  unfold low
  split
  · exact Or.comm
  · exact Iff.rfl
theorem ends_map (ns : List Nat) : ∀ ps : List (Nat × Nat), (ends (ps.map (callL ns))).Perm ((ends ps).map fun e => ns.getD e 0)
  | [] => .refl _
  | p :: r => by
    have ih := ends_map ns r
    show ((callL ns p).1 :: (callL ns p).2 :: ends (r.map (callL ns))).Perm (ns.getD p.1 0 :: ns.getD p.2 0 :: (ends r).map fun e => ns.getD e 0)
    unfold callL low
    split
    · exact (List.Perm.swap _ _ _).trans (.cons _ (.cons _ ih))
    · exact .cons _ (.cons _ ih)
theorem nodup_map_on {α β : Type} {f : α → β} : ∀ {l : List α}, (∀ x ∈ l, ∀ y ∈ l, f x = f y → x = y) → l.Nodup → (l.map f).Nodup
  | [], _, _ => List.nodup_nil
  | a :: r, h, hn => by
    obtain ⟨h1, h2⟩ := List.nodup_cons.mp hn
    refine List.nodup_cons.mpr ⟨fun m => ?_, nodup_map_on (fun x hx y hy => h x (List.mem_cons.mpr (.inr hx)) y (List.mem_cons.mpr (.inr hy))) h2⟩
    obtain ⟨y, hy, e⟩ := List.mem_map.mp m
    have := h y (List.mem_cons.mpr (.inr hy)) a (List.mem_cons.mpr (.inl rfl)) e
    exact h1 (this ▸ hy)
theorem called_lines {n : Nat} {ps : List (Nat × Nat)} {ns : List Nat} (L : Lines n ps) (c : Called n ns) : Lines n (ps.map (callL ns)) := by
  have hp := ends_map ns ps
  refine ⟨by rw [List.length_map]; exact L.len, hp.nodup_iff.mpr (nodup_map_on (fun x hx y hy e => c.inj (L.lt x hx) (L.lt y hy) e) L.nd), fun e he => ?_⟩
  obtain ⟨x, hx, rfl⟩ := List.mem_map.mp (hp.mem_iff.mp he)
  exact c.lt (L.lt x hx)
theorem called_whole {n : Nat} {ps : List (Nat × Nat)} {ns : List Nat} (hn : 0 < n) (L : Lines n ps) (w : Whole n ps) (c : Called n ns) : Whole n (ps.map (callL ns)) := by
  intro P hP h0 x hx
  have clo : ∀ p ∈ ps, P (ns.getD (4 * (p.1 / 4)) 0 / 4) ↔ P (ns.getD (4 * (p.2 / 4)) 0 / 4) := by
    intro p m
    have l1 := L.lt p.1 (mem_ends.mpr ⟨p, m, .inl rfl⟩)
    have l2 := L.lt p.2 (mem_ends.mpr ⟨p, m, .inr rfl⟩)
    rw [c.blk (4 * (p.1 / 4)) p.1 (by omega) l1 (by omega), c.blk (4 * (p.2 / 4)) p.2 (by omega) l2 (by omega)]
    have q := hP (callL ns p) (List.mem_map.mpr ⟨p, m, rfl⟩)
    unfold callL low at q
    split at q
    · exact q.symm
    · exact q
  obtain ⟨i, hi, ei⟩ := c.onto (x := 0) (by omega)
  obtain ⟨j, hj, ej⟩ := c.onto (x := 4 * x) (by omega)
  have start : P (ns.getD (4 * (i / 4)) 0 / 4) := by
    rw [c.blk (4 * (i / 4)) i (by omega) hi (by omega), ei]
    exact h0
  have all := w.from (P := fun k => P (ns.getD (4 * k) 0 / 4)) clo (a := i / 4) (by omega) start (c := j / 4) (by omega)
  have all : P (ns.getD (4 * (j / 4)) 0 / 4) := all
  rw [c.blk (4 * (j / 4)) j (by omega) hj (by omega), ej] at all
  rw [show 4 * x / 4 = x by omega] at all
  exact all
/-- pairs in order -/
def ltP (p q : Nat × Nat) : Prop := p.1 < q.1 ∨ (p.1 = q.1 ∧ p.2 < q.2)
def leP (p q : Nat × Nat) : Prop := p.1 < q.1 ∨ (p.1 = q.1 ∧ p.2 ≤ q.2)
/-- a yard of n crossings -/
structure Yard (n : Nat) (L : List (Nat × Nat)) : Prop where
  pos : 0 < n
  lines : Lines n L
  whole : Whole n L
  up : L.Pairwise ltP
  low : ∀ p ∈ L, p.1 < p.2
theorem nodup_firsts : ∀ {L : List (Nat × Nat)}, (ends L).Nodup → L.Pairwise fun p q => p.1 ≠ q.1 ∧ p.1 ≠ q.2 ∧ p.2 ≠ q.1 ∧ p.2 ≠ q.2
  | [], _ => .nil
  | p :: r, h => by
    have h : (p.1 :: p.2 :: ends r).Nodup := h
    obtain ⟨h1, h2⟩ := List.nodup_cons.mp h
    obtain ⟨h3, h4⟩ := List.nodup_cons.mp h2
    refine List.pairwise_cons.mpr ⟨fun q hq => ?_, nodup_firsts h4⟩
    have m1 : q.1 ∈ ends r := mem_ends.mpr ⟨q, hq, .inl rfl⟩
    have m2 : q.2 ∈ ends r := mem_ends.mpr ⟨q, hq, .inr rfl⟩
    exact ⟨fun e => h1 (List.mem_cons.mpr (.inr (e ▸ m1))), fun e => h1 (List.mem_cons.mpr (.inr (e ▸ m2))), fun e => h3 (e ▸ m1), fun e => h3 (e ▸ m2)⟩
theorem nodup_pair : ∀ {L : List (Nat × Nat)}, (ends L).Nodup → ∀ p ∈ L, p.1 ≠ p.2
  | p :: r, h, q, m => by
    have h : (p.1 :: p.2 :: ends r).Nodup := h
    obtain ⟨h1, h2⟩ := List.nodup_cons.mp h
    rcases List.mem_cons.mp m with e | m
    · subst e
      exact fun e => h1 (List.mem_cons.mpr (.inl e))
    · exact nodup_pair (List.nodup_cons.mp h2).2 q m
/-- lines with the lesser ends ahead, sorted, are a yard -/
theorem yard_of_sorted {n : Nat} {L M : List (Nat × Nat)} (hn : 0 < n) (hL : Lines n L) (w : Whole n L) (hl : ∀ p ∈ L, p.1 ≤ p.2) (hp : M.Perm L) (hs : M.Pairwise leP) : Yard n M := by
  have hM := hL.perm hp.symm
  refine ⟨hn, hM, w.perm hp.symm, ?_, fun p m => ?_⟩
  · refine (hs.and (nodup_firsts hM.nd)).imp ?_
    rintro p q ⟨h1, h2, _⟩
    rcases h1 with h1 | ⟨h1, _⟩
    · exact .inl h1
    · exact absurd h1 h2
  · have h1 := hl p (hp.mem_iff.mp m)
    have h2 := nodup_pair hM.nd p m
    omega
theorem low_le (x y : Nat) : (low x y).1 ≤ (low x y).2 := by
  unfold low
  split <;> simp <;> omega
theorem called_yard {n : Nat} {ps M : List (Nat × Nat)} {ns : List Nat} (g : Grown n ps) (c : Called n ns) (hp : M.Perm (ps.map (callL ns))) (hs : M.Pairwise leP) : Yard n M :=
  yard_of_sorted g.pos (called_lines g.lines c) (called_whole g.pos g.lines g.whole c) (fun p m => by
    obtain ⟨q, _, rfl⟩ := List.mem_map.mp m
    exact low_le _ _) hp hs
/-! ### the calling, block by block -/
def blocks : List (Nat × List Nat) → List Nat
  | [] => []
  | b :: r => b.2.map (fun p => 4 * b.1 + p) ++ blocks r
theorem blocks_snoc : ∀ (l : List (Nat × List Nat)) (b : Nat × List Nat), blocks (l ++ [b]) = blocks l ++ b.2.map (fun p => 4 * b.1 + p)
  | [], b => by simp [blocks]
  | a :: r, b => by simp [blocks, blocks_snoc r b]
theorem blocks_len : ∀ {l : List (Nat × List Nat)}, (∀ b ∈ l, b.2.length = 4) → (blocks l).length = 4 * l.length
  | [], _ => rfl
  | a :: r, h => by
    have h1 := h a (List.mem_cons.mpr (.inl rfl))
    have h2 := blocks_len (l := r) fun b hb => h b (List.mem_cons.mpr (.inr hb))
    simp [blocks, h1, h2]
    omega
theorem blocks_get : ∀ {l : List (Nat × List Nat)}, (∀ b ∈ l, b.2.Perm [0, 1, 2, 3]) → ∀ i, i < 4 * l.length → ∃ b ∈ l, l[i / 4]? = some b ∧ (blocks l).getD i 0 / 4 = b.1
  | [], _, i, hi => by simp at hi
  | a :: r, h, i, hi => by
    have ha := h a (List.mem_cons.mpr (.inl rfl))
    have hlen : (a.2.map (fun p => 4 * a.1 + p)).length = 4 := by rw [List.length_map, ha.length_eq]; rfl
    by_cases hi4 : i < 4
    · refine ⟨a, List.mem_cons.mpr (.inl rfl), by rw [show i / 4 = 0 by omega]; rfl, ?_⟩
      have hx : i < a.2.length := by rw [ha.length_eq]; exact hi4
      have hm := ha.mem_iff.mp (List.getElem_mem hx)
      have e : (blocks (a :: r)).getD i 0 = 4 * a.1 + a.2[i] := by
        show (a.2.map (fun p => 4 * a.1 + p) ++ blocks r).getD i 0 = _
        rw [List.getD_eq_getElem?_getD, List.getElem?_append_left (by rw [hlen]; exact hi4), List.getElem?_map, List.getElem?_eq_getElem hx]
        rfl
      rw [e]
      simp at hm
      omega
    · have hi' : i - 4 < 4 * r.length := by simp at hi; omega
      obtain ⟨b, hb, h1, h2⟩ := blocks_get (l := r) (fun b hb => h b (List.mem_cons.mpr (.inr hb))) (i - 4) hi'
      refine ⟨b, List.mem_cons.mpr (.inr hb), ?_, ?_⟩
      · rw [show i / 4 = (i - 4) / 4 + 1 by omega]
        exact h1
      · have e : (blocks (a :: r)).getD i 0 = (blocks r).getD (i - 4) 0 := by
          show (a.2.map (fun p => 4 * a.1 + p) ++ blocks r).getD i 0 = _
          rw [List.getD_eq_getElem?_getD, List.getElem?_append_right (by rw [hlen]; omega), hlen, List.getD_eq_getElem?_getD]
        rw [e]
        exact h2
theorem blocks_perm : ∀ {l m : List (Nat × List Nat)}, l.Perm m → (blocks l).Perm (blocks m) := fun h => by
  induction h with
  | nil => exact .refl _
  | cons x _ ih => exact List.Perm.append_left _ ih
  | swap x y l =>
    show (y.2.map (fun p => 4 * y.1 + p) ++ (x.2.map (fun p => 4 * x.1 + p) ++ blocks l)).Perm (x.2.map (fun p => 4 * x.1 + p) ++ (y.2.map (fun p => 4 * y.1 + p) ++ blocks l))
    rw [← List.append_assoc, ← List.append_assoc]
    exact List.Perm.append_right _ List.perm_append_comm
  | trans _ _ i j => exact i.trans j
theorem blocks_std : ∀ (l : List (Nat × List Nat)), (∀ b ∈ l, b.2.Perm [0, 1, 2, 3]) → (blocks l).Perm (blocks (l.map fun b => (b.1, [0, 1, 2, 3])))
  | [], _ => .refl _
  | a :: r, h => List.Perm.append (List.Perm.map _ (h a (List.mem_cons.mpr (.inl rfl)))) (blocks_std r fun b hb => h b (List.mem_cons.mpr (.inr hb)))
theorem blocks_range : ∀ n : Nat, blocks ((List.range n).map fun c => (c, [0, 1, 2, 3])) = List.range (4 * n)
  | 0 => rfl
  | n + 1 => by
    rw [List.range_succ, List.map_append, List.map_cons, List.map_nil, blocks_snoc, blocks_range n, show 4 * (n + 1) = 4 * n + 4 by omega]
    rw [show 4 * n + 4 = (4 * n + 3) + 1 by omega, List.range_succ, show 4 * n + 3 = (4 * n + 2) + 1 by omega, List.range_succ, show 4 * n + 2 = (4 * n + 1) + 1 by omega, List.range_succ, List.range_succ]
    simp
theorem called_of_blocks {n : Nat} {l : List (Nat × List Nat)} (hp : (l.map Prod.fst).Perm (List.range n)) (hb : ∀ b ∈ l, b.2.Perm [0, 1, 2, 3]) : Called n (blocks l) := by
  have hlen : l.length = n := by rw [← List.length_map (f := Prod.fst) (as := l), hp.length_eq, List.length_range]
  refine ⟨?_, fun i j hi hj e => ?_⟩
  · refine (blocks_std l hb).trans ?_
    rw [← blocks_range n]
    refine blocks_perm ?_
    rw [show (fun b : Nat × List Nat => (b.1, [0, 1, 2, 3])) = (fun c => (c, [0, 1, 2, 3])) ∘ Prod.fst from rfl, ← List.map_map]
    exact List.Perm.map _ hp
  · obtain ⟨b, _, h1, h2⟩ := blocks_get hb i (by rw [hlen]; exact hi)
    obtain ⟨d, _, h3, h4⟩ := blocks_get hb j (by rw [hlen]; exact hj)
    rw [e, h3] at h1
    cases h1
    rw [h2, h4]
end One
end P_M2

section P_D5
set_option linter.all false
set_option maxRecDepth 100000
set_option maxHeartbeats 4000000
namespace One
open PySem PySem.Spec PyProof.Rows L2
/-- a def that is called by its name -/
structure Cal (K : PySem.W.Frag) (mg : Str → Option Value) (x : Str) (f : Addr) (fd : FuncData) (ps : List Str) : Prop where
  g : mg x = some (.ref f)
  kp : PySem.W.keepIn K (.ref f) = true
  b : Binds K fd ps []
/-- at a stands the pair p -/
def PAt (H : Hp) (a : Addr) (p : Nat × Nat) : Prop := H a = some (.tup [.int (p.1 : Nat), .int (p.2 : Nat)])
/-- at these addresses stand these pairs -/
inductive PL (H : Hp) : List Addr → List (Nat × Nat) → Prop
  | nil : PL H [] []
  | cons {a p as ps} : PAt H a p → PL H as ps → PL H (a :: as) (p :: ps)
theorem PL.len {H : Hp} {as : List Addr} {ps : List (Nat × Nat)} (h : PL H as ps) : as.length = ps.length := by
  induction h with
  | nil => rfl
  | cons _ _ ih => simp [ih]
theorem PL.get {H : Hp} {as : List Addr} {ps : List (Nat × Nat)} (h : PL H as ps) : ∀ {i : Nat} {p : Nat × Nat}, ps[i]? = some p → ∃ a, as[i]? = some a ∧ PAt H a p := by
  induction h with
  | nil => intro i p e; simp at e
  | cons h1 _ ih =>
    intro i p e
    cases i with
    | zero =>
      have e := Option.some.inj e
      subst e
      exact ⟨_, rfl, h1⟩
    | succ i => exact ih (i := i) (by simpa using e)
theorem PL.got {H : Hp} {as : List Addr} {ps : List (Nat × Nat)} (h : PL H as ps) : ∀ {i : Nat} {a : Addr}, as[i]? = some a → ∃ p, ps[i]? = some p ∧ PAt H a p := by
  induction h with
  | nil => intro i p e; simp at e
  | cons h1 _ ih =>
    intro i p e
    cases i with
    | zero =>
      have e := Option.some.inj e
      subst e
      exact ⟨_, rfl, h1⟩
    | succ i => exact ih (i := i) (by simpa using e)
theorem PL.app {H : Hp} {as bs : List Addr} {ps qs : List (Nat × Nat)} (h : PL H as ps) (k : PL H bs qs) : PL H (as ++ bs) (ps ++ qs) := by
  induction h with
  | nil => exact k
  | cons h1 _ ih => exact .cons h1 ih
theorem PL.mono {H H' : Hp} {as : List Addr} {ps : List (Nat × Nat)} (h : PL H as ps) (k : ∀ b xs, H b = some (.tup xs) → H' b = some (.tup xs)) : PL H' as ps := by
  induction h with
  | nil => exact .nil
  | cons h1 _ ih => exact .cons (k _ _ h1) ih
theorem PL.keep {H : Hp} {as : List Addr} {ps : List (Nat × Nat)} (h : PL H as ps) (f : Nat → Bool) : ∀ k, PL H (keepIx f k as) (keepIx f k ps) := by
  induction h with
  | nil => intro k; exact .nil
  | cons h1 _ ih =>
    intro k
    unfold keepIx
    split
    · exact .cons h1 (ih _)
    · exact ih _
theorem tupK {p c : Addr} {H H' : Hp} {n : Nat} (M : MS H p c n) (e : Ext p H H') : ∀ b xs, H b = some (.tup xs) → H' b = some (.tup xs) := fun b xs h => by
  obtain ⟨cells, a, l, x, h1, _⟩ := M.ex
  exact e b _ (ne_of h h1 (by intro z; cases z)) h
theorem sameT {H H' : Hp} (e : Same H H') : ∀ b xs, H b = some (.tup xs) → H' b = some (.tup xs) := fun b xs h => e b _ h
theorem Same.new {H : Hp} {q : Addr} {o : HO} (h : H q = none) : Same H (upd H q o) := fun b u e => by
  rw [upd_ne (ne_of_none e h)]
  exact e
abbrev refs (as : List Addr) : List V := as.map V.ref
/-- a display of two pairs of written numbers -/
theorem rd_two {a b c d : Int} {σ : L2.St} {H : Hp} {Q : VK} (h : ∀ (H' : Hp) (l t1 t2 : Addr), Same H H' → H' l = some (.lst [.ref t1, .ref t2]) → H' t1 = some (.tup [.int a, .int b]) → H' t2 = some (.tup [.int c, .int d]) → Q (.ref l) H') :
    tLst (tCons (tTup (tCons (tC (.int a)) (tCons (tC (.int b)) tNil))) (tCons (tTup (tCons (tC (.int c)) (tCons (tC (.int d)) tNil))) tNil)) σ H Q := by
  refine ⟨by show 2 ≤ sizeLine; decide, fun t1 h1 => ⟨by show 2 ≤ sizeLine; decide, fun t2 h2 => ⟨by show 2 ≤ sizeLine; decide, fun l hl => ?_⟩⟩⟩
  have s1 := Same.new (o := .tup [.int a, .int b]) h1
  have s2 := Same.new (o := .tup [.int c, .int d]) h2
  have s3 := Same.new (o := .lst [.ref t1, .ref t2]) hl
  exact h _ l t1 t2 (s1.trans (s2.trans s3)) upd_same (s3 _ _ (s2 _ _ upd_same)) (s3 _ _ upd_same)
end One
end P_D5

section P_D6
set_option linter.all false
set_option maxRecDepth 100000
set_option maxHeartbeats 4000000
namespace One
open PySem PySem.Spec PyProof.Rows L2
abbrev sGrown : Stmt := top 28
abbrev nGrown : List Str := ["m", "many", "found", "crossing", "one", "other", "first", "begin", "end", "fresh", "start", "stop", "k", "line"]
theorem scGrown : FnScope nGrown ["m", "many"] (defScope sGrown) := ⟨rfl, rfl, rfl, by decide +kernel, rfl, by decide +kernel, by decide +kernel⟩
def spGrown : Sp := fun vs H Q _ => ∃ (p c : Addr) (n many : Nat), vs = [.ref p, .int (many : Nat)] ∧ MS H p c n ∧ n ≤ 900000 ∧ 0 < many ∧ many ≤ 40 ∧
  ∀ (H' : Hp) (L : Addr) (as : List Addr) (ps : List (Nat × Nat)), MS H' p c (n + 2 * many) → Ext p H H' → H' L = some (.lst (refs as)) → PL H' as ps → Grown many ps → Q (.ref L) H'
theorem two_le : 2 ≤ sizeLine := by decide
/-- two tuples and a list of both, made one behind another -/
theorem made_two {H : Hp} {t1 t2 l : Addr} {x y : List V} {zs : List V} (h1 : H t1 = none) (h2 : upd H t1 (.tup x) t2 = none) (h3 : upd (upd H t1 (.tup x)) t2 (.tup y) l = none) :
    ∃ H', H' = upd (upd (upd H t1 (.tup x)) t2 (.tup y)) l (.lst zs) ∧ Same H H' ∧ H' l = some (.lst zs) ∧ H' t1 = some (.tup x) ∧ H' t2 = some (.tup y) := by
  have s1 := Same.new (o := .tup x) h1
  have s2 := Same.new (o := .tup y) h2
  have s3 := Same.new (o := .lst zs) h3
  exact ⟨_, rfl, s1.trans (s2.trans s3), upd_same, s3 _ _ (s2 _ _ upd_same), s3 _ _ upd_same⟩
theorem PAt.of {H : Hp} {t : Addr} {x y : Int} {a b : Nat} (h : H t = some (.tup [.int x, .int y])) (hx : x = (a : Nat)) (hy : y = (b : Nat)) : PAt H t (a, b) := by
  subst hx hy
  exact h
theorem refs_app (a b : List Addr) : refs (a ++ b) = refs a ++ refs b := List.map_append
theorem in_two (j j1 j2 : Nat) : (!inV (V.int (j : Nat)) [V.int (j1 : Nat), V.int (j2 : Nat)]) = notIJ j1 j2 j := by
  unfold inV notIJ
  simp only [List.any_cons, List.any_nil, Bool.or_false]
  have e : ∀ k : Nat, eqV (V.int (k : Nat)) (V.int (j : Nat)) = decide (j = k) := by
    intro k
    show ((k : Int) == (j : Int)) = decide (j = k)
    by_cases q : j = k
    · subst q
      simp
    · have q' : ¬ (k : Int) = (j : Int) := by omega
      simp [q, q']
  rw [e, e, Bool.not_or]
theorem MS.neL {H : Hp} {p c L : Addr} {n : Nat} {xs : List V} (M : MS H p c n) (h : H L = some (.lst xs)) : L ≠ p := fun z => by
  obtain ⟨cells, a, l, x, q, _⟩ := M.ex
  rw [z, q] at h
  cases h
theorem ref_at {as : List Addr} {i : Nat} {a : Addr} (h : as[i]? = some a) : atI (refs as) (i : Nat) = some (.ref a) := at_of (j := i) rfl (by rw [List.getElem?_map, h]; rfl)
section
variable {P : Program} {w : World} {K : PySem.W.Frag} {mg : Str → Option Value} {base : Heap}
theorem ok_grown {f fD : Addr} {fd fdD : FuncData} (F : Fun K "_law_grown" "_law_grown" sGrown f fd) (T : TB mg) (D : Cal K mg "_law_draw" fD fdD ["m", "many"])
    (GD : FnOk P w K mg base CX0 1 fD fdD ["m", "many"] spDraw) : FnOk P w K mg base CX0 2 f fd ["m", "many"] spGrown := by
  refine F.ok scGrown (fun vs H Q E h => ?_) (fun cdv A outer s H vs Q E hr h => ?_)
  · obtain ⟨p, c, n, many, rfl, _⟩ := h
    rfl
  · obtain ⟨p, c, n, many, rfl, M, hn, h0, h40, k⟩ := h
    have hu := hu_of hr
    have nd := scGrown.nd
    refine ⟨_, pss_cons (ps_set (i := 2) nd rfl (Or.inl rfl) (pe_mid (pe_ix ix_list (pe_lst (pa_cons (pe_lst (pa_cons (pe_tup (pa_cons pe_int (pa_cons pe_int pa_nil))) (pa_cons (pe_tup (pa_cons pe_int (pa_cons pe_int pa_nil))) pa_nil)))
        (pa_cons (pe_lst (pa_cons (pe_tup (pa_cons pe_int (pa_cons pe_int pa_nil))) (pa_cons (pe_tup (pa_cons pe_int (pa_cons pe_int pa_nil))) pa_nil)))
        (pa_cons (pe_lst (pa_cons (pe_tup (pa_cons pe_int (pa_cons pe_int pa_nil))) (pa_cons (pe_tup (pa_cons pe_int (pa_cons pe_int pa_nil))) pa_nil))) pa_nil))))
        (pe_call GD hr rfl D.g D.kp D.b .nil pass0 (pa_cons (pv 0) (pa_cons pe_int pa_nil))) (fun _ _ => rfl))))
      (pss_cons (ps_for PassesOwn.never rfl (pi_range2 (by rfl) T.range (pa_cons pe_int (pa_cons (pv 1) pa_nil))) (pg_name (i := 3) nd rfl (Or.inl rfl))
        (pss_cons (ps_asg (pe_tup (pa_cons (pe_call GD hr rfl D.g D.kp D.b .nil pass0 (pa_cons (pv 0) (pa_cons (pe_callB call_len_seq (by rfl) T.len PySem.boot_len (pa_cons (pv 2) pa_nil)) pa_nil)))
            (pa_cons (pe_call GD hr rfl D.g D.kp D.b .nil pass0 (pa_cons (pv 0) (pa_cons (pe_callB call_len_seq (by rfl) T.len PySem.boot_len (pa_cons (pv 2) pa_nil)) pa_nil)))
            (pa_cons (pe_op op_mul pe_int (pv 3)) pa_nil)))) (pg_tup rfl (pgs_cons (pg_name (i := 4) nd rfl (Or.inr rfl)) (pgs_cons (pg_name (i := 5) nd rfl (Or.inr rfl)) (pgs_cons (pg_name (i := 6) nd rfl (Or.inl rfl)) pgs_nil)))))
        (pss_cons (ps_asg (pe_ix ix_list (pv 2) (pv 4) (fun _ _ => rfl)) (pg_tup rfl (pgs_cons (pg_name (i := 7) nd rfl (Or.inl rfl)) (pgs_cons (pg_name (i := 8) nd rfl (Or.inl rfl)) pgs_nil))))
        (pss_cons (ps_set (i := 9) nd rfl (Or.inl rfl) (pe_lst (pa_cons (pe_tup (pa_cons (pv 7) (pa_cons (pv 6) pa_nil))) (pa_cons (pe_tup (pa_cons (pe_op op_add (pv 6) pe_int) (pa_cons (pe_op op_add (pv 6) pe_int) pa_nil))) (pa_cons (pe_tup (pa_cons (pv 8) (pa_cons (pe_op op_add (pv 6) pe_int) pa_nil))) pa_nil)))))
        (C8.pss_cut (ps_if (pt_cmpR op_ne (pv 4) (pv 5) (nomark _))
            (pss_cons (ps_asg (pe_ix ix_list (pv 2) (pv 5) (fun _ _ => rfl)) (pg_tup rfl (pgs_cons (pg_name (i := 10) nd rfl (Or.inl rfl)) (pgs_cons (pg_name (i := 11) nd rfl (Or.inl rfl)) pgs_nil))))
              (pss_one (ps_set (i := 9) nd rfl (Or.inl rfl) (pe_lst (pa_cons (pe_tup (pa_cons (pv 7) (pa_cons (pv 6) pa_nil))) (pa_cons (pe_tup (pa_cons (pv 8) (pa_cons (pe_op op_add (pv 6) pe_int) pa_nil))) (pa_cons (pe_tup (pa_cons (pv 10) (pa_cons (pe_op op_add (pv 6) pe_int) pa_nil))) (pa_cons (pe_tup (pa_cons (pv 11) (pa_cons (pe_op op_add (pv 6) pe_int) pa_nil))) pa_nil))))))))
            pss_nil)
        (pss_one (ps_set (i := 2) nd rfl (Or.inl rfl) (pe_op op_cat (pe_lc (own := [("k", 12), ("line", 13)]) (g := gTup K 2 (gCons (gName 12) (gCons (gName 13) gNil))) (tt := tTest (tOp (rIn K true) (tVar 12) (tTup (tCons (tVar 4) (tCons (tVar 5) tNil))))) rfl nd (pi_enum (by rfl) T.enumerate (pa_cons (pv 2) pa_nil)) (blkOk_by (N := nGrown) (sc := defScope sGrown) (by decide +kernel))
            (fun _ _ _ _ _ => pg_tup rfl (pgs_cons (pg_name (i := 12) nd rfl (Or.inl rfl)) (pgs_cons (pg_name (i := 13) nd rfl (Or.inl rfl)) pgs_nil)))
            (fun _ _ _ _ _ => pts_one (pt_cmpR op_notIn_seq (pv 12) (pe_tup (pa_cons (pv 4) (pa_cons (pv 5) pa_nil))) (by rfl))) (fun _ _ _ _ _ => pv 13)) (pv 9)))))))))
      (pss_one (ps_ret (pv 2)))), ?_⟩
    refine ⟨fun v H1 => ∃ (L : Addr) (as : List Addr) (ps : List (Nat × Nat)), v = .ref L ∧ MS H1 p c (n + 1) ∧ Ext p H H1 ∧ H1 L = some (.lst (refs as)) ∧ PL H1 as ps ∧ Grown 1 ps, ?_, ?_⟩
    · refine ⟨two_le, fun t1 ht1 => ⟨two_le, fun u1 hu1 => ⟨two_le, fun l1 hl1 => ?_⟩⟩⟩
      obtain ⟨H1, eH1, s1, a1, b1, c1⟩ := made_two ht1 hu1 hl1
      rw [← eH1]
      refine ⟨two_le, fun t2 ht2 => ⟨two_le, fun u2 hu2 => ⟨two_le, fun l2 hl2 => ?_⟩⟩⟩
      obtain ⟨H2, eH2, s2, a2, b2, c2⟩ := made_two ht2 hu2 hl2
      rw [← eH2]
      refine ⟨two_le, fun t3 ht3 => ⟨two_le, fun u3 hu3 => ⟨two_le, fun l3 hl3 => ?_⟩⟩⟩
      obtain ⟨H3, eH3, s3, a3, b3, c3⟩ := made_two ht3 hu3 hl3
      rw [← eH3]
      refine ⟨by show 3 ≤ sizeLine; decide, fun l hl => ?_⟩
      have s4 := Same.new (o := .lst [.ref l1, .ref l2, .ref l3]) hl
      have M4 := M.keep (s1.trans (s2.trans (s3.trans s4)))
      refine ⟨_, rfl, p, c, n, 3, rfl, M4, by omega, by decide, by decide, fun H' r M' B r0 r3 => ?_⟩
      have npl : l ≠ p := fun z => by
        obtain ⟨o, ho⟩ := M.there
        have := (s1.trans (s2.trans s3)) _ _ ho
        rw [← z, hl] at this
        cases this
      have e' : Ext p H H' := (Ext.same (s1.trans (s2.trans (s3.trans s4)))).trans B.ext
      have hL' : H' l = some (.lst [.ref l1, .ref l2, .ref l3]) := (B l npl).trans upd_same
      have keepT : ∀ b xs, H3 b = some (.tup xs) → H' b = some (.tup xs) := fun b xs h => tupK M4 B.ext b xs (s4 _ _ h)
      have keepL : ∀ b xs, H3 b = some (.lst xs) → H' b = some (.lst xs) := fun b xs h => (B b fun z => by
        obtain ⟨cells, a, l0, x, q, _⟩ := (M.keep (s1.trans (s2.trans s3))).ex
        rw [z, q] at h
        cases h).trans (s4 _ _ h)
      have r012 : r = 0 ∨ r = 1 ∨ r = 2 := by omega
      rcases r012 with rfl | rfl | rfl
      · exact ⟨l, _, _, _, rfl, rfl, SqL.of hL', rfl, l1, [t1, u1], [(0, 1), (2, 3)], rfl, M', e', keepL _ _ (s3 _ _ (s2 _ _ a1)), .cons (keepT _ _ (s3 _ _ (s2 _ _ b1))) (.cons (keepT _ _ (s3 _ _ (s2 _ _ c1))) .nil), grown_one (by decide)⟩
      · exact ⟨l, _, _, _, rfl, rfl, SqL.of hL', rfl, l2, [t2, u2], [(0, 2), (1, 3)], rfl, M', e', keepL _ _ (s3 _ _ a2), .cons (keepT _ _ (s3 _ _ b2)) (.cons (keepT _ _ (s3 _ _ c2)) .nil), grown_one (by decide)⟩
      · exact ⟨l, _, _, _, rfl, rfl, SqL.of hL', rfl, l3, [t3, u3], [(0, 3), (1, 2)], rfl, M', e', keepL _ _ a3, .cons (keepT _ _ b3) (.cons (keepT _ _ c3) .nil), grown_one (by decide)⟩
    · rintro v H1 ⟨L, as, ps, rfl, M1, e1, hL, hP, G⟩
      refine ⟨_, rfl, 1, many, rfl, ⟨by decide, by decide, by omega, by omega⟩, ?_⟩
      refine for_range (lo := 1) (n := ((many : Int) - 1).toNat) (fun i σ H' => ∃ (L : Addr) (as : List Addr) (ps : List (Nat × Nat)) (v3 v4 v5 v6 v7 v8 v9 v10 v11 : Option V), σ = [some (.ref p), some (.int (many : Nat)), some (.ref L), v3, v4, v5, v6, v7, v8, v9, v10, v11, none, none] ∧
        MS H' p c (n + 1 + 2 * i) ∧ Ext p H H' ∧ H' L = some (.lst (refs as)) ∧ PL H' as ps ∧ Grown (1 + i) ps)
        ⟨L, as, ps, none, none, none, none, none, none, none, none, none, rfl, M1, e1, hL, hP, G⟩ ?_ ?_
      · rintro i σ H' hi ⟨L, as, ps, v3, v4, v5, v6, v7, v8, v9, v10, v11, rfl, M', e', hL', hP', G'⟩
        have hlen : as.length = 2 * (1 + i) := by rw [hP'.len, G'.lines.len]
        have hrl : ((refs as).length : Nat) = 2 * (1 + i) := by rw [List.length_map, hlen]
        have nLp := M'.neL hL'
        refine ⟨_, rfl, _, rfl, L, _, rfl, .inl (SqL.of hL'), p, c, _, _, rfl, M', by omega, by omega, by omega, fun H1 r1 M1 B1 r10 r11 => ?_⟩
        have hL1 : H1 L = some (.lst (refs as)) := (B1 L nLp).trans hL'
        refine ⟨_, rfl, _, rfl, L, _, rfl, .inl (SqL.of hL1), p, c, _, _, rfl, M1, by omega, by omega, by omega, fun H2 r2 M2 B2 r20 r21 => ?_⟩
        have hL2 : H2 L = some (.lst (refs as)) := (B2 L nLp).trans hL1
        have hP2 : PL H2 as ps := hP'.mono fun b xs h => tupK M1 B2.ext b xs (tupK M' B1.ext b xs h)
        have e2 : Ext p H H2 := e'.trans (B1.ext.trans B2.ext)
        obtain ⟨j1, rfl⟩ : ∃ j : Nat, r1 = (j : Nat) := ⟨r1.toNat, by omega⟩
        obtain ⟨j2, rfl⟩ : ∃ j : Nat, r2 = (j : Nat) := ⟨r2.toNat, by omega⟩
        refine ⟨_, rfl, _, _, rfl, rfl, .inl ⟨by decide, by decide⟩, (by show 3 ≤ sizeLine; decide), fun t ht => ?_⟩
        have s3 := Same.new (o := .tup [V.int (j1 : Nat), V.int (j2 : Nat), V.int (4 * (1 + (i : Nat)))]) ht
        have M3 := M2.keep s3
        have hL3 := s3 _ _ hL2
        have hP3 := hP2.mono (sameT s3)
        have h1 : j1 < ps.length := by rw [← hP'.len]; omega
        have h2 : j2 < ps.length := by rw [← hP'.len]; omega
        obtain ⟨A1, hA1⟩ : ∃ a, ps[j1]? = some a := ⟨_, List.getElem?_eq_getElem h1⟩
        obtain ⟨B1', hB1⟩ : ∃ a, ps[j2]? = some a := ⟨_, List.getElem?_eq_getElem h2⟩
        obtain ⟨a1, ha1, pa1⟩ := hP3.get hA1
        refine ⟨t, _, rfl, SqT.of upd_same, rfl, _, _, rfl, _, _, rfl, _, _, rfl, rfl, ?_⟩
        refine ⟨_, rfl, _, rfl, L, _, _, _, rfl, rfl, SqL.of hL3, ref_at ha1, a1, _, rfl, SqT.of pa1, rfl, _, _, rfl, _, _, rfl, rfl, ?_⟩
        refine ⟨_, rfl, _, rfl, two_le, fun t1 ht1 => ⟨_, rfl, _, _, rfl, rfl, _, rfl, _, _, rfl, rfl, two_le, fun t2 ht2 => ⟨_, rfl, _, rfl, _, _, rfl, rfl, two_le, fun t3 ht3 => ⟨(by show 3 ≤ sizeLine; decide), fun l9 hl9 => ?_⟩⟩⟩⟩
        have u1 := Same.new (o := .tup [V.int (A1.1 : Nat), V.int (4 * (1 + (i : Nat)))]) ht1
        have u2 := Same.new (o := .tup [V.int (4 * (1 + (i : Nat)) + 1), V.int (4 * (1 + (i : Nat)) + 2)]) ht2
        have u3 := Same.new (o := .tup [V.int (A1.2 : Nat), V.int (4 * (1 + (i : Nat)) + 3)]) ht3
        have u9 := Same.new (o := .lst [V.ref t1, V.ref t2, V.ref t3]) hl9
        have uA := u1.trans (u2.trans (u3.trans u9))
        refine ⟨fun σ H5 => ∃ (l : Addr) (fa : List Addr) (v10 v11 : Option V), σ = [some (.ref p), some (.int (many : Nat)), some (.ref L), some (.int (1 + (i : Nat))), some (.int (j1 : Nat)), some (.int (j2 : Nat)), some (.int (4 * (1 + (i : Nat)))), some (.int (A1.1 : Nat)), some (.int (A1.2 : Nat)), some (.ref l), v10, v11, none, none] ∧
          MS H5 p c (n + 1 + 2 * i + 1 + 1) ∧ Ext p H H5 ∧ H5 L = some (.lst (refs as)) ∧ PL H5 as ps ∧ H5 l = some (.lst (refs fa)) ∧ PL H5 fa (fresh (1 + i) j1 j2 A1 B1'), ?_, ?_⟩
        · refine ⟨_, rfl, _, rfl, rfl, _, rfl, ?_⟩
          have M5 := M3.keep uA
          have e5 : Ext p H _ := e2.trans (Ext.same (s3.trans uA))
          have hL5 := uA _ _ hL3
          have hP5 := hP3.mono (sameT uA)
          refine ite2 (fun hne => ?_) (fun heq => ?_)
          · have hj : j1 ≠ j2 := fun z => by
              subst z
              simp at hne
            obtain ⟨b1, hb1, pb1⟩ := hP5.get hB1
            refine ⟨_, rfl, _, rfl, L, _, _, _, rfl, rfl, SqL.of hL5, ref_at hb1, b1, _, rfl, SqT.of pb1, rfl, _, _, rfl, _, _, rfl, rfl, ?_⟩
            refine ⟨_, rfl, _, rfl, two_le, fun t4 ht4 => ⟨_, rfl, _, rfl, _, _, rfl, rfl, two_le, fun t5 ht5 => ⟨_, rfl, _, rfl, _, _, rfl, rfl, two_le, fun t6 ht6 => ⟨_, rfl, _, rfl, _, _, rfl, rfl, two_le, fun t7 ht7 => ⟨(by show 4 ≤ sizeLine; decide), fun l8 hl8 => ?_⟩⟩⟩⟩⟩
            have w4 := Same.new (o := .tup [V.int (A1.1 : Nat), V.int (4 * (1 + (i : Nat)))]) ht4
            have w5 := Same.new (o := .tup [V.int (A1.2 : Nat), V.int (4 * (1 + (i : Nat)) + 2)]) ht5
            have w6 := Same.new (o := .tup [V.int (B1'.1 : Nat), V.int (4 * (1 + (i : Nat)) + 1)]) ht6
            have w7 := Same.new (o := .tup [V.int (B1'.2 : Nat), V.int (4 * (1 + (i : Nat)) + 3)]) ht7
            have w8 := Same.new (o := .lst [V.ref t4, V.ref t5, V.ref t6, V.ref t7]) hl8
            have wA := w4.trans (w5.trans (w6.trans (w7.trans w8)))
            refine ⟨l8, [t4, t5, t6, t7], _, _, rfl, M5.keep wA, e5.trans (Ext.same wA), wA _ _ hL5, hP5.mono (sameT wA), upd_same, ?_⟩
            unfold fresh
            rw [if_neg hj]
            exact .cons (PAt.of (w8 _ _ (w7 _ _ (w6 _ _ (w5 _ _ upd_same)))) rfl (by omega)) (.cons (PAt.of (w8 _ _ (w7 _ _ (w6 _ _ upd_same))) rfl (by omega)) (.cons (PAt.of (w8 _ _ (w7 _ _ upd_same)) rfl (by omega)) (.cons (PAt.of (w8 _ _ upd_same) rfl (by omega)) .nil)))
          · have hj : j1 = j2 := by
              have q : (j1 : Int) = (j2 : Int) := by simpa using heq
              omega
            refine ⟨l9, [t1, t2, t3], _, _, rfl, M5, e5, hL5, hP5, upd_same, ?_⟩
            unfold fresh
            rw [if_pos hj]
            exact .cons (PAt.of (u9 _ _ (u3 _ _ (u2 _ _ upd_same))) rfl (by omega)) (.cons (PAt.of (u9 _ _ (u3 _ _ upd_same)) (by omega) (by omega)) (.cons (PAt.of (u9 _ _ upd_same) rfl (by omega)) .nil))
        · rintro σ H5 ⟨l, fa, v10, v11, rfl, M5, e5, hL5, hP5, hl5, hF5⟩
          refine ⟨_, rfl, L, _, rfl, SqL.of hL5, fun D hD => ?_⟩
          have sD := Same.new (o := .lst []) hD
          refine lc_it (walk_enum (K := K) (a := L) (xs := refs as)) (fun j H6 => H6 D = some (.lst (refs (keepIx (notIJ j1 j2) 0 (as.take j)))) ∧ Same H5 H6) ⟨upd_same, sD⟩ (fun j H6 _ h => SqL.of (h.2 _ _ hL5)) ?_ ?_
          · rintro j x H6 H7 hj ⟨hD6, s6⟩ ⟨T, x', y', rfl, hT, rfl, ex, ey⟩
            cases ex
            have hj' : j < as.length := by rw [List.length_map] at hj; exact hj
            have ey : (refs as)[j]? = some y' := ey
            rw [List.getElem?_map, List.getElem?_eq_getElem hj'] at ey
            cases ey
            have s7 := Same.new (o := .tup [V.int (j : Nat), V.ref as[j]]) hT
            refine ⟨T, _, rfl, SqT.of upd_same, rfl, _, _, rfl, _, _, rfl, rfl, rfl, ?_⟩
            refine ⟨_, rfl, _, rfl, _, rfl, two_le, fun q hq => ?_⟩
            have s8 := Same.new (o := .tup [V.int (j1 : Nat), V.int (j2 : Nat)]) hq
            refine ⟨q, _, rfl, .inr (SqT.of upd_same), rfl, rfl, _, rfl, ?_⟩
            have hin := in_two j j1 j2
            have hsn : keepIx (notIJ j1 j2) 0 (as.take (j + 1)) = keepIx (notIJ j1 j2) 0 (as.take j) ++ (if notIJ j1 j2 j then [as[j]] else []) := by
              rw [List.take_succ, List.getElem?_eq_getElem hj', Option.toList_some, keepIx_snoc, List.length_take, Nat.zero_add, Nat.min_eq_left (Nat.le_of_lt hj')]
            have hD8 := s8 _ _ (s7 _ _ hD6)
            have s58 : Same H5 _ := s6.trans (s7.trans s8)
            refine ite2 (fun hb => ?_) (fun hb => ?_)
            · have hb : (!inV (V.int (j : Nat)) [V.int (j1 : Nat), V.int (j2 : Nat)]) = true := hb
              rw [hin] at hb
              refine ⟨_, rfl, _, hD8, small1000 ?_, ?_, ?_⟩
              · rw [List.length_map]
                exact Nat.le_trans (keepIx_length_le _ _ _) (by rw [List.length_take]; omega)
              · rw [upd_same, hsn, if_pos hb, refs_app]
                rfl
              · intro b o h
                have nb : b ≠ D := ne_of_none h hD
                rw [upd_ne nb]
                exact s58 _ _ h
            · have hb : ¬ (!inV (V.int (j : Nat)) [V.int (j1 : Nat), V.int (j2 : Nat)]) = true := hb
              rw [hin] at hb
              refine ⟨?_, s58⟩
              rw [hD8, hsn, if_neg hb, List.append_nil]
          · rintro H6 ⟨hD6, s6⟩
            rw [List.length_map, List.take_length] at hD6
            refine ⟨_, rfl, D, l, _, _, rfl, rfl, hD6, s6 _ _ hl5, Nat.le_of_lt (small1000 ?_), fun L2 hL2 => ?_⟩
            · have q1 := keepIx_length_le (notIJ j1 j2) 0 as
              have q2 := hF5.len
              rw [List.length_map, List.length_map, q2]
              unfold fresh
              split <;> simp <;> omega
            have s9 := Same.new (o := .lst (refs (keepIx (notIJ j1 j2) 0 as) ++ refs fa)) hL2
            have sA := s6.trans s9
            refine ⟨L2, keepIx (notIJ j1 j2) 0 as ++ fa, _, _, _, _, _, _, _, _, _, _, rfl, (M5.keep sA).lt (by omega) (by omega), e5.trans (Ext.same sA), ?_, ((hP5.mono (sameT sA)).keep _ 0).app (hF5.mono (sameT sA)), ?_⟩
            · rw [upd_same, refs_app]
            · rw [show 1 + (i + 1) = (1 + i) + 1 by omega]
              exact G'.put hA1 hB1
      · rintro σ H' ⟨L, as, ps, v3, v4, v5, v6, v7, v8, v9, v10, v11, rfl, M', e', hL', hP', G'⟩
        refine ⟨_, rfl, ?_⟩
        have en : 1 + ((many : Int) - 1).toNat = many := by omega
        rw [en] at G'
        exact k _ L as ps (M'.lt (by omega) (by omega)) e' hL' hP' G'
end
end One
end P_D6

section P_D7
set_option linter.all false
set_option maxRecDepth 100000
set_option maxHeartbeats 4000000
namespace One
open PySem PySem.Spec PyProof.Rows L2
abbrev sCalled : Stmt := top 29
abbrev nCalled : List Str := ["m", "many", "left", "found", "k", "crossing", "places", "j"]
theorem scCalled : FnScope nCalled ["m", "many"] (defScope sCalled) := ⟨rfl, rfl, rfl, by decide +kernel, rfl, by decide +kernel, by decide +kernel⟩
abbrev nats (ns : List Nat) : List V := ns.map fun x => V.int (x : Nat)
theorem nats_app (a b : List Nat) : nats (a ++ b) = nats a ++ nats b := List.map_append
theorem nats_at {ns : List Nat} {i x : Nat} (h : ns[i]? = some x) : (nats ns)[i]? = some (V.int (x : Nat)) := by rw [List.getElem?_map, h]; rfl
theorem nats_erase : ∀ (ns : List Nat) (k : Nat), (nats ns).eraseIdx k = nats (ns.eraseIdx k)
  | [], _ => rfl
  | x :: r, 0 => rfl
  | x :: r, k + 1 => by
    show V.int (x : Nat) :: (nats r).eraseIdx k = V.int (x : Nat) :: nats (r.eraseIdx k)
    rw [nats_erase r k]
theorem nats_range (n : Nat) : rgV 0 (n : Nat) = nats (List.range n) := by
  unfold rgV
  have e : (((n : Nat) : Int) - 0).toNat = n := by omega
  rw [e]
  refine List.map_congr_left fun x _ => ?_
  rw [Int.zero_add]
theorem seq_ix {j n : Nat} (h : j < n) : seqIndex? ((j : Nat) : Int) n = some j := by
  unfold seqIndex?
  simp
  omega
theorem erase_perm : ∀ {l : List Nat} {k x : Nat}, l[k]? = some x → l.Perm (x :: l.eraseIdx k)
  | [], k, x, h => by simp at h
  | y :: r, 0, x, h => by
    have e : y = x := Option.some.inj h
    subst e
    exact .refl _
  | y :: r, k + 1, x, h => (List.Perm.cons y (erase_perm (l := r) (k := k) (by simpa using h))).trans (.swap _ _ _)
theorem MS.cAt {H : Hp} {p c : Addr} {n : Nat} (M : MS H p c n) : ∃ o, H c = some o := by
  obtain ⟨cells, a, l, x, _, h2, _⟩ := M.ex
  exact ⟨_, h2⟩
theorem MS.wr {H : Hp} {p c q : Addr} {n : Nat} {o : HO} (M : MS H p c n) (h1 : q ≠ p) (h2 : q ≠ c) : MS (upd H q o) p c n := by
  obtain ⟨cells, a, l, x, q1, q2, r⟩ := M.ex
  exact ⟨⟨cells, a, l, x, by rw [upd_ne (Ne.symm h1)]; exact q1, by rw [upd_ne (Ne.symm h2)]; exact q2, r⟩, M.nn⟩
theorem Ext.wr {p q : Addr} {H H' : Hp} {o : HO} (e : Ext p H H') (h : H q = none) : Ext p H (upd H' q o) := fun b u hb hu => by
  rw [upd_ne (ne_of_none hu h)]
  exact e b u hb hu
theorem Ext.free {p q : Addr} {H H' : Hp} (e : Ext p H H') (hq : q ≠ p) (h : H' q = none) : H q = none := by
  cases z : H q with
  | none => rfl
  | some o =>
    rw [e q o hq z] at h
    cases h
theorem yes {σ : L2.St} {H : Hp} {A B : Hp → Prop} (h : A H) : tYes σ H (fun b H3 => if b = true then A H3 else B H3) := by
  show if true = true then A H else B H
  rw [if_pos rfl]
  exact h
def rLen (K : PySem.W.Frag) : List V → Hp → VK → Prop := fun xs H Q => ∃ p ys, xs = [.ref p] ∧ (SqL K H p ys ∨ SqT K H p ys) ∧ Q (.int ys.length) H
def spCalled : Sp := fun vs H Q _ => ∃ (p c : Addr) (n many : Nat), vs = [.ref p, .int (many : Nat)] ∧ MS H p c n ∧ n ≤ 900000 ∧ many ≤ 40 ∧
  ∀ (H' : Hp) (L : Addr) (ns : List Nat), MS H' p c (n + 5 * many) → Ext p H H' → H' L = some (.lst (nats ns)) → Called many ns → Q (.ref L) H'
section
variable {P : Program} {w : World} {K : PySem.W.Frag} {mg : Str → Option Value} {base : Heap}
theorem ok_called {f fD : Addr} {fd fdD : FuncData} (F : Fun K "_law_called" "_law_called" sCalled f fd) (T : TB mg) (D : Cal K mg "_law_draw" fD fdD ["m", "many"])
    (GD : FnOk P w K mg base CX0 1 fD fdD ["m", "many"] spDraw) : FnOk P w K mg base CX0 2 f fd ["m", "many"] spCalled := by
  refine F.ok scCalled (fun vs H Q E h => ?_) (fun cdv A outer s H vs Q E hr h => ?_)
  · obtain ⟨p, c, n, many, rfl, _⟩ := h
    rfl
  · obtain ⟨p, c, n, many, rfl, M, hn, h40, k⟩ := h
    have nd := scCalled.nd
    refine ⟨_, pss_cons (ps_par (i := 2) (j := 3) (by rfl) nd rfl rfl (by decide) rfl rfl (pa_cons (pe_listRg (by rfl) (by rfl) T.list (prg_1 (by rfl) T.range (pv 1))) (pa_cons (pe_lst pa_nil) pa_nil)) (by rfl))
      (pss_cons (ps_for PassesOwn.never rfl (pi_range1 (by rfl) T.range (pa_cons (pv 1) pa_nil)) (pg_name (i := 4) nd rfl (Or.inl rfl))
        (pss_cons (ps_asg (pe_tup (pa_cons (pe_bm PySem.F.plainAttrs_list PySem.F.slot_list_pop PySem.F.type_list_pop mt_popAt (pv 2) (pa_cons (pe_call GD hr rfl D.g D.kp D.b .nil pass0 (pa_cons (pv 0) (pa_cons (pe_callB call_len_seq (by rfl) T.len PySem.boot_len (pa_cons (pv 2) pa_nil)) pa_nil))) pa_nil))
            (pa_cons (pe_lst (pa_cons pe_int (pa_cons pe_int (pa_cons pe_int (pa_cons pe_int pa_nil))))) pa_nil))) (pg_tup rfl (pgs_cons (pg_name (i := 5) nd rfl (Or.inr rfl)) (pgs_cons (pg_name (i := 6) nd rfl (Or.inr rfl)) pgs_nil))))
        (pss_one (ps_set (i := 3) nd rfl (Or.inl rfl) (pe_op op_cat (pv 3) (pe_lc (own := [("j", 7)]) (g := gName 7) (tt := tYes) (te := tOp (rI0 fun i j => .int (i + j)) (tOp (rI CMul fun i j => .int (i * j)) (tC (.int 4)) (tVar 5)) (tBM K "list" rPopAt (tVar 6) (tCons (tCall spDraw [] E0 (tCons (tVar 0) (tCons (tCB (rLen K) (tCons (tVar 6) tNil)) tNil))) tNil))) rfl nd (pi_range1 (by rfl) T.range (pa_cons pe_int pa_nil)) (blkOk_by (N := nCalled) (sc := defScope sCalled) (by decide +kernel))
            (fun _ _ _ _ _ => pg_name (i := 7) nd rfl (Or.inl rfl)) (fun _ _ _ _ _ => pts_nil)
            (fun _ _ _ _ _ => pe_op op_add (pe_op op_mul pe_int (pv 5)) (by exact (pe_bm PySem.F.plainAttrs_list PySem.F.slot_list_pop PySem.F.type_list_pop mt_popAt (pv 6) (pa_cons (by exact (pe_call GD hr rfl D.g D.kp D.b .nil pass0 (pa_cons (pv 0) (pa_cons (pe_callB call_len_seq (by rfl) T.len PySem.boot_len (pa_cons (pv 6) pa_nil)) pa_nil)))) pa_nil))))))))))
      (pss_one (ps_ret (pv 3)))), ?_⟩
    refine ⟨_, rfl, many, rfl, RgOk.of_le (Int.le_refl _) (by omega) (by omega) (by omega), fun lf hlf => ⟨Nat.zero_le _, fun fo hfo => ⟨_, _, rfl, ?_⟩⟩⟩
    rw [nats_range] at hfo ⊢
    have s1 := Same.new (o := .lst (nats (List.range many))) hlf
    have s2 := Same.new (o := .lst []) hfo
    refine ⟨_, rfl, many, rfl, by omega, by omega, ?_⟩
    refine for_range (lo := 0) (n := (many : Int).toNat) (fun i σ H' => ∃ (fo : Addr) (left : List Nat) (bl : List (Nat × List Nat)) (v4 v5 v6 : Option V), σ = [some (.ref p), some (.int (many : Nat)), some (.ref lf), some (.ref fo), v4, v5, v6, none] ∧
      MS H' p c (n + 5 * i) ∧ Ext p H H' ∧ H' lf = some (.lst (nats left)) ∧ H' fo = some (.lst (nats (blocks bl))) ∧ (bl.map Prod.fst ++ left).Perm (List.range many) ∧ (∀ b ∈ bl, b.2.Perm [0, 1, 2, 3]) ∧ bl.length = i ∧ fo ≠ lf)
      ⟨fo, List.range many, [], none, none, none, rfl, (M.keep s1).keep s2, Ext.same (s1.trans s2), s2 _ _ upd_same, upd_same, .refl _, fun b hb => absurd hb (by simp), rfl, (ne_of_none upd_same hfo).symm⟩ ?_ ?_
    · rintro i σ H' hi ⟨fo, left, bl, v4, v5, v6, rfl, M', e', hl', hf', hp, hb, hlen, nfl⟩
      have hll : left.length + i = many := by
        have := hp.length_eq
        rw [List.length_append, List.length_map, List.length_range] at this
        omega
      have hi' : i < many := by omega
      have nlp := M'.neL hl'
      have nfp := M'.neL hf'
      have nl : ((nats left).length : Nat) = left.length := List.length_map _
      refine ⟨_, rfl, .inl ⟨rfl, _, SqL.of hl'⟩, _, rfl, _, rfl, lf, _, rfl, .inl (SqL.of hl'), p, c, _, _, rfl, M', by omega, by omega, by omega, fun H1 r1 M1 B1 r10 r11 => ?_⟩
      obtain ⟨j, rfl⟩ : ∃ j : Nat, r1 = (j : Nat) := ⟨r1.toNat, by omega⟩
      have hj : j < left.length := by omega
      obtain ⟨cr, hcr⟩ : ∃ x, left[j]? = some x := ⟨_, List.getElem?_eq_getElem hj⟩
      have hl1 : H1 lf = some (.lst (nats left)) := (B1 lf nlp).trans hl'
      refine ⟨lf, _, _, j, _, rfl, rfl, hl1, by omega, by omega, (by rw [nl]; exact seq_ix hj), nats_at hcr, ?_⟩
      rw [nats_erase]
      have hp0 : ∃ o, H p = some o := M.there
      have nlc : lf ≠ c := by
        obtain ⟨o, ho⟩ := M.cAt
        exact (ne_of_none ho hlf).symm
      have M2 := M1.wr (o := .lst (nats (left.eraseIdx j))) nlp nlc
      have e1 : Ext p H H1 := e'.trans B1.ext
      have e2 : Ext p H (upd H1 lf (.lst (nats (left.eraseIdx j)))) := e1.wr hlf
      have hf2 : (upd H1 lf (.lst (nats (left.eraseIdx j)))) fo = some (.lst (nats (blocks bl))) := by
        rw [upd_ne nfl]
        exact (B1 fo nfp).trans hf'
      refine ⟨by show 4 ≤ sizeLine; decide, fun pl hpl => ⟨two_le, fun t ht => ?_⟩⟩
      have s3 := Same.new (o := .lst [V.int 0, V.int 1, V.int 2, V.int 3]) hpl
      have s4 := Same.new (o := .tup [V.int (cr : Nat), V.ref pl]) ht
      have M4 := (M2.keep s3).keep s4
      refine ⟨t, _, rfl, SqT.of upd_same, rfl, _, _, rfl, _, _, rfl, rfl, ?_⟩
      refine ⟨_, rfl, 4, rfl, by decide, by decide, fun D hD => ?_⟩
      have s5 := Same.new (o := .lst []) hD
      have M5 := M4.keep s5
      have nplp : pl ≠ p := by
        obtain ⟨o, ho⟩ := M2.there
        exact (ne_of_none ho hpl).symm
      have nplc : pl ≠ c := by
        obtain ⟨o, ho⟩ := M2.cAt
        exact (ne_of_none ho hpl).symm
      have hpl0 : H pl = none := e2.free nplp hpl
      have nDp : D ≠ p := by
        obtain ⟨o, ho⟩ := M4.there
        exact (ne_of_none ho hD).symm
      have nDc : D ≠ c := by
        obtain ⟨o, ho⟩ := M4.cAt
        exact (ne_of_none ho hD).symm
      have hDpl : pl ≠ D := ne_of_none (s4 _ _ upd_same) hD
      have hD0 : H D = none := (e2.trans (Ext.same (s3.trans s4))).free nDp hD
      have hlD : lf ≠ D := ne_of_none (s4 _ _ (s3 _ _ upd_same)) hD
      have hfD : fo ≠ D := ne_of_none (s4 _ _ (s3 _ _ hf2)) hD
      have hlpl : lf ≠ pl := ne_of_none upd_same hpl
      have hfpl : fo ≠ pl := ne_of_none hf2 hpl
      refine lc_it (walk_range (lo := 0) (n := (4 : Int).toNat)) (fun jj H6 => ∃ done rest : List Nat, H6 D = some (.lst (nats (done.map (4 * cr + ·)))) ∧ H6 pl = some (.lst (nats rest)) ∧ (done ++ rest).Perm [0, 1, 2, 3] ∧ done.length = jj ∧
          MS H6 p c (n + 5 * i + 1 + jj) ∧ Ext p H H6 ∧ H6 lf = some (.lst (nats (left.eraseIdx j))) ∧ H6 fo = some (.lst (nats (blocks bl))))
        ⟨[], [0, 1, 2, 3], upd_same, s5 _ _ (s4 _ _ upd_same), .refl _, rfl, M5, (e2.trans (Ext.same (s3.trans s4))).trans (Ext.same s5), s5 _ _ (s4 _ _ (s3 _ _ upd_same)), s5 _ _ (s4 _ _ (s3 _ _ hf2))⟩ (fun _ _ _ _ => trivial) ?_ ?_
      · rintro jj x H6 H7 hjj ⟨done, rest, hD6, hp6, hperm, hdl, M6, e6, hl6, hf6⟩ ⟨rfl, rfl⟩
        have hr4 : rest.length + jj = 4 := by
          have := hperm.length_eq
          rw [List.length_append] at this
          simp at this
          omega
        have hjj4 : jj < 4 := hjj
        have nrl : ((nats rest).length : Nat) = rest.length := List.length_map _
        refine ⟨rfl, yes ?_⟩
        refine ⟨_, rfl, _, _, rfl, rfl, .inl ⟨by decide, by decide⟩, _, rfl, .inl ⟨rfl, _, SqL.of hp6⟩, _, rfl, _, rfl, pl, _, rfl, .inl (SqL.of hp6), p, c, _, _, rfl, M6, by omega, by omega, by omega, fun H8 r M8 B8 r0 r1 => ?_⟩
        obtain ⟨q, rfl⟩ : ∃ q : Nat, r = (q : Nat) := ⟨r.toNat, by omega⟩
        have hq : q < rest.length := by omega
        obtain ⟨pc, hpc⟩ : ∃ x, rest[q]? = some x := ⟨_, List.getElem?_eq_getElem hq⟩
        have hp8 : H8 pl = some (.lst (nats rest)) := (B8 pl nplp).trans hp6
        have hD8 : H8 D = some (.lst (nats (done.map (4 * cr + ·)))) := (B8 D nDp).trans hD6
        refine ⟨pl, _, _, q, _, rfl, rfl, hp8, by omega, by omega, (by rw [nrl]; exact seq_ix hq), nats_at hpc, ?_⟩
        rw [nats_erase]
        refine ⟨_, _, rfl, rfl, _, (upd_ne (Ne.symm hDpl)).trans hD8, small1000 ?_, done ++ [pc], rest.eraseIdx q, ?_, ?_, ?_, ?_, ?_, ?_, ?_, ?_⟩
        · rw [List.length_map, List.length_map]
          omega
        · rw [upd_same, List.map_append, nats_app]
          have e : ((4 : Int) * (cr : Nat) + (pc : Nat)) = ((4 * cr + pc : Nat) : Int) := by omega
          show some (HO.lst (_ ++ [V.int ((4 : Int) * (cr : Nat) + (pc : Nat))])) = _
          rw [e]
          rfl
        · rw [upd_ne hDpl, upd_same]
        · refine List.Perm.trans ?_ hperm
          rw [List.append_assoc]
          exact List.Perm.append_left _ (erase_perm hpc).symm
        · rw [List.length_append, hdl]
          rfl
        · exact (M8.wr nplp nplc).wr nDp nDc
        · exact ((e6.trans B8.ext).wr hpl0).wr hD0
        · rw [upd_ne hlD, upd_ne hlpl]
          exact (B8 lf nlp).trans hl6
        · rw [upd_ne hfD, upd_ne hfpl]
          exact (B8 fo nfp).trans hf6
      · rintro H6 ⟨done, rest, hD6, hp6, hperm, hdl, M6, e6, hl6, hf6⟩
        have hrest : rest = [] := by
          have := hperm.length_eq
          rw [List.length_append] at this
          simp at this
          have hdl : done.length = 4 := hdl
          exact List.eq_nil_of_length_eq_zero (by omega)
        subst hrest
        rw [List.append_nil] at hperm
        have M6 : MS H6 p c (n + 5 * i + 1 + 4) := M6
        refine ⟨fo, D, _, _, rfl, rfl, hf6, hD6, ?_, fun L2 hL2 => ?_⟩
        · refine Nat.le_of_lt (small1000 ?_)
          have q1 := blocks_len (l := bl) fun b hb' => (hb b hb').length_eq
          have hdl : done.length = 4 := hdl
          rw [List.length_map, List.length_map, List.length_map, q1]
          omega
        have s9 := Same.new (o := .lst (nats (blocks bl) ++ nats (done.map (4 * cr + ·)))) hL2
        refine ⟨L2, left.eraseIdx j, bl ++ [(cr, done)], _, _, _, rfl, (M6.keep s9).lt (by omega) (by omega), e6.trans (Ext.same s9), s9 _ _ hl6, ?_, ?_, ?_, ?_, ?_⟩
        · rw [upd_same, blocks_snoc, nats_app]
        · refine List.Perm.trans ?_ hp
          rw [List.map_append, List.append_assoc]
          exact List.Perm.append_left _ (erase_perm hcr).symm
        · intro b hb'
          rcases List.mem_append.mp hb' with z | z
          · exact hb b z
          · rw [List.mem_singleton.mp z]
            exact hperm
        · rw [List.length_append, hlen]
          rfl
        · exact (ne_of_none hl6 hL2).symm
    · rintro σ H' ⟨fo, left, bl, v4, v5, v6, rfl, M', e', hl', hf', hp, hb, hlen, nfl⟩
      have e0 : (many : Int).toNat = many := by omega
      rw [e0] at M' hlen
      have hll : left = [] := by
        have := hp.length_eq
        rw [List.length_append, List.length_map, List.length_range] at this
        exact List.eq_nil_of_length_eq_zero (by omega)
      subst hll
      rw [List.append_nil] at hp
      exact ⟨_, rfl, k _ fo _ M' e' hf' (called_of_blocks hp hb)⟩
end
end One
end P_D7

section P_D8
set_option linter.all false
set_option maxRecDepth 100000
set_option maxHeartbeats 4000000
namespace One
open PySem PySem.Spec PyProof.Rows L2
/-! ### sorting pairs -/
/-- the pair that stands at an address -/
def keyN (H : Hp) (a : Addr) : Nat × Nat := match H a with
  | some (.tup [.int i, .int j]) => (i.toNat, j.toNat)
  | _ => (0, 0)
theorem keyN_of {H : Hp} {a : Addr} {p : Nat × Nat} (h : PAt H a p) : keyN H a = p := by
  unfold keyN
  rw [show H a = some (.tup [.int (p.1 : Nat), .int (p.2 : Nat)]) from h]
  rfl
theorem PL.keys {H : Hp} {as : List Addr} {ps : List (Nat × Nat)} (h : PL H as ps) : ps = as.map (keyN H) ∧ ∀ a ∈ as, PAt H a (keyN H a) := by
  induction h with
  | nil => exact ⟨rfl, fun a m => absurd m (by simp)⟩
  | cons h1 _ ih =>
    rw [List.map_cons, keyN_of h1]
    refine ⟨by rw [← ih.1], fun a m => ?_⟩
    rcases List.mem_cons.mp m with e | m
    · subst e
      rw [keyN_of h1]
      exact h1
    · exact ih.2 a m
theorem PL.of_keys {H : Hp} : ∀ {as : List Addr}, (∀ a ∈ as, PAt H a (keyN H a)) → PL H as (as.map (keyN H))
  | [], _ => .nil
  | a :: r, h => .cons (h a (List.mem_cons.mpr (.inl rfl))) (PL.of_keys fun b hb => h b (List.mem_cons.mpr (.inr hb)))
def backA : V → Addr
  | .ref a => a
  | _ => 0
theorem refs_of : ∀ {ys : List V}, (∀ y ∈ ys, ∃ a, y = V.ref a) → ys = refs (ys.map backA)
  | [], _ => rfl
  | y :: r, h => by
    obtain ⟨a, rfl⟩ := h y (List.mem_cons.mpr (.inl rfl))
    show V.ref a :: r = V.ref a :: refs (r.map backA)
    rw [← refs_of fun z hz => h z (List.mem_cons.mpr (.inr hz))]
theorem back_refs (as : List Addr) : (refs as).map backA = as := by
  rw [refs, List.map_map]
  exact List.map_id' as
/-- sorted(xs), xs a list of pairs -/
theorem rd_sorted {K : PySem.W.Frag} {H : Hp} {Q : VK} {a : Addr} {as : List Addr} {ps : List (Nat × Nat)} (hs : SqL K H a (refs as)) (hP : PL H as ps)
    (h : ∀ (bs : List Addr) (qs : List (Nat × Nat)) (p : Addr), PL H bs qs → qs.Perm ps → qs.Pairwise leP → H p = none → Q (.ref p) (upd H p (.lst (refs bs)))) : rSortedPO K [.ref a] H Q := by
  obtain ⟨e1, e2⟩ := hP.keys
  refine ⟨a, refs as, fun v => (((keyN H (backA v)).1 : Nat), ((keyN H (backA v)).2 : Nat)), rfl, hs, fun x hx => ?_, fun ys p h1 h2 hp => ?_⟩
  · obtain ⟨b, hb, rfl⟩ := List.mem_map.mp hx
    exact ⟨b, rfl, e2 b hb⟩
  · have hy : ys = refs (ys.map backA) := refs_of fun y m => by
      obtain ⟨b, _, e⟩ := List.mem_map.mp (h2.perm.mem_iff.mp m)
      exact ⟨b, e.symm⟩
    have hb : (ys.map backA).Perm as := by
      have := h2.perm.map backA
      rwa [back_refs] at this
    rw [hy]
    refine h (ys.map backA) ((ys.map backA).map (keyN H)) p (PL.of_keys fun b m => e2 b (hb.mem_iff.mp m)) (by rw [e1]; exact hb.map _) ?_ hp
    rw [List.map_map, List.pairwise_map]
    refine List.Pairwise.imp ?_ h1
    intro x y hxy
    have q := SrtO.lexB_no.mp hxy
    show leP (keyN H (backA x)) (keyN H (backA y))
    unfold leP
    simp only at q
    omega
/-- sorted([x, y]) -/
theorem low_of {x y : Nat} {ns : List Int} (hp : ns.Perm [((x : Nat) : Int), ((y : Nat) : Int)]) (hs : ns.Pairwise (· ≤ ·)) : ns = [(((low x y).1 : Nat) : Int), (((low x y).2 : Nat) : Int)] := by
  have hl := hp.length_eq
  match ns, hl with
  | [a, b], _ =>
    have hab : a ≤ b := by
      have := (List.pairwise_cons.mp hs).1 b (by simp)
      exact this
    have ha := hp.mem_iff (a := a)
    have hb := hp.mem_iff (a := b)
    have c1 := hp.count_eq a
    have c2 := hp.count_eq b
    simp only [List.mem_cons, List.not_mem_nil, or_false, true_or, or_true, true_iff] at ha hb
    unfold low
    rcases ha with rfl | rfl <;> rcases hb with rfl | rfl
    · simp only [List.count_cons, List.count_nil, beq_self_eq_true, if_true] at c1
      by_cases q : ((y : Int) == (x : Int)) = true
      · have : y = x := by
          have z : (y : Int) = (x : Int) := by simpa using q
          omega
        subst this
        split <;> rfl
      · rw [if_neg q] at c1
        omega
    · rw [if_neg (by omega)]
    · by_cases q : y < x
      · rw [if_pos q]
      · have : x = y := by omega
        subst this
        rw [if_neg q]
    · simp only [List.count_cons, List.count_nil, beq_self_eq_true, if_true] at c1
      by_cases q : ((x : Int) == (y : Int)) = true
      · have : x = y := by
          have z : (x : Int) = (y : Int) := by simpa using q
          omega
        subst this
        split <;> rfl
      · rw [if_neg q] at c1
        omega
end One
end P_D8

section P_D9
set_option linter.all false
set_option maxRecDepth 100000
set_option maxHeartbeats 4000000
namespace One
open PySem PySem.Spec PyProof.Rows L2
abbrev sYard : Stmt := top 30
abbrev nYard : List Str := ["m", "most", "many", "lines", "names", "one", "other"]
theorem scYard : FnScope nYard ["m", "most"] (defScope sYard) := ⟨rfl, rfl, rfl, by decide +kernel, rfl, by decide +kernel, by decide +kernel⟩
/-- at t stands a yard of n crossings, a tuple of these pairs -/
def YAt (H : Hp) (t : Addr) (n : Nat) (ps : List (Nat × Nat)) : Prop := Yard n ps ∧ ∃ as : List Addr, H t = some (.tup (refs as)) ∧ PL H as ps
theorem YAt.mono {H H' : Hp} {t : Addr} {n : Nat} {ps : List (Nat × Nat)} (h : YAt H t n ps) (k : ∀ b xs, H b = some (.tup xs) → H' b = some (.tup xs)) : YAt H' t n ps := by
  obtain ⟨y, as, h1, h2⟩ := h
  exact ⟨y, as, k _ _ h1, h2.mono k⟩
def spYard : Sp := fun vs H Q _ => ∃ (p c : Addr) (n most : Nat), vs = [.ref p, .int (most : Nat)] ∧ MS H p c n ∧ n ≤ 800000 ∧ 0 < most ∧ most ≤ 40 ∧
  ∀ (H' : Hp) (t : Addr) (k : Nat) (ps : List (Nat × Nat)), MS H' p c (n + 1 + 7 * most) → Ext p H H' → YAt H' t k ps → k ≤ most → Q (.ref t) H'
section
variable {P : Program} {w : World} {K : PySem.W.Frag} {mg : Str → Option Value} {base : Heap}
theorem ok_yard {f fD fG fC : Addr} {fd fdD fdG fdC : FuncData} (F : Fun K "_law_yard" "_law_yard" sYard f fd) (T : TB mg) (D : Cal K mg "_law_draw" fD fdD ["m", "many"]) (GD : FnOk P w K mg base CX0 1 fD fdD ["m", "many"] spDraw)
    (DG : Cal K mg "_law_grown" fG fdG ["m", "many"]) (GG : FnOk P w K mg base CX0 2 fG fdG ["m", "many"] spGrown) (DC : Cal K mg "_law_called" fC fdC ["m", "many"]) (GC : FnOk P w K mg base CX0 2 fC fdC ["m", "many"] spCalled) :
    FnOk P w K mg base CX0 3 f fd ["m", "most"] spYard := by
  refine F.ok scYard (fun vs H Q E h => ?_) (fun cdv A outer s H vs Q E hr h => ?_)
  · obtain ⟨p, c, n, most, rfl, _⟩ := h
    rfl
  · obtain ⟨p, c, n, most, rfl, M, hn, h0, h40, k⟩ := h
    have nd := scYard.nd
    have hr1 : Room 1 _ := hr.mono (by decide)
    refine ⟨_, pss_cons (ps_set (i := 2) nd rfl (Or.inl rfl) (pe_op op_add pe_int (pe_call GD hr1 rfl D.g D.kp D.b .nil pass0 (pa_cons (pv 0) (pa_cons (pv 1) pa_nil)))))
      (pss_cons (ps_asg (pe_tup (pa_cons (pe_call GG hr rfl DG.g DG.kp DG.b .nil pass0 (pa_cons (pv 0) (pa_cons (pv 2) pa_nil))) (pa_cons (pe_call GC hr rfl DC.g DC.kp DC.b .nil pass0 (pa_cons (pv 0) (pa_cons (pv 2) pa_nil))) pa_nil)))
          (pg_tup rfl (pgs_cons (pg_name (i := 3) nd rfl (Or.inl rfl)) (pgs_cons (pg_name (i := 4) nd rfl (Or.inr rfl)) pgs_nil))))
      (pss_one (ps_ret (pe_tupleOf (by rfl) T.tuple (pe_callB cr_sortedPO (by rfl) T.sorted boot_sorted (pa_cons
          (pe_lc (own := [("one", 5), ("other", 6)]) (g := gTup K 2 (gCons (gName 5) (gCons (gName 6) gNil))) (tt := tYes)
            (te := tThen (tCB (rSorted K) (tCons (tLst (tCons (tOp (rIxL K) (tVar 4) (tVar 5)) (tCons (tOp (rIxL K) (tVar 4) (tVar 6)) tNil))) tNil)) (kTup K)) rfl nd (pi_list (pv 3)) (blkOk_by (N := nYard) (sc := defScope sYard) (by decide +kernel))
            (fun _ _ _ _ _ => pg_tup rfl (pgs_cons (pg_name (i := 5) nd rfl (Or.inl rfl)) (pgs_cons (pg_name (i := 6) nd rfl (Or.inl rfl)) pgs_nil))) (fun _ _ _ _ _ => pts_nil)
            (fun _ _ _ _ _ => pe_tupleOf (by rfl) T.tuple (pe_callB cr_sorted (by rfl) T.sorted boot_sorted (pa_cons (pe_lst (pa_cons (pe_ix ix_list (pv 4) (pv 5) (fun _ _ => rfl)) (pa_cons (pe_ix ix_list (pv 4) (pv 6) (fun _ _ => rfl)) pa_nil))) pa_nil)))) pa_nil)))))), ?_⟩
    refine ⟨_, rfl, _, rfl, p, c, n, _, rfl, M, by omega, by omega, by omega, fun H1 r M1 B1 r0 r1 => ⟨_, _, rfl, rfl, ?_⟩⟩
    obtain ⟨j, rfl⟩ : ∃ j : Nat, r = (j : Nat) := ⟨r.toNat, by omega⟩
    have em : (1 : Int) + (j : Nat) = ((1 + j : Nat) : Int) := by omega
    refine ⟨_, rfl, _, rfl, p, c, _, 1 + j, (by rw [← em]; rfl), M1, by omega, by omega, by omega, fun H2 L as ps M2 e2 hL hP hG => ?_⟩
    refine ⟨_, rfl, _, rfl, p, c, _, 1 + j, (by rw [← em]; rfl), M2, by omega, by omega, fun H3 N ns M3 e3 hN hC => ?_⟩
    refine ⟨two_le, fun t ht => ?_⟩
    have hL3 : H3 L = some (.lst (refs as)) := e3 _ _ (M2.neL hL) hL
    have hP3 := hP.mono (tupK M2 e3)
    have s4 := Same.new (o := .tup [V.ref L, V.ref N]) ht
    have M4 := M3.keep s4
    have hL4 := s4 _ _ hL3
    have hN4 := s4 _ _ hN
    have hP4 := hP3.mono (sameT s4)
    have e4 : Ext p H (upd H3 t (.tup [V.ref L, V.ref N])) := B1.ext.trans (e2.trans (e3.trans (Ext.same s4)))
    refine ⟨t, _, rfl, SqT.of upd_same, rfl, _, _, rfl, _, _, rfl, rfl, ?_⟩
    refine ⟨_, rfl, L, rfl, ⟨_, SqL.of hL4⟩, fun D hD => ?_⟩
    have s5 := Same.new (o := .lst []) hD
    have hlen : as.length = ps.length := hP4.len
    have nl : (refs as).length = as.length := List.length_map _
    refine lc_it (walk_list (K := K) (a := L) (xs := refs as)) (fun i H6 => ∃ bs : List Addr, H6 D = some (.lst (refs bs)) ∧ PL H6 bs ((ps.take i).map (callL ns)) ∧ Same (upd H3 t (.tup [V.ref L, V.ref N])) H6) ⟨[], upd_same, .nil, s5⟩ (fun i H6 _ ⟨bs, h1, h2, h3⟩ => SqL.of (h3 _ _ hL4)) ?_ ?_
    · rintro i x H6 H7 hi ⟨bs, hD6, hB6, s6⟩ ⟨rfl, hx⟩
      have hi' : i < ps.length := by rw [← hlen, ← nl]; exact hi
      obtain ⟨q, hq⟩ : ∃ q, ps[i]? = some q := ⟨_, List.getElem?_eq_getElem hi'⟩
      obtain ⟨a, ha, pa⟩ := hP4.get hq
      rw [List.getElem?_map, ha] at hx
      cases hx
      have q1 : q.1 < 4 * (1 + j) := hG.lines.lt _ (mem_ends.mpr ⟨q, List.mem_of_getElem? hq, .inl rfl⟩)
      have q2 : q.2 < 4 * (1 + j) := hG.lines.lt _ (mem_ends.mpr ⟨q, List.mem_of_getElem? hq, .inr rfl⟩)
      have get : ∀ y, y < 4 * (1 + j) → atI (nats ns) ((y : Nat) : Int) = some (V.int (ns.getD y 0 : Nat)) := fun y hy => by
        have hy' : y < ns.length := by rw [hC.len]; exact hy
        refine at_of (j := y) rfl ?_
        rw [List.getElem?_map, List.getElem?_eq_getElem hy', List.getD_eq_getElem?_getD, List.getElem?_eq_getElem hy']
        rfl
      have hN6 := s6 _ _ hN4
      refine ⟨a, _, rfl, SqT.of (s6 _ _ pa), rfl, _, _, rfl, _, _, rfl, rfl, rfl, yes ?_⟩
      refine ⟨_, rfl, _, rfl, N, _, _, _, rfl, rfl, SqL.of hN6, get _ q1, _, rfl, _, rfl, N, _, _, _, rfl, rfl, SqL.of hN6, get _ q2, two_le, fun l hl => ?_⟩
      have s7 := Same.new (o := .lst [V.int (ns.getD q.1 0 : Nat), V.int (ns.getD q.2 0 : Nat)]) hl
      refine ⟨l, [((ns.getD q.1 0 : Nat) : Int), ((ns.getD q.2 0 : Nat) : Int)], rfl, SqL.of upd_same, (by show 2 < 64; decide), fun ns' l2 hp hs hl2 => ?_⟩
      have s8 := Same.new (o := .lst (ns'.map V.int)) hl2
      have en := low_of hp hs
      subst en
      refine .inl ⟨l2, _, rfl, SqL.of upd_same, fun u hu => ?_⟩
      have s9 := Same.new (o := .tup [V.int ((callL ns q).1 : Nat), V.int ((callL ns q).2 : Nat)]) hu
      have sA := s7.trans (s8.trans s9)
      have hD9 := sA _ _ hD6
      refine ⟨refs bs, hD9, small1000 ?_, bs ++ [u], ?_, ?_, ?_⟩
      · rw [List.length_map, hB6.len, List.length_map, List.length_take]
        have := hG.lines.len
        omega
      · rw [upd_same, refs_app]
        rfl
      · have hne : ∀ b xs, H7 b = some (.tup xs) → (upd _ D (HO.lst (refs bs ++ [V.ref u]))) b = some (.tup xs) := fun b xs h => (upd_ne (ne_of (sA _ _ h) hD9 (by intro z; cases z))).trans (sA _ _ h)
        have hun : u ≠ D := ne_of (upd_same : (upd _ u _) u = _) hD9 (by intro z; cases z)
        rw [List.take_succ, hq, Option.toList_some, List.map_append]
        exact (hB6.mono hne).app (.cons ((upd_ne hun).trans upd_same) .nil)
      · intro b o h
        have nb : b ≠ D := ne_of_none h hD
        rw [upd_ne nb]
        exact sA _ _ (s6 _ _ h)
    · rintro H6 ⟨bs, hD6, hB6, s6⟩
      rw [nl, hlen, List.take_length] at hB6
      show rSortedPO K [V.ref D] H6 (fun x H1 => kTup K x H1 Q)
      refine rd_sorted (SqL.of hD6) hB6 fun cs qs l hC6 hperm hle hl => ?_
      have s7 := Same.new (o := .lst (refs cs)) hl
      refine .inl ⟨l, _, rfl, SqL.of upd_same, fun u hu => ?_⟩
      have s8 := Same.new (o := .tup (refs cs)) hu
      have sA := s6.trans (s7.trans s8)
      exact k _ u (1 + j) qs ((M4.keep sA).lt (by omega) (by omega)) (e4.trans (Ext.same sA)) ⟨called_yard hG hC hperm hle, cs, upd_same, hC6.mono (sameT (s7.trans s8))⟩ (by omega)
end
end One
end P_D9

section P_E1
set_option linter.all false
set_option maxRecDepth 100000
set_option maxHeartbeats 4000000
/-! Ranges with a step as values; what kind a value is. -/
namespace One
open PySem PySem.Spec PyProof.Rows L2
def RngO (a : Addr) (lo hi c : Int) : HO := .ext fun h => ∃ t u v, h.get? a = some { cls := .type "range", data := .fields #[.int lo t, .int hi u, .int c v] }
theorem rng_has (r : Addr) (a b c i : Int) (t u v k : Tok) :
    Meets (Builtin.«range.__contains__» ⟨[.ref r, .int i k], []⟩) (fun _ R s => s.heap.get? r = some ⟨.type "range", none, .fields #[.int a t, .int b u, .int c v], #[]⟩ ∧ R (.ok (.ret (.bool (Builtin.Range.rangePlace? a b c i).isSome))) s) :=
  .of_wp fun prog w A R s h => by
    obtain ⟨hp, g, d, tk, os⟩ := s
    obtain ⟨hl, h⟩ := h
    wp_walk
    exact ⟨_, rfl, h⟩
section
variable {X : Cx}
theorem op_in_rngC : OpR X (compareOp .In) (fun x y H Q => ∃ i a lo hi c, x = V.int i ∧ y = V.ref a ∧ H a = some (RngO a lo hi c) ∧ Q (.bl (Builtin.Range.rangePlace? lo hi c i).isSome) H) := by
  intro pins s σ H x y v u Q I rx ry h
  obtain ⟨i, a, lo, hi, c, rfl, rfl, ha, q⟩ := h
  obtain ⟨k, rfl⟩ := rx
  obtain rfl : u = Value.ref a := ry
  obtain ⟨⟨t1, t2, t3, ho⟩, _, _⟩ := I.hok a _ ha
  refine (show wpAny _ _ (do return Value.bool (← contains (Value.ref a) (Value.int i k))) _ _ s from ?_)
  exact wpAny_bind (wpAny_contains_slot (T := "range") ⟨_, ho, rfl⟩ F.slot_range_contains (call_meets F.slot_range_contains ⟨_, ho, rfl⟩ F.entry_range_contains (F.args_range_contains_2 _ _) (rng_has a lo hi c i t1 t2 t3 k)
    ⟨ho, wpAny_truthy_bool (wpAny_pure ⟨.bl _, H, I, rfl, q⟩)⟩))
theorem cr_range3 : CallR X (.type "range") (fun vs H Q => ∃ i j c, vs = [V.int i, V.int j, V.int c] ∧ (c ≠ 0 ∧ c.natAbs < 1073741824) ∧ ∀ p, H p = none → Q (.ref p) (upd H p (RngO p i j c))) := by
  intro pins s σ H vs us Q I r h
  obtain ⟨i, j, c, rfl, hc, q⟩ := h
  obtain ⟨u1, u2, u3, rfl, ri, rj, rc⟩ : ∃ u1 u2 u3, us = [u1, u2, u3] ∧ RelV (V.int i) u1 ∧ RelV (V.int j) u2 ∧ RelV (V.int c) u3 := by
    cases r with
    | cons p q =>
      cases q with
      | cons p' q' =>
        cases q' with
        | cons p'' q'' =>
          cases q''
          exact ⟨_, _, _, rfl, p, p', p''⟩
  obtain ⟨t, rfl⟩ := ri
  obtain ⟨t2, rfl⟩ := rj
  obtain ⟨t3, rfl⟩ := rc
  have hget : (s.heap.push { cls := .type "range", data := .fields #[.int i t, .int j t2, .int c t3] }).get? s.heap.objs.size = some { cls := .type "range", data := .fields #[.int i t, .int j t2, .int c t3] } := Heap.get?_push_size _ rfl
  refine call_range_3 hc.1 ?_ (.inl (PyProof.noPylong_small hc.2))
  exact ⟨.ref s.heap.objs.size, upd H s.heap.objs.size (RngO s.heap.objs.size i j c), I.laid (t' := s.toks) (fun b o e => Heap.get?_push_of_some _ e) (Nat.le_refl _) ⟨⟨t, t2, t3, hget⟩, ⟨_, hget⟩, fun h1 h2 ⟨a, b, d, e⟩ st => ⟨a, b, d, st _ e⟩⟩, rfl, q _ (I.hok.fresh (Nat.le_refl _))⟩
end
end One
end P_E1

section P_E2
set_option linter.all false
set_option maxRecDepth 100000
set_option maxHeartbeats 4000000
namespace One
open PySem PySem.Spec PyProof.Rows L2
/-! ### what kind a value is -/
inductive TV (H : Hp) : V → String → Prop
  | non : TV H .non "NoneType"
  | bl (b : Bool) : TV H (.bl b) "bool"
  | int (i : Int) : TV H (.int i) "int"
  | str (x : Str) : TV H (.str x) "str"
  | tup {a : Addr} {xs : List V} (e : H a = some (.tup xs)) : TV H (.ref a) "tuple"
  | lst {a : Addr} {xs : List V} (e : H a = some (.lst xs)) : TV H (.ref a) "list"
  | dct {a : Addr} {kvs : List (Key × V)} (e : H a = some (.dK kvs)) : TV H (.ref a) "dict"
theorem TV.tyx {K : PySem.W.Frag} {H : Hp} {v : V} {T : String} (h : TV H v T) : TyX K H v (.type T) := by
  cases h with
  | non => exact .base .non
  | bl b => exact .base (.bl b)
  | int i => exact .base (.int i)
  | str x => exact .base (.str x)
  | tup e => exact .base (.tup e)
  | lst e => exact .base (.lst e)
  | dct e => exact .base (.dK e)
def isI : V → Bool
  | .int _ => true
  | _ => false
def belowV (v : V) (n : Int) : Bool := match v with
  | .int i => decide (0 ≤ i) && decide (i < n)
  | _ => false
theorem nof {p : Prop} (z : false = true) : p := by cases z
theorem noT {p : Prop} (z : true = false) : p := by cases z
theorem TV.kInt {K : PySem.W.Frag} {H : Hp} {v : V} {T : String} (h : TV H v T) : ∃ b, PySem.W.kitOne K (.type T) (.type "int") = some b ∧ (b = true → ∃ b2, PySem.W.kitOne K (.type T) (.type "bool") = some b2 ∧ isI v = !b2) ∧ (b = false → isI v = false) := by
  cases h with
  | non => exact ⟨false, kit_ty (by decide +kernel), nof, fun _ => rfl⟩
  | bl b => exact ⟨true, kit_ty (by decide +kernel), fun _ => ⟨true, kit_ty (by decide +kernel), rfl⟩, noT⟩
  | int i => exact ⟨true, kit_ty (by decide +kernel), fun _ => ⟨false, kit_ty (by decide +kernel), rfl⟩, noT⟩
  | str x => exact ⟨false, kit_ty (by decide +kernel), nof, fun _ => rfl⟩
  | tup e => exact ⟨false, kit_ty (by decide +kernel), nof, fun _ => rfl⟩
  | lst e => exact ⟨false, kit_ty (by decide +kernel), nof, fun _ => rfl⟩
  | dct e => exact ⟨false, kit_ty (by decide +kernel), nof, fun _ => rfl⟩
def isTup (T : String) : Bool := T == "tuple"
theorem TV.kTup {K : PySem.W.Frag} {H : Hp} {v : V} {T : String} (h : TV H v T) : PySem.W.kitOne K (.type T) (.type "tuple") = some (isTup T) := by
  cases h <;> exact kit_ty (by decide +kernel)
/-- the constants of the program's top -/
structure TC (mg : Str → Option Value) : Prop where
  most : ∃ t, mg "MOST_CROSSINGS" = some (.int 40 t)
  places : ∃ t, mg "PLACES" = some (.int 4 t)
abbrev sIsNum : Stmt := top 11
abbrev sIsBelow : Stmt := top 12
abbrev sCanBe : Stmt := top 21
abbrev sIsLine : Stmt := top 22
theorem scIsNum : FnScope ["thing"] ["thing"] (defScope sIsNum) := ⟨rfl, rfl, rfl, by decide +kernel, rfl, by decide +kernel, by decide +kernel⟩
theorem scIsBelow : FnScope ["thing", "many"] ["thing", "many"] (defScope sIsBelow) := ⟨rfl, rfl, rfl, by decide +kernel, rfl, by decide +kernel, by decide +kernel⟩
theorem scCanBe : FnScope ["many"] ["many"] (defScope sCanBe) := ⟨rfl, rfl, rfl, by decide +kernel, rfl, by decide +kernel, by decide +kernel⟩
theorem scIsLine : FnScope ["thing", "many_ends", "low", "high"] ["thing", "many_ends"] (defScope sIsLine) := ⟨rfl, rfl, rfl, by decide +kernel, rfl, by decide +kernel, by decide +kernel⟩
def spIsNum : Sp := fun vs H Q _ => ∃ (v : V) (T : String), vs = [v] ∧ TV H v T ∧ Q (.bl (isI v)) H
def spIsBelow : Sp := fun vs H Q _ => ∃ (v : V) (n : Int) (T : String), vs = [v, .int n] ∧ TV H v T ∧ Q (.bl (belowV v n)) H
/-- as many lines as a yard may have -/
def canBe (n : Int) : Bool := decide (2 ≤ n) && decide (n ≤ 80) && decide (n % 2 = 0)
def spCanBe : Sp := fun vs H Q _ => ∃ n : Int, vs = [.int n] ∧ ∀ H', Same H H' → Q (.bl (canBe n)) H'
section
variable {P : Program} {w : World} {K : PySem.W.Frag} {mg : Str → Option Value} {base : Heap}
theorem ok_isnum {f : Addr} {fd : FuncData} (F : Fun K "is_number" "is_number" sIsNum f fd) (T : TB mg) : FnOk P w K mg base CX0 1 f fd ["thing"] spIsNum := by
  refine F.ok scIsNum (fun vs H Q E h => ?_) (fun cdv A outer s H vs Q E hr h => ?_)
  · obtain ⟨v, _, rfl, _⟩ := h
    rfl
  · obtain ⟨v, ty, rfl, hv, k⟩ := h
    refine ⟨_, pss_one (ps_ret (pe_and (pe_callB call_isi (by rfl) T.isinstance boot_isinstance (pa_cons (pv 0) (pa_cons (pe_bltn (v := .ty "int") (by rfl) T.int PyProof.Rows.boot_int rfl) pa_nil)))
      (pe_one (pe_not (pe_callB call_isi (by rfl) T.isinstance boot_isinstance (pa_cons (pv 0) (pa_cons (pe_bltn (v := .ty "bool") (by rfl) T.bool (by decide +kernel) rfl) pa_nil))))))), ?_⟩
    obtain ⟨b, kb, h1, h2⟩ := hv.kInt (K := K)
    refine ⟨_, rfl, v, _, _, _, b, rfl, .ty _, hv.tyx, kb, b, rfl, ?_⟩
    cases b with
    | true =>
      obtain ⟨b2, kb2, e⟩ := h1 rfl
      refine iteT ⟨_, rfl, v, _, _, _, b2, rfl, .ty _, hv.tyx, kb2, b2, rfl, ?_⟩
      rw [← e]
      exact k
    | false =>
      refine iteF ?_
      rw [h2 rfl] at k
      exact k
theorem ok_isbelow {f fN : Addr} {fd fdN : FuncData} (F : Fun K "is_below" "is_below" sIsBelow f fd) (N : Cal K mg "is_number" fN fdN ["thing"]) (GN : FnOk P w K mg base CX0 1 fN fdN ["thing"] spIsNum) : FnOk P w K mg base CX0 2 f fd ["thing", "many"] spIsBelow := by
  refine F.ok scIsBelow (fun vs H Q E h => ?_) (fun cdv A outer s H vs Q E hr h => ?_)
  · obtain ⟨v, n, _, rfl, _⟩ := h
    rfl
  · obtain ⟨v, n, ty, rfl, hv, k⟩ := h
    refine ⟨_, pss_one (ps_ret (pe_and (pe_call GN hr rfl N.g N.kp N.b .nil pass0 (pa_cons (pv 0) pa_nil)) (pe_one (pe_chain op_le op_lt pe_int (pv 0) (pv 1))))), ?_⟩
    refine ⟨_, rfl, v, ty, rfl, hv, _, rfl, ?_⟩
    cases v with
    | int i =>
      refine iteT ⟨_, rfl, _, _, rfl, rfl, _, rfl, ?_⟩
      by_cases h0 : 0 ≤ i
      · rw [if_pos (decide_eq_true h0)]
        refine ⟨_, rfl, _, _, rfl, rfl, ?_⟩
        have e : belowV (.int i) n = decide (i < n) := by
          show (decide (0 ≤ i) && decide (i < n)) = _
          rw [decide_eq_true h0, Bool.true_and]
        rw [e] at k
        exact k
      · rw [if_neg (by rw [decide_eq_false h0]; decide)]
        have e : belowV (.int i) n = false := by
          show (decide (0 ≤ i) && decide (i < n)) = _
          rw [decide_eq_false h0, Bool.false_and]
        rw [e] at k
        exact k
    | _ => exact iteF k
theorem ok_canbe {f : Addr} {fd : FuncData} (F : Fun K "can_be_many_lines" "can_be_many_lines" sCanBe f fd) (T : TB mg) (C : TC mg) : FnOk P w K mg base CX0 1 f fd ["many"] spCanBe := by
  refine F.ok scCanBe (fun vs H Q E h => ?_) (fun cdv A outer s H vs Q E hr h => ?_)
  · obtain ⟨n, rfl, _⟩ := h
    rfl
  · obtain ⟨n, rfl, k⟩ := h
    obtain ⟨t, ht⟩ := C.most
    refine ⟨_, pss_one (ps_ret (pe_cmpR op_in_rngC (pv 0) (pe_callTy cr_range3 (by rfl) T.range boot_range (pa_cons pe_int (pa_cons (pe_op op_add (pe_op op_mul pe_int (pe_glob (v := .int 40) rfl ht ⟨_, rfl⟩)) pe_int) (pa_cons pe_int pa_nil)))) (by rfl))), ?_⟩
    refine ⟨_, rfl, _, _, rfl, rfl, .inl ⟨by decide, by decide⟩, _, _, rfl, rfl, _, _, _, rfl, ⟨by decide, by decide⟩, fun p hp => ?_⟩
    refine ⟨n, p, _, _, _, rfl, rfl, upd_same, ?_⟩
    have e : (Builtin.Range.rangePlace? 2 (2 * 40 + 1) 2 n).isSome = canBe n := by
      unfold Builtin.Range.rangePlace? canBe
      rw [Bool.eq_iff_iff]
      simp only [show (2 : Int) > 0 from by decide, if_true, Bool.and_eq_true, decide_eq_true_eq, beq_iff_eq]
      constructor
      · intro q
        split at q
        · omega
        · cases q
      · intro q
        rw [if_pos (by omega)]
        rfl
    show Q (.bl (Builtin.Range.rangePlace? 2 (2 * 40 + 1) 2 n).isSome) _
    rw [e]
    exact k _ (Same.new hp)
end
end One
end P_E2

section P_M3
set_option linter.all false
namespace One
/-! ### going to all that is beside -/
def R (r : List Bool) (i : Nat) : Prop := r[i]? = some true
structure Dfs (s n : Nat) (f : Nat → List Nat) (r : List Bool) (w : List Nat) (cur : Nat → Prop) : Prop where
  len : r.length = n
  z : R r s
  wt : ∀ i ∈ w, R r i
  cl : ∀ i, R r i → i ∈ w ∨ cur i ∨ ∀ j ∈ f i, R r j
  so : ∀ P : Nat → Prop, (∀ i j, j ∈ f i → P i → P j) → P s → ∀ i, R r i → P i
theorem R_set {r : List Bool} {i j : Nat} (h : R r i) : R (r.set j true) i := by
  unfold R at *
  by_cases e : j = i
  · subst e
    have : j < r.length := (List.getElem?_eq_some_iff.mp h).1
    rw [List.getElem?_set_self this]
  · rw [List.getElem?_set_ne e]
    exact h
theorem R_new {r : List Bool} {j : Nat} (h : j < r.length) : R (r.set j true) j := by
  unfold R
  rw [List.getElem?_set_self h]
theorem R_back {r : List Bool} {i j : Nat} (h : R (r.set j true) i) : i = j ∨ R r i := by
  unfold R at *
  by_cases e : j = i
  · exact .inl e.symm
  · rw [List.getElem?_set_ne e] at h
    exact .inr h
theorem dfs_start {s n : Nat} (f : Nat → List Nat) (hn : s < n) : Dfs s n f ((List.replicate n false).set s true) [s] (fun _ => False) := by
  have h0 : s < (List.replicate n false).length := by rw [List.length_replicate]; exact hn
  have back : ∀ i, R ((List.replicate n false).set s true) i → i = s := fun i h => by
    rcases R_back h with e | e
    · exact e
    · unfold R at e
      have hi := (List.getElem?_eq_some_iff.mp e).2
      simp at hi
  refine ⟨by simp, R_new h0, fun i hi => ?_, fun i hi => .inl ?_, fun P _ h i hi => ?_⟩
  · rw [List.mem_singleton.mp hi]
    exact R_new h0
  · rw [back i hi]
    exact List.mem_singleton.mpr rfl
  · rw [back i hi]
    exact h
theorem dfs_pop {s n c : Nat} {f : Nat → List Nat} {r : List Bool} {w : List Nat} (d : Dfs s n f r (w ++ [c]) fun _ => False) : Dfs s n f r w (· = c) := by
  refine ⟨d.len, d.z, fun i hi => d.wt i (List.mem_append.mpr (.inl hi)), fun i hi => ?_, d.so⟩
  rcases d.cl i hi with h | h | h
  · rcases List.mem_append.mp h with h | h
    · exact .inl h
    · exact .inr (.inl (List.mem_singleton.mp h))
  · exact h.elim
  · exact .inr (.inr h)
theorem dfs_mark {s n c j : Nat} {f : Nat → List Nat} {r : List Bool} {w : List Nat} (d : Dfs s n f r w (· = c)) (hc : R r c) (hj : j ∈ f c) (hlt : j < n) : Dfs s n f (r.set j true) (w ++ [j]) (· = c) := by
  have hjl : j < r.length := by rw [d.len]; exact hlt
  refine ⟨by rw [List.length_set]; exact d.len, R_set d.z, fun i hi => ?_, fun i hi => ?_, fun P hP h0 i hi => ?_⟩
  · rcases List.mem_append.mp hi with h | h
    · exact R_set (d.wt i h)
    · rw [List.mem_singleton.mp h]
      exact R_new hjl
  · rcases R_back hi with e | h
    · exact .inl (List.mem_append.mpr (.inr (List.mem_singleton.mpr e)))
    · rcases d.cl i h with q | q | q
      · exact .inl (List.mem_append.mpr (.inl q))
      · exact .inr (.inl q)
      · exact .inr (.inr fun k hk => R_set (q k hk))
  · rcases R_back hi with e | h
    · rw [e]
      exact hP c j hj (d.so P hP h0 c hc)
    · exact d.so P hP h0 i h
theorem dfs_finish {s n c : Nat} {f : Nat → List Nat} {r : List Bool} {w : List Nat} (d : Dfs s n f r w (· = c)) (h : ∀ j ∈ f c, R r j) : Dfs s n f r w fun _ => False := by
  refine ⟨d.len, d.z, d.wt, fun i hi => ?_, d.so⟩
  rcases d.cl i hi with q | q | q
  · exact .inl q
  · subst q
    exact .inr (.inr h)
  · exact .inr (.inr q)
theorem count_set {r : List Bool} {j : Nat} (h : r[j]? = some false) : (r.set j true).count false + 1 = r.count false := by
  induction r generalizing j with
  | nil => simp at h
  | cons a r ih =>
    cases j with
    | zero =>
      have e : a = false := Option.some.inj h
      subst e
      simp
    | succ j =>
      have := ih (j := j) (by simpa using h)
      show ((a :: r.set j true).count false) + 1 = (a :: r).count false
      rw [List.count_cons, List.count_cons]
      omega
/-- what is beside each crossing by these lines -/
def Beside (ps : List (Nat × Nat)) (f : Nat → List Nat) : Prop := ∀ i j, j ∈ f i ↔ ∃ p ∈ ps, (p.1 / 4 = i ∧ p.2 / 4 = j) ∨ (p.2 / 4 = i ∧ p.1 / 4 = j)
theorem dfs_whole {n : Nat} {ps : List (Nat × Nat)} {f : Nat → List Nat} {r : List Bool} (hb : Beside ps f) (d : Dfs 0 n f r [] fun _ => False) : r.all id = true ↔ Whole n ps := by
  constructor
  · intro h P hP h0 c hc
    refine d.so P (fun i j hj hi => ?_) h0 c ?_
    · obtain ⟨p, hp, q⟩ := (hb i j).mp hj
      rcases q with ⟨q1, q2⟩ | ⟨q1, q2⟩
      · rw [← q2]
        rw [← q1] at hi
        exact (hP p hp).mp hi
      · rw [← q2]
        rw [← q1] at hi
        exact (hP p hp).mpr hi
    · have hl : c < r.length := by rw [d.len]; exact hc
      unfold R
      rw [List.getElem?_eq_getElem hl]
      have := List.all_eq_true.mp h r[c] (List.getElem_mem hl)
      exact congrArg some this
  · intro w
    have all := w (fun i => R r i) (fun p hp => ?_) d.z
    · refine List.all_eq_true.mpr fun b hb' => ?_
      obtain ⟨i, hi, e⟩ := List.mem_iff_getElem.mp hb'
      have q := all i (by rw [← d.len]; exact hi)
      unfold R at q
      rw [List.getElem?_eq_getElem hi, e] at q
      exact Option.some.inj q
    · have clo : ∀ i j, j ∈ f i → R r i → R r j := fun i j hj hi => by
        rcases d.cl i hi with q | q | q
        · exact absurd q (by simp)
        · exact q.elim
        · exact q j hj
      exact ⟨clo _ _ ((hb _ _).mpr ⟨p, hp, .inl ⟨rfl, rfl⟩⟩), clo _ _ ((hb _ _).mpr ⟨p, hp, .inr ⟨rfl, rfl⟩⟩)⟩
/-- the lists with one more at one of them -/
def addTo (f : Nat → List Nat) (i x : Nat) : Nat → List Nat := fun k => if k = i then f k ++ [x] else f k
theorem beside_nil : Beside [] fun _ => [] := fun i j => ⟨fun h => absurd h (by simp), fun ⟨p, hp, _⟩ => absurd hp (by simp)⟩
theorem mem_addTo {f : Nat → List Nat} {i x k j : Nat} : j ∈ addTo f i x k ↔ j ∈ f k ∨ (k = i ∧ j = x) := by
  unfold addTo
  by_cases e : k = i
  · rw [if_pos e, List.mem_append, List.mem_singleton]
    exact or_congr Iff.rfl ⟨fun h => ⟨e, h⟩, fun h => h.2⟩
  · rw [if_neg e]
    exact ⟨.inl, fun h => h.elim id fun q => absurd q.1 e⟩
theorem beside_add {ps : List (Nat × Nat)} {f : Nat → List Nat} (p : Nat × Nat) (h : Beside ps f) : Beside (ps ++ [p]) (addTo (addTo f (p.1 / 4) (p.2 / 4)) (p.2 / 4) (p.1 / 4)) := by
  intro i j
  rw [mem_addTo, mem_addTo, h i j]
  constructor
  · rintro ((⟨q, hq, z⟩ | ⟨rfl, rfl⟩) | ⟨rfl, rfl⟩)
    · exact ⟨q, List.mem_append.mpr (.inl hq), z⟩
    · exact ⟨p, List.mem_append.mpr (.inr (List.mem_singleton.mpr rfl)), .inl ⟨rfl, rfl⟩⟩
    · exact ⟨p, List.mem_append.mpr (.inr (List.mem_singleton.mpr rfl)), .inr ⟨rfl, rfl⟩⟩
  · rintro ⟨q, hq, z⟩
    rcases List.mem_append.mp hq with hq | hq
    · exact .inl (.inl ⟨q, hq, z⟩)
    · rw [List.mem_singleton.mp hq] at z
      rcases z with ⟨a, b⟩ | ⟨a, b⟩
      · exact .inl (.inr ⟨a.symm, b.symm⟩)
      · exact .inr ⟨a.symm, b.symm⟩
end One
end P_M3

section P_E3
set_option linter.all false
set_option maxRecDepth 100000
set_option maxHeartbeats 4000000
namespace One
open PySem PySem.Spec PyProof.Rows L2
abbrev sIsWhole : Stmt := top 23
abbrev nWhole : List Str := ["lines"]
theorem scIsWhole : FnScope nWhole ["lines"] (defScope sIsWhole) := ⟨rfl, rfl, rfl, by decide +kernel, rfl, by decide +kernel, by decide +kernel⟩
def ltB : V → V → Bool
  | .int a, .int b => decide (a < b)
  | _, _ => false
def lineB (xs : List V) (n : Int) : Bool := match xs with
  | [x, y] => belowV x n && belowV y n && ltB x y
  | _ => false
def spIsLine : Sp := fun vs H Q _ => ∃ (v : V) (n : Int), vs = [v, .int n] ∧ ((∃ T, TV H v T ∧ isTup T = false ∧ Q (.bl false) H) ∨ ∃ (a : Addr) (xs : List V), v = .ref a ∧ H a = some (.tup xs) ∧ (∀ x ∈ xs, ∃ T, TV H x T) ∧ Q (.bl (lineB xs n)) H)
/-- lines that are asked whether they hang together -/
structure Asked (n : Nat) (ps : List (Nat × Nat)) : Prop where
  pos : 0 < n
  len : ps.length = 2 * n
  lt : ∀ p ∈ ps, p.1 < 4 * n ∧ p.2 < 4 * n
def spIsWhole : Sp := fun vs H Q _ => ∃ (t : Addr) (n : Nat) (as : List Addr) (ps : List (Nat × Nat)), vs = [.ref t] ∧ H t = some (.tup (refs as)) ∧ PL H as ps ∧ Asked n ps ∧ n ≤ 100 ∧
  ∀ (H' : Hp) (b : Bool), Same H H' → (b = true ↔ Whole n ps) → Q (.bl b) H'
section
variable {P : Program} {w : World} {K : PySem.W.Frag} {mg : Str → Option Value} {base : Heap}
theorem ok_isline {f fB : Addr} {fd fdB : FuncData} (F : Fun K "is_line" "is_line" sIsLine f fd) (T : TB mg) (B : Cal K mg "is_below" fB fdB ["thing", "many"]) (GB : FnOk P w K mg base CX0 2 fB fdB ["thing", "many"] spIsBelow) :
    FnOk P w K mg base CX0 3 f fd ["thing", "many_ends"] spIsLine := by
  refine F.ok scIsLine (fun vs H Q E h => ?_) (fun cdv A outer s H vs Q E hr h => ?_)
  · obtain ⟨v, n, rfl, _⟩ := h
    rfl
  · obtain ⟨v, n, rfl, h⟩ := h
    have nd := scIsLine.nd
    refine ⟨_, pss_cons (ps_if (PW.pt (pw_or (pt_not (pt_val (pe_callB call_isi (by rfl) T.isinstance boot_isinstance (pa_cons (pv 0) (pa_cons (pe_bltn (v := .ty "tuple") (by rfl) T.tuple boot_tuple rfl) pa_nil)))))
        (pw_or1 (pt_cmpR op_ne (pe_callB call_len_seq (by rfl) T.len PySem.boot_len (pa_cons (pv 0) pa_nil)) pe_int (nomark _))))) (pss_one (ps_ret pe_bl)) pss_nil)
      (pss_cons (ps_asg (pv 0) (pg_tup rfl (pgs_cons (pg_name (i := 2) nd rfl (Or.inl rfl)) (pgs_cons (pg_name (i := 3) nd rfl (Or.inl rfl)) pgs_nil))))
      (pss_one (ps_ret (pe_and (pe_call GB hr rfl B.g B.kp B.b .nil pass0 (pa_cons (pv 2) (pa_cons (pv 1) pa_nil))) (pe_and (pe_call GB hr rfl B.g B.kp B.b .nil pass0 (pa_cons (pv 3) (pa_cons (pv 1) pa_nil)))
        (pe_one (pe_cmpR op_lt (pv 2) (pv 3) (nomark _)))))))), ?_⟩
    rcases h with ⟨ty, hv, hT, k⟩ | ⟨a, xs, rfl, ha, hx, k⟩
    · refine ⟨_, rfl, v, _, _, _, _, rfl, .ty _, hv.tyx, hv.kTup, _, rfl, ?_⟩
      rw [hT]
      exact iteT k
    · refine ⟨_, rfl, _, _, _, _, _, rfl, .ty _, (TV.tup ha).tyx, (TV.tup ha).kTup, _, rfl, ?_⟩
      refine iteF ⟨_, rfl, a, _, rfl, .inr (SqT.of ha), rfl, _, rfl, ?_⟩
      refine ite2 (fun hne => ?_) (fun heq => ?_)
      · have e : lineB xs n = false := by
          match xs, hne with
          | [], _ => rfl
          | [_], _ => rfl
          | [_, _], hne => simp at hne
          | _ :: _ :: _ :: _, _ => rfl
        rw [e] at k
        exact k
      · have hl : xs.length = 2 := by
          have q : ((xs.length : Nat) : Int) = 2 := by simpa using heq
          omega
        match xs, hl, hx, ha, k with
        | [x, y], _, hx, ha, k =>
          obtain ⟨t1, h1⟩ := hx x (by simp)
          obtain ⟨t2, h2⟩ := hx y (by simp)
          refine ⟨_, rfl, a, _, rfl, SqT.of ha, rfl, _, _, rfl, _, _, rfl, rfl, ?_⟩
          refine ⟨_, rfl, _, rfl, x, n, t1, rfl, h1, _, rfl, ?_⟩
          have k : Q (.bl (belowV x n && belowV y n && ltB x y)) H := k
          refine ite2 (fun b1 => ?_) (fun b1 => ?_)
          · refine ⟨_, rfl, _, rfl, y, n, t2, rfl, h2, _, rfl, ?_⟩
            refine ite2 (fun b2 => ?_) (fun b2 => ?_)
            · rw [b1, b2] at k
              cases x with
              | int i =>
                cases y with
                | int j => exact ⟨_, rfl, _, rfl, _, _, rfl, rfl, k⟩
                | _ => cases b2
              | _ => cases b1
            · rw [b1, Bool.eq_false_iff.mpr b2] at k
              exact k
          · rw [Bool.eq_false_iff.mpr b1] at k
            exact k
end
end One
end P_E3

section P_R1
set_option linter.all false
set_option maxRecDepth 100000
set_option maxHeartbeats 8000000
namespace One
open PySem PySem.Spec PyProof.Rows L2
/-- a list of lists of numbers at B, at bl, f says what stands in each; all made behind H0 -/
structure BSt (H0 H : Hp) (B : Addr) (bl : List Addr) (f : Nat → List Nat) : Prop where
  same : Same H0 H
  b : H B = some (.lst (refs bl))
  at_ : ∀ i a, bl[i]? = some a → H a = some (.lst (nats (f i)))
  new : ∀ a ∈ bl, H0 a = none
  nd : bl.Nodup
  nb : B ∉ bl
theorem BSt.keep {H0 H H' : Hp} {B : Addr} {bl : List Addr} {f : Nat → List Nat} (s : BSt H0 H B bl f) (k : Same H H') : BSt H0 H' B bl f :=
  ⟨s.same.trans k, k _ _ s.b, fun i a h => k _ _ (s.at_ i a h), s.new, s.nd, s.nb⟩
theorem BSt.wr {H0 H : Hp} {B q : Addr} {bl : List Addr} {f : Nat → List Nat} {o : HO} (s : BSt H0 H B bl f) (h0 : H0 q = none) (h1 : q ≠ B) (h2 : q ∉ bl) : BSt H0 (upd H q o) B bl f := by
  refine ⟨fun b u e => ?_, by rw [upd_ne (Ne.symm h1)]; exact s.b, fun i a h => ?_, s.new, s.nd, s.nb⟩
  · rw [upd_ne (ne_of_none e h0)]
    exact s.same _ _ e
  · rw [upd_ne (fun z => h2 (by rw [← z]; exact List.mem_of_getElem? h))]
    exact s.at_ i a h
theorem BSt.add {H0 H : Hp} {B a : Addr} {bl : List Addr} {f : Nat → List Nat} {i x : Nat} (s : BSt H0 H B bl f) (ha : bl[i]? = some a) : BSt H0 (upd H a (.lst (nats (f i) ++ [V.int (x : Nat)]))) B bl (addTo f i x) := by
  have hm := List.mem_of_getElem? ha
  refine ⟨fun b u e => ?_, by rw [upd_ne (fun z => s.nb (by rw [z]; exact hm))]; exact s.b, fun j c h => ?_, s.new, s.nd, s.nb⟩
  · rw [upd_ne (ne_of_none e (s.new a hm))]
    exact s.same _ _ e
  · unfold addTo
    by_cases e : j = i
    · subst e
      rw [ha] at h
      cases h
      rw [if_pos rfl, upd_same, nats_app]
      rfl
    · rw [if_neg e, upd_ne (fun z => e (nd_ix s.nd h (by rw [z]; exact ha)))]
      exact s.at_ j c h
def lenAt (H : Hp) (a : Addr) : Nat := match H a with
  | some (.lst xs) => xs.length
  | _ => 0
def noAt (H : Hp) (a : Addr) : Nat := match H a with
  | some (.lst xs) => xs.countP fun v => match v with | .bl b => !b | _ => false
  | _ => 0
theorem lenAt_of {H : Hp} {a : Addr} {ns : List Nat} (h : H a = some (.lst (nats ns))) : lenAt H a = ns.length := by
  unfold lenAt
  rw [h]
  exact List.length_map _
theorem noAt_of {H : Hp} {a : Addr} {r : List Bool} (h : H a = some (.lst (r.map V.bl))) : noAt H a = r.count false := by
  unfold noAt
  rw [h]
  show (r.map V.bl).countP _ = _
  rw [List.countP_map]
  refine List.countP_congr fun b _ => ?_
  cases b <;> simp
theorem take_ends {H : Hp} {ps : List (Nat × Nat)} {i : Nat} {p : Nat × Nat} (h : ps[i]? = some p) : ps.take (i + 1) = ps.take i ++ [p] := by
  rw [List.take_succ, h]
  rfl
theorem fdiv4 (x : Nat) : ((x : Nat) : Int) / 4 = ((x / 4 : Nat) : Int) := by omega
theorem nodup_app {α : Type} {l : List α} {x : α} (h : l.Nodup) (hx : x ∉ l) : (l ++ [x]).Nodup := by
  refine List.nodup_append.mpr ⟨h, by simp, fun a ha b hb => ?_⟩
  rw [List.mem_singleton.mp hb]
  exact fun e => hx (e ▸ ha)
theorem ix_nat {n j : Nat} (h : j < n) : ixN n ((j : Nat) : Int) = some j := by
  unfold ixN
  rw [if_pos (by omega), if_pos (by omega)]
  rfl
theorem flat_rep {α : Type} (x : α) : ∀ n : Nat, (List.replicate n [x]).flatten = List.replicate n x
  | 0 => rfl
  | n + 1 => by
    rw [List.replicate_succ, List.flatten_cons, flat_rep x n, List.replicate_succ]
    rfl
abbrev sBesideX : Stmt := top 24
abbrev nBesideX : List Str := ["lines", "many", "beside", "low", "high", "_"]
theorem scBesideX : FnScope nBesideX ["lines", "many"] (defScope sBesideX) := ⟨rfl, rfl, rfl, by decide +kernel, rfl, by decide +kernel, by decide +kernel⟩
/-- what is beside each of n crossings by these lines, told as lists in a list, all new -/
def spBesideX : Sp := fun vs H Q _ => ∃ (t : Addr) (n : Nat) (as : List Addr) (ps : List (Nat × Nat)), vs = [.ref t, .int (n : Nat)] ∧ H t = some (.tup (refs as)) ∧ PL H as ps ∧ (∀ p ∈ ps, p.1 < 4 * n ∧ p.2 < 4 * n) ∧ n ≤ 200 ∧ ps.length ≤ 400 ∧
  ∀ (H' : Hp) (D : Addr) (bl : List Addr) (f : Nat → List Nat), BSt H H' D bl f → H D = none → bl.length = n → Beside ps f → Q (.ref D) H'
section
variable {P : Program} {w : World} {K : PySem.W.Frag} {mg : Str → Option Value} {base : Heap}
theorem ok_besideX {f : Addr} {fd : FuncData} (F : Fun K "crossings_beside" "crossings_beside" sBesideX f fd) (T : TB mg) (C : TC mg) : FnOk P w K mg base CX0 1 f fd ["lines", "many"] spBesideX := by
  refine F.ok scBesideX (fun vs H Q E h => ?_) (fun cdv A outer s H vs Q E hr h => ?_)
  · obtain ⟨t, n, as, ps, rfl, _⟩ := h
    rfl
  · obtain ⟨t, n, as, ps, rfl, ht, hP, hA, hn, hpl, k⟩ := h
    have nd := scBesideX.nd
    obtain ⟨t4, ht4⟩ := C.places
    refine ⟨_, pss_cons (ps_setLc (i := 2) (own := [("_", 5)]) (g := gName 5) (tt := tYes) (te := tLst tNil) rfl nd rfl rfl (sw_true rfl rfl rfl (by decide +kernel)) (pi_range1 (by rfl) T.range (pa_cons (pv 1) pa_nil)) (blkOk_by (N := nBesideX) (sc := defScope sBesideX) (by decide +kernel))
        (fun _ _ _ _ _ => pg_name (i := 5) nd rfl (Or.inl rfl)) (fun _ _ _ _ _ => pts_nil) (fun _ _ _ _ _ => pe_lst pa_nil))
      (pss_cons (ps_for PassesOwn.never rfl (pi_tup (pv 0)) (pg_tup rfl (pgs_cons (pg_name (i := 3) nd rfl (Or.inl rfl)) (pgs_cons (pg_name (i := 4) nd rfl (Or.inl rfl)) pgs_nil)))
        (pss_cons (ps_expr (pe_bm PySem.F.plainAttrs_list PySem.F.slot_list_append PySem.F.type_list_append mt_append (pe_ix ix_list (pv 2) (pe_op op_fdiv (pv 3) (pe_glob (v := .int 4) rfl ht4 ⟨_, rfl⟩)) (fun _ _ => rfl)) (pa_cons (pe_op op_fdiv (pv 4) (pe_glob (v := .int 4) rfl ht4 ⟨_, rfl⟩)) pa_nil)))
        (pss_one (ps_expr (pe_bm PySem.F.plainAttrs_list PySem.F.slot_list_append PySem.F.type_list_append mt_append (pe_ix ix_list (pv 2) (pe_op op_fdiv (pv 4) (pe_glob (v := .int 4) rfl ht4 ⟨_, rfl⟩)) (fun _ _ => rfl)) (pa_cons (pe_op op_fdiv (pv 3) (pe_glob (v := .int 4) rfl ht4 ⟨_, rfl⟩)) pa_nil))))))
      (pss_one (ps_ret (pv 2)))), ?_⟩
    have hal : as.length = ps.length := hP.len
    have nl : (refs as).length = as.length := List.length_map _
    refine ⟨_, rfl, n, rfl, by omega, by omega, fun D hD => ?_⟩
    refine lc_it (walk_range (lo := 0) (n := ((n : Nat) : Int).toNat)) (fun i H6 => ∃ bl : List Addr, BSt H H6 D bl (fun _ => []) ∧ bl.length = i) ⟨[], ⟨Same.new hD, upd_same, fun i a h => absurd h (by simp), fun a h => absurd h (by simp), .nil, by simp⟩, rfl⟩ (fun _ _ _ _ => trivial) ?_ ?_
    · rintro i x H6 H7 hi ⟨bl, hB, hl⟩ ⟨rfl, rfl⟩
      refine ⟨rfl, yes ⟨Nat.zero_le _, fun l hl' => ⟨_, (Same.new hl') _ _ hB.b, small1000 ?_, bl ++ [l], ?_, ?_⟩⟩⟩
      · rw [List.length_map]
        omega
      · have s1 := Same.new (o := .lst []) hl'
        have h0 : H l = none := hB.same.free hl'
        have nlD : l ≠ D := (ne_of_none hB.b hl').symm
        have nlb : l ∉ bl := fun m => by
          obtain ⟨j, hj, e⟩ := List.mem_iff_getElem.mp m
          have q := hB.at_ j l (by rw [List.getElem?_eq_getElem hj, e])
          rw [hl'] at q
          cases q
        refine ⟨fun b u e => ?_, by rw [upd_same, refs_app]; rfl, fun j a h => ?_, fun a m => ?_, nodup_app hB.nd nlb, fun m => ?_⟩
        · rw [upd_ne (ne_of_none e hD)]
          exact s1 _ _ (hB.same _ _ e)
        · by_cases hj : j < bl.length
          · rw [List.getElem?_append_left hj] at h
            have q := hB.at_ j a h
            rw [upd_ne (fun z => hB.nb (by rw [← z]; exact List.mem_of_getElem? h))]
            exact s1 _ _ q
          · rw [List.getElem?_append_right (by omega)] at h
            have ea : a = l := by
              have := List.mem_of_getElem? h
              exact List.mem_singleton.mp this
            rw [ea, upd_ne nlD, upd_same]
            rfl
        · rcases List.mem_append.mp m with m | m
          · exact hB.new a m
          · rw [List.mem_singleton.mp m]
            exact h0
        · rcases List.mem_append.mp m with m | m
          · exact hB.nb m
          · exact nlD (List.mem_singleton.mp m).symm
      · rw [List.length_append, hl]
        rfl
    · rintro H6 ⟨bl, hB, hl⟩
      have hl : bl.length = n := by rw [hl]; omega
      refine ⟨_, rfl, t, rfl, ⟨_, SqT.of (hB.same _ _ ht)⟩, for_tup (K := K) (a := t) (xs := refs as) (fun i σ H7 => ∃ (f : Nat → List Nat) (v2 v3 : Option V), σ = [some (.ref t), some (.int (n : Nat)), some (.ref D), v2, v3, none] ∧ BSt H H7 D bl f ∧ Beside (ps.take i) f ∧ ∀ j, (f j).length ≤ 2 * i)
        ⟨fun _ => [], none, none, rfl, hB, beside_nil, fun _ => Nat.zero_le _⟩ (fun i σ H7 _ ⟨f, _, _, _, h, _⟩ => SqT.of (h.same _ _ ht)) ?_ ?_⟩
      · rintro i x σ H7 hx ⟨f, v2, v3, rfl, hB7, hbs, hfl⟩
        obtain ⟨a, ha⟩ : ∃ a, as[i]? = some a := by
          rw [List.getElem?_map] at hx
          cases e : as[i]? with
          | none =>
            rw [e] at hx
            cases hx
          | some a => exact ⟨a, rfl⟩
        rw [List.getElem?_map, ha] at hx
        cases hx
        obtain ⟨p, hp, pa⟩ := hP.got ha
        have hi : i < ps.length := by
          have := (List.getElem?_eq_some_iff.mp ha).1
          omega
        obtain ⟨q1, q2⟩ := hA p (List.mem_of_getElem? hp)
        have g1 : p.1 / 4 < bl.length := by omega
        have g2 : p.2 / 4 < bl.length := by omega
        obtain ⟨b1, hb1⟩ : ∃ b, bl[p.1 / 4]? = some b := ⟨_, List.getElem?_eq_getElem g1⟩
        obtain ⟨b2, hb2⟩ : ∃ b, bl[p.2 / 4]? = some b := ⟨_, List.getElem?_eq_getElem g2⟩
        have pa7 := hB7.same _ _ pa
        refine ⟨a, _, rfl, SqT.of pa7, rfl, _, _, rfl, _, _, rfl, rfl, ?_⟩
        have c1 := hB7.at_ _ _ hb1
        refine ⟨_, rfl, _, rfl, _, _, rfl, rfl, ⟨by decide, by decide⟩, D, _, _, .ref b1, rfl, rfl, SqL.of hB7.b, (by show atI _ (((p.1 : Nat) : Int) / 4) = _; rw [fdiv4]; exact ref_at hb1), .inl ⟨rfl, _, SqL.of c1⟩, _, rfl, _, _, rfl, rfl, ⟨by decide, by decide⟩, b1, _, _, rfl, rfl, c1, small1000 ?_, ?_⟩
        · rw [List.length_map]
          have := hfl (p.1 / 4)
          omega
        have hB8 : BSt H (upd H7 b1 (.lst (nats (f (p.1 / 4)) ++ [V.int (((p.2 : Nat) : Int) / 4)]))) D bl (addTo f (p.1 / 4) (p.2 / 4)) := by
          rw [fdiv4]
          exact hB7.add hb1
        have c2 := hB8.at_ _ _ hb2
        refine ⟨_, rfl, _, rfl, _, _, rfl, rfl, ⟨by decide, by decide⟩, D, _, _, .ref b2, rfl, rfl, SqL.of hB8.b, (by show atI _ (((p.2 : Nat) : Int) / 4) = _; rw [fdiv4]; exact ref_at hb2), .inl ⟨rfl, _, SqL.of c2⟩, _, rfl, _, _, rfl, rfl, ⟨by decide, by decide⟩, b2, _, _, rfl, rfl, c2, small1000 ?_, ?_⟩
        · rw [List.length_map]
          have := hfl (p.2 / 4)
          unfold addTo
          split
          · rw [List.length_append, List.length_singleton]
            omega
          · omega
        have hB9 : BSt H (upd (upd H7 b1 (.lst (nats (f (p.1 / 4)) ++ [V.int (((p.2 : Nat) : Int) / 4)]))) b2 (.lst (nats (addTo f (p.1 / 4) (p.2 / 4) (p.2 / 4)) ++ [V.int (((p.1 : Nat) : Int) / 4)]))) D bl (addTo (addTo f (p.1 / 4) (p.2 / 4)) (p.2 / 4) (p.1 / 4)) := by
          rw [fdiv4 p.1]
          exact hB8.add hb2
        refine ⟨_, _, _, rfl, hB9, ?_, fun j => ?_⟩
        · rw [take_ends (H := H) hp]
          exact beside_add p hbs
        · have := hfl j
          unfold addTo
          split <;> split <;> (try simp only [List.length_append, List.length_singleton]) <;> omega
      · rintro σ H7 ⟨f, v2, v3, rfl, hB7, hbs, hfl⟩
        rw [nl, hP.len, List.take_length] at hbs
        exact ⟨_, rfl, k _ D bl f hB7 hD hl hbs⟩
end
end One
end P_R1

section P_R2
set_option linter.all false
set_option maxRecDepth 100000
set_option maxHeartbeats 8000000
namespace One
open PySem PySem.Spec PyProof.Rows L2
abbrev sReached : Stmt := top 14
abbrev nReached : List Str := ["beside", "start", "told", "waiting", "other"]
theorem scReached : FnScope nReached ["beside", "start"] (defScope sReached) := ⟨rfl, rfl, rfl, by decide +kernel, rfl, by decide +kernel, by decide +kernel⟩
/-- lists of numbers in a list -/
structure LL (H : Hp) (B : Addr) (bl : List Addr) (f : Nat → List Nat) : Prop where
  b : H B = some (.lst (refs bl))
  at_ : ∀ i a, bl[i]? = some a → H a = some (.lst (nats (f i)))
theorem LL.keep {H H' : Hp} {B : Addr} {bl : List Addr} {f : Nat → List Nat} (s : LL H B bl f) (k : Same H H') : LL H' B bl f := ⟨k _ _ s.b, fun i a h => k _ _ (s.at_ i a h)⟩
theorem BSt.ll {H0 H : Hp} {B : Addr} {bl : List Addr} {f : Nat → List Nat} (s : BSt H0 H B bl f) : LL H B bl f := ⟨s.b, s.at_⟩
/-- to which numbers one comes from s, told as a new list of truths -/
def spReached : Sp := fun vs H Q _ => ∃ (B : Addr) (bl : List Addr) (f : Nat → List Nat) (n s : Nat), vs = [.ref B, .int (s : Nat)] ∧ LL H B bl f ∧ bl.length = n ∧ s < n ∧ n ≤ 200 ∧ (∀ i j, i < n → j ∈ f i → j < n) ∧
  ∀ (H' : Hp) (R4 : Addr) (r : List Bool), Same H H' → H R4 = none → H' R4 = some (.lst (r.map V.bl)) → Dfs s n f r [] (fun _ => False) → Q (.ref R4) H'
section
variable {P : Program} {w : World} {K : PySem.W.Frag} {mg : Str → Option Value} {base : Heap}
theorem ok_reached {f : Addr} {fd : FuncData} (F : Fun K "reached" "reached" sReached f fd) (T : TB mg) : FnOk P w K mg base CX0 1 f fd ["beside", "start"] spReached := by
  refine F.ok scReached (fun vs H Q E h => ?_) (fun cdv A outer s H vs Q E hr h => ?_)
  · obtain ⟨B, bl, g, n, st, rfl, _⟩ := h
    rfl
  · obtain ⟨B, bl, g, n, st, rfl, hL, hl, hs, hn, flt, k⟩ := h
    have nd := scReached.nd
    refine ⟨_, pss_cons (ps_set (i := 2) nd rfl (Or.inl rfl) (pe_op op_rep (pe_lst (pa_cons pe_bl pa_nil)) (pe_callB call_len_seq (by rfl) T.len PySem.boot_len (pa_cons (pv 0) pa_nil))))
      (pss_cons (ps_asg pe_bl (pg_sub (pv 2) (pv 1) set_list))
      (C8.pss_cut (ps_set (i := 3) nd rfl (Or.inl rfl) (pe_lst (pa_cons (pv 1) pa_nil)))
      (pss_cons (ps_while PassesOwn.never (pt_truth (pv 3) (by intro _; rfl))
        (pss_one (ps_for PassesOwn.never rfl (pi_list (pe_ix ix_list (pv 0) (pe_bm0 PySem.F.plainAttrs_list PySem.F.slot_list_pop PySem.F.type_list_pop mt_pop (pv 3)) (fun _ _ => rfl))) (pg_name (i := 4) nd rfl (Or.inl rfl))
          (pss_one (ps_if (pt_not (pt_val (pe_ix ix_list (pv 2) (pv 4) (fun _ _ => rfl)))) (pss_cons (ps_asg pe_bl (pg_sub (pv 2) (pv 4) set_list))
            (pss_one (ps_expr (pe_bm PySem.F.plainAttrs_list PySem.F.slot_list_append PySem.F.type_list_append mt_append (pv 3) (pa_cons (pv 4) pa_nil))))) pss_nil)))))
      (pss_one (ps_ret (pv 2)))))), ?_⟩
    have nlb : (((refs bl).length : Nat)) = n := by rw [List.length_map]; exact hl
    refine ⟨by show 1 ≤ sizeLine; decide, fun l1 hl1 => ⟨_, rfl, B, _, rfl, .inl (SqL.of ((Same.new hl1) _ _ hL.b)), ?_⟩⟩
    have s1 := Same.new (o := .lst [V.bl false]) hl1
    refine ⟨l1, _, _, rfl, rfl, upd_same, by omega, by omega, (by rw [nlb]; show 1 * _ ≤ _; exact Nat.le_of_lt (small1000 (by omega))), fun R4 hR4 => ?_⟩
    have s2 := Same.new (o := .lst (List.replicate (((refs bl).length : Nat) : Int).toNat [V.bl false]).flatten) hR4
    have eR : (List.replicate (((refs bl).length : Nat) : Int).toNat [V.bl false]).flatten = (List.replicate n false).map V.bl := by
      rw [nlb, show ((n : Nat) : Int).toNat = n by omega, List.map_replicate]
      exact flat_rep _ n
    have hR0 : H R4 = none := s1.free hR4
    have s12 := s1.trans s2
    refine ⟨_, rfl, _, rfl, R4, _, _, st, rfl, rfl, upd_same, ix_nat (by rw [eR, List.length_map, List.length_replicate]; exact hs), ?_⟩
    rw [eR]
    rw [eR] at s12
    have sa : Same H (upd (upd (upd H l1 (.lst [V.bl false])) R4 (.lst ((List.replicate n false).map V.bl))) R4 (.lst (((List.replicate n false).map V.bl).set st (V.bl true)))) := fun b u e => by
      rw [upd_ne (ne_of_none e hR0)]
      exact s12 _ _ e
    have setR : ∀ (r : List Bool) (j : Nat), (r.map V.bl).set j (V.bl true) = (r.set j true).map V.bl := fun r j => (List.map_set).symm
    refine ⟨fun σ H9 => ∃ (W : Addr) (r : List Bool) (w : List Nat) (v4 : Option V), (H W = none ∧ W ≠ R4) ∧ σ = [some (.ref B), some (.int (st : Nat)), some (.ref R4), some (.ref W), v4] ∧ Same H H9 ∧ H9 R4 = some (.lst (r.map V.bl)) ∧ H9 W = some (.lst (nats w)) ∧ Dfs st n g r w (fun _ => False) ∧ w.length + r.count false ≤ n, ⟨_, rfl, ⟨by show 1 ≤ sizeLine; decide, fun W hW => ?_⟩⟩, ?_⟩
    · have s3 := Same.new (o := .lst [V.int (st : Nat)]) hW
      have hW0 : H W = none := sa.free hW
      have nWR : W ≠ R4 := (ne_of_none upd_same hW).symm
      refine ⟨W, (List.replicate n false).set st true, [st], none, ⟨hW0, nWR⟩, rfl, sa.trans s3, ?_, upd_same, dfs_start g hs, ?_⟩
      · rw [upd_ne (Ne.symm nWR), upd_same, setR]
      · have := count_set (r := List.replicate n false) (j := st) (by rw [List.getElem?_replicate, if_pos hs])
        rw [List.count_replicate_self] at this
        show 1 + _ ≤ n
        omega
    · rintro σ0 H0 ⟨W, r0, w0, v4', ⟨hW0, nWR⟩, rfl, sH0, hR0', hw0, hd0, hm0⟩
      unfold tSeq
      refine while_by (fun σ H9 => ∃ (r : List Bool) (w : List Nat) (v4 : Option V), σ = [some (.ref B), some (.int (st : Nat)), some (.ref R4), some (.ref W), v4] ∧ Same H H9 ∧ H9 R4 = some (.lst (r.map V.bl)) ∧ H9 W = some (.lst (nats w)) ∧ Dfs st n g r w (fun _ => False) ∧ w.length + r.count false ≤ n)
        (fun σ H9 => 2 * noAt H9 R4 + lenAt H9 W) ⟨r0, w0, v4', rfl, sH0, hR0', hw0, hd0, hm0⟩ ?_ ?_
      · rintro σ H9 ⟨r, w, v4, rfl, sH, hR, hw, hd, hm⟩
        refine ⟨_, rfl, _, .inl ⟨_, SqL.of hw, rfl⟩, ?_⟩
        rcases List.eq_nil_or_concat w with rfl | ⟨w', c, rfl⟩
        · refine iteF ?_
          exact ⟨_, rfl, k _ R4 r sH hR0 hR hd⟩
        · rw [List.concat_eq_append] at hw hd hm ⊢
          have hne : (!(nats (w' ++ [c])).isEmpty) = true := by
            rw [nats_app]
            cases nats w' <;> rfl
          rw [hne]
          refine iteT ?_
          have hlast : (nats (w' ++ [c]))[(nats (w' ++ [c])).length - 1]? = some (V.int (c : Nat)) := by
            rw [nats_app, List.length_append]
            show (nats w' ++ [V.int (c : Nat)])[(nats w').length + 1 - 1]? = _
            rw [Nat.add_sub_cancel, List.getElem?_append_right (Nat.le_refl _), Nat.sub_self]
            rfl
          have hdrop : (nats (w' ++ [c])).dropLast = nats w' := by
            rw [nats_app]
            exact List.dropLast_concat
          have sH1 : Same H (upd H9 W (.lst (nats w'))) := fun b u e => by
            rw [upd_ne (ne_of_none e hW0)]
            exact sH _ _ e
          have hL1 := hL.keep sH1
          refine ⟨_, rfl, _, rfl, .inl ⟨rfl, _, SqL.of hw⟩, W, _, _, rfl, rfl, hw, hlast, ?_⟩
          rw [hdrop]
          have hRc : R r c := hd.wt c (List.mem_append.mpr (.inr (List.mem_singleton.mpr rfl)))
          have hcn : c < n := by
            have := (List.getElem?_eq_some_iff.mp hRc).1
            rw [hd.len] at this
            exact this
          have hR1 : (upd H9 W (.lst (nats w'))) R4 = some (.lst (r.map V.bl)) := by
            rw [upd_ne (Ne.symm nWR)]
            exact hR
          obtain ⟨b, hb⟩ : ∃ b, bl[c]? = some b := ⟨_, List.getElem?_eq_getElem (by omega)⟩
          have hbf := hL.at_ _ _ hb
          rw [List.length_append, List.length_singleton] at hm
          have hmu : 2 * noAt H9 R4 + lenAt H9 W = 2 * r.count false + (w'.length + 1) := by
            rw [noAt_of hR, lenAt_of hw, List.length_append, List.length_singleton]
          refine ⟨B, _, _, .ref b, rfl, rfl, SqL.of hL1.b, ref_at hb, b, rfl, ⟨_, SqL.of (sH1 _ _ hbf)⟩, for_list (K := K) (a := b) (xs := nats (g c)) (fun m σ Hm => ∃ (r2 : List Bool) (w2 : List Nat) (v4 : Option V), σ = [some (.ref B), some (.int (st : Nat)), some (.ref R4), some (.ref W), v4] ∧
              Same H Hm ∧ Hm R4 = some (.lst (r2.map V.bl)) ∧ Hm W = some (.lst (nats w2)) ∧ Dfs st n g r2 w2 (· = c) ∧ R r2 c ∧ w2.length + r2.count false + 1 ≤ n ∧ 2 * r2.count false + w2.length + 1 ≤ 2 * r.count false + (w'.length + 1) ∧ ∀ j ∈ (g c).take m, R r2 j)
            ⟨r, w', v4, rfl, sH1, hR1, upd_same, dfs_pop hd, hRc, by omega, by omega, fun j hj => absurd hj (by simp)⟩ (fun m σ Hm _ ⟨_, _, _, _, h, _⟩ => SqL.of (h _ _ hbf)) ?_ ?_⟩
          · rintro m x σ Hm hx ⟨r2, w2, v4, rfl, sH2, hR2, hw2, hd2, hRc2, hm1, hm2, hdone⟩
            obtain ⟨j, hj⟩ : ∃ j, (g c)[m]? = some j := by
              rw [List.getElem?_map] at hx
              cases e : (g c)[m]? with
              | none =>
                rw [e] at hx
                cases hx
              | some a => exact ⟨a, rfl⟩
            rw [List.getElem?_map, hj] at hx
            cases hx
            have hjf : j ∈ g c := List.mem_of_getElem? hj
            have hjn : j < n := flt c j hcn hjf
            have hjr : j < r2.length := by rw [hd2.len]; exact hjn
            obtain ⟨b2, hb2⟩ : ∃ b, r2[j]? = some b := ⟨_, List.getElem?_eq_getElem hjr⟩
            have etake : (g c).take (m + 1) = (g c).take m ++ [j] := by
              rw [List.take_succ, hj]
              rfl
            refine ⟨_, rfl, _, rfl, R4, _, _, .bl b2, rfl, rfl, SqL.of hR2, at_of (j := j) rfl (by rw [List.getElem?_map, hb2]; rfl), b2, rfl, ?_⟩
            cases b2 with
            | true =>
              refine iteF ⟨r2, w2, _, rfl, sH2, hR2, hw2, hd2, hRc2, hm1, hm2, fun i hi => ?_⟩
              rw [etake] at hi
              rcases List.mem_append.mp hi with hi | hi
              · exact hdone i hi
              · rw [List.mem_singleton.mp hi]
                exact hb2
            | false =>
              have hcnt := count_set hb2
              refine iteT ⟨_, rfl, _, rfl, R4, _, _, j, rfl, rfl, hR2, ix_nat (by rw [List.length_map]; exact hjr), ?_⟩
              have hw3 : (upd Hm R4 (.lst ((r2.map V.bl).set j (V.bl true)))) W = some (.lst (nats w2)) := by
                rw [upd_ne nWR]
                exact hw2
              refine ⟨_, rfl, .inl ⟨rfl, _, SqL.of hw3⟩, _, rfl, W, _, _, rfl, rfl, hw3, small1000 (by rw [List.length_map]; omega), ?_⟩
              refine ⟨r2.set j true, w2 ++ [j], _, rfl, (fun b u e => ?_), ?_, ?_, dfs_mark hd2 hRc2 hjf hjn, R_set hRc2, ?_, ?_, fun i hi => ?_⟩
              · rw [upd_ne (ne_of_none e hW0), upd_ne (ne_of_none e hR0)]
                exact sH2 _ _ e
              · rw [upd_ne (Ne.symm nWR), upd_same, setR]
              · rw [upd_same, nats_app]
                rfl
              · rw [List.length_append, List.length_singleton]
                omega
              · rw [List.length_append, List.length_singleton]
                omega
              · rw [etake] at hi
                rcases List.mem_append.mp hi with hi | hi
                · exact R_set (hdone i hi)
                · rw [List.mem_singleton.mp hi]
                  exact R_new hjr
          · rintro σ Hm ⟨r2, w2, v4, rfl, sH2, hR2, hw2, hd2, hRc2, hm1, hm2, hdone⟩
            rw [List.length_map, List.take_length] at hdone
            refine ⟨⟨r2, w2, _, rfl, sH2, hR2, hw2, dfs_finish hd2 hdone, by omega⟩, ?_⟩
            show 2 * noAt Hm R4 + lenAt Hm W < 2 * noAt H9 R4 + lenAt H9 W
            rw [hmu, noAt_of hR2, lenAt_of hw2]
            omega
      · intro σ H1 Q1 Q2 hq h
        obtain ⟨v, e, kk, ht, q⟩ := h
        exact ⟨v, e, kk, ht, hq _ _ q⟩
end
end One
end P_R2

section P_E4
set_option linter.all false
set_option maxRecDepth 100000
set_option maxHeartbeats 4000000
namespace One
open PySem PySem.Spec PyProof.Rows L2
section
variable {P : Program} {w : World} {K : PySem.W.Frag} {mg : Str → Option Value} {base : Heap}
theorem ok_iswhole {f fR fB : Addr} {fd fdR fdB : FuncData} (F : Fun K "is_whole" "is_whole" sIsWhole f fd) (T : TB mg) (DR : Cal K mg "reached" fR fdR ["beside", "start"]) (GR : FnOk P w K mg base CX0 1 fR fdR ["beside", "start"] spReached)
    (DB : Cal K mg "crossings_beside" fB fdB ["lines", "many"]) (GB : FnOk P w K mg base CX0 1 fB fdB ["lines", "many"] spBesideX) : FnOk P w K mg base CX0 2 f fd ["lines"] spIsWhole := by
  refine F.ok scIsWhole (fun vs H Q E h => ?_) (fun cdv A outer s H vs Q E hr h => ?_)
  · obtain ⟨t, n, as, ps, rfl, _⟩ := h
    rfl
  · obtain ⟨t, n, as, ps, rfl, ht, hP, hA, hn, k⟩ := h
    refine ⟨_, pss_one (ps_ret (pe_callB (cr_all rfl) (by rfl) T.all boot_all (pa_cons (pe_call GR hr rfl DR.g DR.kp DR.b .nil pass0 (pa_cons (pe_call GB hr rfl DB.g DB.kp DB.b .nil pass0 (pa_cons (pv 0) (pa_cons (pe_op op_fdiv (pe_callB call_len_seq (by rfl) T.len PySem.boot_len (pa_cons (pv 0) pa_nil)) pe_int) pa_nil))) (pa_cons pe_int pa_nil))) pa_nil))), ?_⟩
    have hal : as.length = 2 * n := by rw [hP.len, hA.len]
    have nl : (refs as).length = as.length := List.length_map _
    have e2 : (((refs as).length : Nat) : Int) / 2 = (n : Nat) := by rw [nl, hal]; omega
    refine ⟨_, rfl, _, rfl, t, _, rfl, .inr (SqT.of ht), _, _, rfl, rfl, ⟨by decide, by decide⟩, t, n, as, ps, (by show [V.ref t, V.int ((((refs as).length : Nat) : Int) / 2)] = _; rw [e2]), ht, hP, hA.lt, by omega, (by rw [hA.len]; omega), fun H1 D bl g hB hD hl hbs => ?_⟩
    refine ⟨D, bl, g, n, 0, rfl, hB.ll, hl, hA.pos, by omega, fun i j hi hj => ?_, fun H2 R4 r s2 hR0 hR hd => ?_⟩
    · obtain ⟨p, hp, q⟩ := (hbs i j).mp hj
      obtain ⟨q1, q2⟩ := hA.lt p hp
      rcases q with ⟨_, q⟩ | ⟨_, q⟩ <;> omega
    · exact ⟨R4, r, rfl, SqL.of hR, k _ _ (hB.same.trans s2) (dfs_whole hbs hd)⟩
end
end One
end P_E4

section P_E5
set_option linter.all false
set_option maxRecDepth 100000
set_option maxHeartbeats 4000000
namespace One
open PySem PySem.Spec PyProof.Rows L2
/-! ### enumerate of a tuple -/
theorem enum_newT (tt : Addr) (xs : Array Value) (sz : Nat) (dc : Option Addr) (sl : Array (Option Value)) :
    Meets (Builtin.«enumerate.__new__» ⟨[.type "enumerate", .ref tt], []⟩) (fun _ R s => s.heap.get? tt = some ⟨.type "tuple", dc, .seq xs sz, sl⟩ ∧
      R (.ok (.ret (.ref (s.heap.push { cls := .type "tuple_iterator", data := .fields #[.ref tt, .int 0 0] }).objs.size)))
        { s with heap := (s.heap.push { cls := .type "tuple_iterator", data := .fields #[.ref tt, .int 0 0] }).push { cls := .type "enumerate", data := .fields #[.none, .bool false, .ref s.heap.objs.size, rawInt 0, .none, .none] } }) :=
  .of_wp fun prog w A R s q => by
    obtain ⟨hp, g, d, tk, os⟩ := s
    obtain ⟨hl, q⟩ := q
    have su := sub_enumerate
    have hT : Heap.IsTuple (Shared.heap ⟨hp, g, d, tk, os⟩) tt xs := ⟨_, hl, rfl, sz, rfl⟩
    wp_walk using AutoSeq1.wpAny_loadPart' hl
    refine wpAny_stack_any fun stk => wpAny_pure ?_
    split
    · rename_i cl _ _ _ _ _
      cases (cl == Value.type "enumerate") <;> (wp_walk using AutoSeq1.wpAny_loadPart' hl, wpAny_pyIter_tuple hT; exact ⟨_, rfl, q⟩)
    · wp_walk using AutoSeq1.wpAny_loadPart' hl, wpAny_pyIter_tuple hT
      exact ⟨_, rfl, q⟩
section
variable {prog : Program} {w : World} {A : Around} {E : Value → Shared → Prop} {s : Shared}
theorem call_enumT {tt : Addr} {xs : Array Value} {Q : Value → Shared → Prop} (hL : s.heap.IsTuple tt xs)
    (k : ∀ g, IsEnum g (s.heap.objs.size + 1) s.heap.objs.size 0 .none → g.IsTupleIter s.heap.objs.size tt 0 → (∀ b o, s.heap.get? b = some o → g.get? b = some o) → Q (.ref (s.heap.objs.size + 1)) { s with heap := g }) :
    wpAny (model prog w) A (call (.type "enumerate") [.ref tt]) Q E s := by
  obtain ⟨⟨cl, dc, da, sl⟩, hl, hcl, sz, hda⟩ := hL
  dsimp only at hcl hda
  subst hcl hda
  refine callType_new F.called_enumerate (by decide) (F.typeCall_enumerate_1 _) (F.newCall_enumerate_1 _) (fun ob => F.args_object_init_2 ob _) F.entry_enumerate_new (enum_newT tt xs sz dc sl) ⟨hl, ?_⟩
  have e1 : (s.heap.push { cls := .type "tuple_iterator", data := .fields #[.ref tt, .int 0 0] }).objs.size = s.heap.objs.size + 1 := Heap.size_push ..
  show _ ∧ _
  rw [e1]
  have e2 : IsEnum ((s.heap.push { cls := .type "tuple_iterator", data := .fields #[.ref tt, .int 0 0] }).push { cls := .type "enumerate", data := .fields #[.none, .bool false, .ref s.heap.objs.size, rawInt 0, .none, .none] }) (s.heap.objs.size + 1) s.heap.objs.size 0 .none := by
    have z := Heap.get?_push_size (s.heap.push { cls := .type "tuple_iterator", data := .fields #[.ref tt, .int 0 0] }) (o := { cls := .type "enumerate", data := .fields #[.none, .bool false, .ref s.heap.objs.size, rawInt 0, .none, .none] }) rfl
    rw [e1] at z
    exact z
  exact ⟨⟨_, e2, rfl⟩, k _ e2 ⟨_, Heap.get?_push_of_some _ (Heap.get?_push_size _ rfl), rfl, rfl⟩ fun b o x => Heap.get?_push_of_some _ (Heap.get?_push_of_some _ x)⟩
end
/-- the tuple at a, each item in a new pair with its number -/
def IteT (K : PySem.W.Frag) (a : Addr) : It :=
  ⟨fun i H => ∃ (xs : List V) (x : V), SqT K H a xs ∧ xs[i]? = some x, fun i H v H' => ∃ T x, v = .ref T ∧ H T = none ∧ H' = upd H T (.tup [.int (i : Nat), x]) ∧ ∀ xs, SqT K H a xs → xs[i]? = some x, fun i H => ∃ xs : List V, SqT K H a xs ∧ xs.length ≤ i⟩
theorem turn_enumT {P : Program} {w : World} {K : PySem.W.Frag} {elts : List Expr} {kk : Nat} {tpos : Pos} (a e it : Addr) (hat : a ≠ it) (hae : a ≠ e) :
    Turn P w K (.Tuple elts kk tpos) (IteT K a) [e, it] e (fun i h => (∃ old, IsEnum h e it ((i : Nat) : Int) old) ∧ h.IsTupleIter it a i ∧ e ≠ it) where
  mem := List.mem_cons_self
  obj := fun i h st b hb => by
    obtain ⟨⟨old, he⟩, ⟨o, ho, _, hd⟩, _⟩ := st
    rcases List.mem_cons.mp hb with z | z
    · rw [z]
      exact ⟨_, he, fun v q => nomatch q⟩
    · exact ⟨o, by rw [List.mem_singleton.mp z]; exact ho, fun v q => by rw [hd] at q; cases q⟩
  keep := fun i h h' ⟨⟨old, he⟩, hi, hne⟩ k => ⟨⟨old, k e (by simp) _ he⟩, hi.at fun o e => k it (by simp) o e, hne⟩
  item := by
    intro X e1 e2 e3 hc i pins s σ H E I hf ⟨⟨old, he⟩, hit, hne⟩ ⟨xs, x, hq, hx⟩
    subst e1 e2 e3
    obtain ⟨its, rv, p, hz⟩ := I.tuple hq
    obtain ⟨u, hu, ru⟩ := rv.get hx
    have hel : e < s.heap.objs.size := Heap.lt_size he
    have hil : it < s.heap.objs.size := by
      obtain ⟨_, q, _⟩ := hit
      exact Heap.lt_size q
    have p' : s.heap.IsTuple a its.toArray := p
    have hlt : i < its.toArray.size := by
      rw [List.size_toArray]
      exact (List.getElem?_eq_some_iff.mp hu).1
    refine wpAny_pyNext_enum_itemD (fp := [it, a]) (Draws.tuple (A := X.A.in1) (show X.A.in1.handled = none from I.ok.hd hc) it a hat its.toArray) he ⟨hit, p'⟩ hlt hne (by simp [hne, Ne.symm hae]) fun x2 g tk hx2 ho hst hT hsz hk => ?_
    have ex : x2 = u := by
      have z : its.toArray[i]? = some x2 := hx2
      rw [List.getElem?_toArray, hu] at z
      exact (Option.some.inj z).symm
    subst ex
    refine ⟨_, rfl, wpAny_letOwnedTupleGo_enum (s := { s with heap := g, toks := tk + 1 }) ho fun g2 he2 sb => ?_⟩
    have hT2 : g2.get? s.heap.objs.size = some { cls := .type "tuple", data := .seq #[.int i tk, x2] } := (sb.2 _ (Nat.ne_of_gt hel)).trans hT
    have made : ObjOk X.prog X.w (upd H s.heap.objs.size (.tup [.int (i : Nat), x])) g2 s.heap.objs.size (.tup [.int (i : Nat), x]) :=
      ⟨two_le, [.int i tk, x2], .cons ⟨_, rfl⟩ (.cons ru .nil), ⟨_, hT2, rfl, _, rfl⟩⟩
    have I1 : Inv X pins σ (upd H s.heap.objs.size (.tup [.int (i : Nat), x])) { s with heap := g2, toks := tk + 1 } :=
      I.turnedNew (ch := [e, it]) (fun b ob hb q => (sb.2 b fun z => hb (by rw [z]; exact List.mem_cons_self)).trans (hk b ob (fun z => hb (by rw [z]; exact List.mem_cons_self)) (fun z => hb (by rw [z]; simp)) q)) hf (Nat.le_refl _) made
    have e0 : ((i + 1 : Nat) : Int) = (i : Int) + 1 := by omega
    refine ⟨.ref s.heap.objs.size, _, I1, rfl, ⟨_, x, rfl, I.hok.fresh (Nat.le_refl _), rfl, fun ys hy => by rw [I.tuple_inj hy hq]; exact hx⟩, ⟨⟨x2, by rw [e0]; exact he2⟩, hst.1.at fun o q => (sb.2 it (Ne.symm hne)).trans q, hne⟩, fun b hb => ?_⟩
    have lt : b < s.heap.objs.size := by
      rcases List.mem_cons.mp hb with z | z
      · rw [z]
        exact hel
      · rw [List.mem_singleton.mp z]
        exact hil
    exact (upd_ne (Nat.ne_of_lt lt)).trans (hf b hb).1
  done := by
    intro X e1 e2 e3 hc i pins s σ H E I hf ⟨⟨old, he⟩, hit, hne⟩ ⟨xs, hq, hx⟩
    subst e1 e2 e3
    obtain ⟨its, rv, p, hz⟩ := I.tuple hq
    obtain ⟨f0, f1, f2, f3, f4, f5⟩ := hf it (by simp)
    have hn : its.toArray.size ≤ i := by
      rw [List.size_toArray, ← rv.length]
      exact hx
    unfold pyNext
    have hT : s.TypeIs (.ref e) "enumerate" := ⟨_, he, rfl⟩
    refine wpAny_bind (wpAny_attempt (wpAny_callSpecial?_slot (name := Str.ofString "__next__") hT F.slot_enumerate_next (wpAny_call_entry F.slot_enumerate_next hT F.entry_enumerate_next ?_ (F.args_enumerate_next_1 _))))
    show wpAny _ _ (field (.ref e) 2 >>= _) _ _ _
    refine wpAny_bind (wpAny_field he rfl (x := .ref it) rfl (wpAny_bind (wpAny_nextOf_tuple_end (I.ok.hd hc) hit (show s.heap.IsTuple a its.toArray from p) (Array.getElem?_eq_none hn) fun g x hg ⟨o, ho, hco⟩ => ?_)))
    exact wpAny_bind (wpAny_isInstance (T := "StopIteration") (b := true) ⟨o, ho, hco⟩ isSubtype_stop (wpAny_pure ⟨rfl, I.turned (t' := s.toks) (fun b o hb e => hg b o hb e) f0 f1 f3 f4 f5⟩))
  self := fun A i s Q E ⟨⟨_, he⟩, _⟩ q => wpAny_pyIter_enum he q
def iEnumT (K : PySem.W.Frag) (ta : TA) : TI := fun σ H R => ta σ H fun vs H1 => ∃ a xs, vs = [.ref a] ∧ SqT K H1 a xs ∧ R (IteT K a) H1
theorem pi_enumT {X : Cx} {e : Expr} {ta : TA} {p pos tpos : Pos} {elts : List Expr} {kk : Nat} (hg : Gl X "enumerate") (hm : X.mg "enumerate" = none) (ha : PA X [e] ta) (hs : starEach [e] X.env = [(false, eval e X.env)] := by rfl) :
    PI X (.Tuple elts kk tpos) (.Call (.Name "enumerate" p) [e] [] pos) (iEnumT X.K ta) := by
  refine ⟨fun pins s σ H R I q0 => Call_ (ld_blt I hg hm boot_enumerate (PyProof.Rows.callWith_type1 (thn (ha.run pos pins s σ H _ I q0) fun us s1 ⟨vs, H1, I1, r1, a, xs, ex, hq, q⟩ => ?_) hs rfl))⟩
  subst ex
  cases r1 with
  | cons r rr =>
    cases rr
    cases r
    obtain ⟨its, rv, p', hz⟩ := I1.tuple hq
    have hal : a < s1.heap.objs.size := by
      obtain ⟨o, ho, _⟩ := p'
      exact Heap.lt_size ho
    refine call_enumT (show s1.heap.IsTuple a its.toArray from p') fun g he hit hk => wpAny_pyIter_enum he ?_
    have I2 : Inv X pins σ H1 { s1 with heap := g } := I1.kept (t' := s1.toks) hk
    refine ⟨s1.heap.objs.size + 1, [s1.heap.objs.size + 1, s1.heap.objs.size], _, _, H1, rfl, I2, turn_enumT a (s1.heap.objs.size + 1) s1.heap.objs.size (Nat.ne_of_lt hal) (Nat.ne_of_lt (Nat.lt_succ_of_lt hal)), ⟨⟨.none, he⟩, hit, Nat.succ_ne_self _⟩, fun b hb => ?_, q⟩
    have le : s1.heap.objs.size ≤ b := by
      rcases List.mem_cons.mp hb with z | z
      · rw [z]
        exact Nat.le_add_right _ _
      · rw [List.mem_singleton.mp z]
        exact Nat.le_refl _
    exact I1.fpOk le (I1.hok.fresh le)
theorem walk_enumT {K : PySem.W.Frag} {a : Addr} {xs : List V} : Walk (IteT K a) xs.length (fun H => SqT K H a xs) (YPair (fun i => some (.int (i : Nat))) (fun i => xs[i]?)) := by
  refine ⟨fun i _ hi q => ⟨xs, xs[i], q, List.getElem?_eq_getElem hi⟩, fun _ q => ⟨xs, q, Nat.le_refl _⟩, fun i H v H' _ q ⟨T, x, h1, h2, h3, h4⟩ => ⟨T, .int (i : Nat), x, h1, h2, h3, rfl, h4 xs q⟩⟩
end One
end P_E5

section P_M4
set_option linter.all false
namespace One
/-! ### the look at a yard, line by line -/
def leB (p q : Nat × Nat) : Bool := decide (p.1 < q.1) || (decide (p.1 = q.1) && decide (p.2 ≤ q.2))
def notUp (p : Nat × Nat) : Option (Nat × Nat) → Bool
  | none => false
  | some q => leB p q
/-- the number of the first thing that can't be: none is what is no line -/
def goF : Nat → List Nat → Option (Nat × Nat) → List (Option (Nat × Nat)) → Option Nat
  | _, _, _, [] => none
  | k, _, _, none :: _ => some k
  | k, met, ah, some p :: r => if notUp p ah || met.contains p.1 || met.contains p.2 then some k else goF (k + 1) (met ++ [p.1, p.2]) (some p) r
theorem goF_pairs : ∀ (os : List (Option (Nat × Nat))) (k : Nat) (met : List Nat) (ah : Option (Nat × Nat)), goF k met ah os = none → os = (os.filterMap id).map some
  | [], _, _, _, _ => rfl
  | none :: r, k, met, ah, h => by cases h
  | some p :: r, k, met, ah, h => by
    unfold goF at h
    split at h
    · cases h
    · have := goF_pairs r _ _ _ h
      simp only [List.filterMap_cons, id, List.map_cons]
      rw [← this]
theorem goF_good : ∀ (ps : List (Nat × Nat)) (k : Nat) (met : List Nat) (ah : Option (Nat × Nat)), (∀ q, ah = some q → ∀ p ∈ ps, ltP q p) → ps.Pairwise ltP → (met ++ ends ps).Nodup → goF k met ah (ps.map some) = none
  | [], _, _, _, _, _, _ => rfl
  | p :: r, k, met, ah, h1, h2, h3 => by
    obtain ⟨hp, hr⟩ := List.pairwise_cons.mp h2
    have h3 : (met ++ (p.1 :: p.2 :: ends r)).Nodup := h3
    have n1 : ¬ p.1 ∈ met := fun m => (List.nodup_append.mp h3).2.2 _ m p.1 (by simp) rfl
    have n2 : ¬ p.2 ∈ met := fun m => (List.nodup_append.mp h3).2.2 _ m p.2 (by simp) rfl
    have up : notUp p ah = false := by
      cases e : ah with
      | none => rfl
      | some q =>
        have := h1 q e p (List.mem_cons.mpr (.inl rfl))
        unfold ltP at this
        unfold notUp leB
        simp only [Bool.or_eq_false_iff, Bool.and_eq_false_iff, decide_eq_false_iff_not]
        omega
    show (if notUp p ah || met.contains p.1 || met.contains p.2 then some k else goF (k + 1) (met ++ [p.1, p.2]) (some p) (r.map some)) = none
    rw [if_neg (by simp [up, n1, n2])]
    refine goF_good r _ _ _ (fun q e x hx => ?_) hr ?_
    · cases e
      exact hp x hx
    · rw [List.append_assoc]
      exact h3
theorem yard_good {n : Nat} {L : List (Nat × Nat)} (y : Yard n L) : goF 0 [] none (L.map some) = none := goF_good L 0 [] none (fun _ e => by cases e) y.up (by simpa using y.lines.nd)
end One
end P_M4

section P_E6
set_option linter.all false
set_option maxRecDepth 100000
set_option maxHeartbeats 8000000
namespace One
open PySem PySem.Spec PyProof.Rows L2
abbrev sFault : Stmt := top 20
abbrev nFault : List Str := ["thing", "many_ends", "taken", "ahead", "number", "line"]
theorem scFault : FnScope nFault ["thing"] (defScope sFault) := ⟨rfl, rfl, rfl, by decide +kernel, rfl, by decide +kernel, by decide +kernel⟩
/-- things that stand in a tuple, and what lines they are -/
inductive IL (H : Hp) (n : Nat) : List V → List (Option (Nat × Nat)) → Prop
  | nil : IL H n [] []
  | line {a p xs os} : PAt H a p → p.1 < p.2 → p.2 < n → IL H n xs os → IL H n (.ref a :: xs) (some p :: os)
  | flat {x T xs os} : TV H x T → isTup T = false → IL H n xs os → IL H n (x :: xs) (none :: os)
  | tup {a ys xs os} : H a = some (.tup ys) → (∀ y ∈ ys, ∃ T, TV H y T) → lineB ys n = false → IL H n xs os → IL H n (.ref a :: xs) (none :: os)
theorem IL.len {H : Hp} {n : Nat} {xs : List V} {os : List (Option (Nat × Nat))} (h : IL H n xs os) : xs.length = os.length := by
  induction h with
  | nil => rfl
  | line _ _ _ _ ih => simp [ih]
  | flat _ _ _ ih => simp [ih]
  | tup _ _ _ _ ih => simp [ih]
theorem IL.pairs {H : Hp} {n : Nat} : ∀ {ps : List (Nat × Nat)} {xs : List V}, IL H n xs (ps.map some) → ∃ as, xs = refs as ∧ PL H as ps ∧ ∀ p ∈ ps, p.1 < p.2 ∧ p.2 < n
  | [], _, .nil => ⟨[], rfl, .nil, fun p h => absurd h (by simp)⟩
  | p :: r, _, .line h1 h2 h3 t => by
    obtain ⟨as, e, h4, h5⟩ := IL.pairs t
    exact ⟨_ :: as, by rw [e]; rfl, .cons h1 h4, fun q hq => (List.mem_cons.mp hq).elim (fun e => e ▸ ⟨h2, h3⟩) (h5 q)⟩
theorem TV.mono {H H' : Hp} {v : V} {T : String} (h : TV H v T) (k : Same H H') : TV H' v T := by
  cases h with
  | non => exact .non
  | bl b => exact .bl b
  | int i => exact .int i
  | str x => exact .str x
  | tup e => exact .tup (k _ _ e)
  | lst e => exact .lst (k _ _ e)
  | dct e => exact .dct (k _ _ e)
theorem IL.mono {H H' : Hp} {n : Nat} {xs : List V} {os : List (Option (Nat × Nat))} (h : IL H n xs os) (k : Same H H') : IL H' n xs os := by
  induction h with
  | nil => exact .nil
  | line h1 h2 h3 _ ih => exact .line (k _ _ h1) h2 h3 ih
  | flat h1 h2 _ ih => exact .flat (h1.mono k) h2 ih
  | tup h1 h2 h3 _ ih => exact .tup (k _ _ h1) (fun y m => let ⟨T, t⟩ := h2 y m; ⟨T, t.mono k⟩) h3 ih
theorem IL.split {H : Hp} {n : Nat} {xs : List V} {os : List (Option (Nat × Nat))} (h : IL H n xs os) : ∀ {i : Nat} {x : V}, xs[i]? = some x → ∃ o, os[i]? = some o ∧ IL H n [x] [o] := by
  induction h with
  | nil => intro i x e; simp at e
  | line h1 h2 h3 _ ih =>
    intro i x e
    cases i with
    | zero =>
      have e := Option.some.inj e
      subst e
      exact ⟨_, rfl, .line h1 h2 h3 .nil⟩
    | succ i => exact ih (i := i) (by simpa using e)
  | flat h1 h2 _ ih =>
    intro i x e
    cases i with
    | zero =>
      have e := Option.some.inj e
      subst e
      exact ⟨_, rfl, .flat h1 h2 .nil⟩
    | succ i => exact ih (i := i) (by simpa using e)
  | tup h1 h2 h3 _ ih =>
    intro i x e
    cases i with
    | zero =>
      have e := Option.some.inj e
      subst e
      exact ⟨_, rfl, .tup h1 h2 h3 .nil⟩
    | succ i => exact ih (i := i) (by simpa using e)
/-- the line that stood ahead -/
def AheadAt (H : Hp) (a : Addr) : Option (Nat × Nat) → Prop
  | none => H a = some (.tup [])
  | some q => PAt H a q
theorem le_none (p : Nat × Nat) : Ob.lexAt (fun j => decide (([(p.1 : Int), (p.2 : Int)] : List Int).getD j 0 = ([] : List Int).getD j 0)) (fun j => decide (([(p.1 : Int), (p.2 : Int)] : List Int).getD j 0 ≤ ([] : List Int).getD j 0)) (decide (([(p.1 : Int), (p.2 : Int)] : List Int).length ≤ ([] : List Int).length)) 0 (min ([(p.1 : Int), (p.2 : Int)] : List Int).length ([] : List Int).length) = false := rfl
theorem le_some (p q : Nat × Nat) : Ob.lexAt (fun j => decide (([(p.1 : Int), (p.2 : Int)] : List Int).getD j 0 = ([(q.1 : Int), (q.2 : Int)] : List Int).getD j 0)) (fun j => decide (([(p.1 : Int), (p.2 : Int)] : List Int).getD j 0 ≤ ([(q.1 : Int), (q.2 : Int)] : List Int).getD j 0)) (decide (([(p.1 : Int), (p.2 : Int)] : List Int).length ≤ ([(q.1 : Int), (q.2 : Int)] : List Int).length)) 0 (min ([(p.1 : Int), (p.2 : Int)] : List Int).length ([(q.1 : Int), (q.2 : Int)] : List Int).length) = leB p q := by
  show (if decide ((p.1 : Int) = (q.1 : Int)) = true then (if decide ((p.2 : Int) = (q.2 : Int)) = true then true else decide ((p.2 : Int) ≤ (q.2 : Int))) else decide ((p.1 : Int) ≤ (q.1 : Int))) = leB p q
  unfold leB
  rw [Bool.eq_iff_iff]
  simp only [decide_eq_true_eq, Bool.or_eq_true, Bool.and_eq_true]
  constructor
  · intro h
    split at h
    · split at h
      · omega
      · simp only [decide_eq_true_eq] at h
        omega
    · simp only [decide_eq_true_eq] at h
      omega
  · intro h
    split
    · split
      · rfl
      · simp only [decide_eq_true_eq]
        omega
    · simp only [decide_eq_true_eq]
      omega
def spFault : Sp := fun vs H Q _ => ∃ v : V, vs = [v] ∧
  (((∃ T, TV H v T ∧ isTup T = false) ∨ ∃ (t : Addr) (xs : List V), v = .ref t ∧ H t = some (.tup xs) ∧ canBe (xs.length : Nat) = false) ∧ (∀ (H' : Hp) (p : Addr), Same H H' → H' p = some (.tup []) → Q (.ref p) H') ∨
  ∃ (t : Addr) (xs : List V) (os : List (Option (Nat × Nat))), v = .ref t ∧ H t = some (.tup xs) ∧ canBe (xs.length : Nat) = true ∧ IL H (2 * xs.length) xs os ∧
    (∀ k, goF 0 [] none os = some k → ∀ (H' : Hp) (p : Addr), Same H H' → H' p = some (.tup [.int (k : Nat)]) → Q (.ref p) H') ∧
    (goF 0 [] none os = none → ∀ ps, os = ps.map some → (Whole (xs.length / 2) ps → ∀ H', Same H H' → Q .non H') ∧ (¬ Whole (xs.length / 2) ps → ∀ (H' : Hp) (p : Addr), Same H H' → H' p = some (.tup [.int (xs.length : Nat)]) → Q (.ref p) H')))
section
variable {P : Program} {w : World} {K : PySem.W.Frag} {mg : Str → Option Value} {base : Heap}
theorem ok_fault {f fB fL fW : Addr} {fd fdB fdL fdW : FuncData} (F : Fun K "yard_fault" "yard_fault" sFault f fd) (T : TB mg) (B : Cal K mg "can_be_many_lines" fB fdB ["many"]) (GB : FnOk P w K mg base CX0 1 fB fdB ["many"] spCanBe)
    (L : Cal K mg "is_line" fL fdL ["thing", "many_ends"]) (GL : FnOk P w K mg base CX0 3 fL fdL ["thing", "many_ends"] spIsLine) (W : Cal K mg "is_whole" fW fdW ["lines"]) (GW : FnOk P w K mg base CX0 2 fW fdW ["lines"] spIsWhole) :
    FnOk P w K mg base CX0 4 f fd ["thing"] spFault := by
  refine F.ok scFault (fun vs H Q E h => ?_) (fun cdv A outer s H vs Q E hr h => ?_)
  · obtain ⟨v, rfl, _⟩ := h
    rfl
  · obtain ⟨v, rfl, h⟩ := h
    have nd := scFault.nd
    have hu := hu_of hr
    have hu0 : (A.deeper (envOfC "yard_fault" (defScope sFault) s.heap.objs.size f cdv)).units < cLine := Nat.lt_of_succ_lt hu
    have hr1 : Room 1 _ := hr.mono (by decide)
    have hrW : Room 2 _ := hr.mono (by decide)
    refine ⟨_, pss_cons (ps_if (pt_mid (PW.pt (pw_or (pt_not (pt_val (pe_callB call_isi (by rfl) T.isinstance boot_isinstance (pa_cons (pv 0) (pa_cons (pe_bltn (v := .ty "tuple") (by rfl) T.tuple boot_tuple rfl) pa_nil)))))
        (pw_or1 (pt_not (pt_val (pe_call GB hr1 rfl B.g B.kp B.b .nil pass0 (pa_cons (pe_callB call_len_seq (by rfl) T.len PySem.boot_len (pa_cons (pv 0) pa_nil)) pa_nil)))))))) (pss_one (ps_ret (pe_tup pa_nil))) pss_nil)
      (pss_cons (ps_set (i := 1) nd rfl (Or.inl rfl) (pe_op op_mul pe_int (pe_callB call_len_seq (by rfl) T.len PySem.boot_len (pa_cons (pv 0) pa_nil))))
      (pss_cons (ps_set (i := 2) nd rfl (Or.inl rfl) (pe_op op_rep (pe_lst (pa_cons pe_bl pa_nil)) (pv 1)))
      (pss_cons (ps_set (i := 3) nd rfl (Or.inl rfl) (pe_tup pa_nil))
      (pss_cons (ps_for PassesOwn.never rfl (pi_enumT (by rfl) T.enumerate (pa_cons (pv 0) pa_nil)) (pg_tup rfl (pgs_cons (pg_name (i := 4) nd rfl (Or.inl rfl)) (pgs_cons (pg_name (i := 5) nd rfl (Or.inl rfl)) pgs_nil)))
        (pss_cons (ps_if (pt_mid (PW.pt (pw_or (pt_not (pt_val (pe_call GL hr rfl L.g L.kp L.b .nil pass0 (pa_cons (pv 5) (pa_cons (pv 1) pa_nil)))))
            (pw_or (pt_cmpR (op_leT hu0) (pv 5) (pv 3) (nomark _)) (pw_or (pt_val (pe_ix ix_list (pv 2) (pe_ix ix_tup (pv 5) pe_int (fun _ _ => rfl)) (fun _ _ => rfl))) (pw_or1 (pt_val (pe_ix ix_list (pv 2) (pe_ix ix_tup (pv 5) pe_int (fun _ _ => rfl)) (fun _ _ => rfl)))))))))
            (pss_one (ps_ret (pe_tup (pa_cons (pv 4) pa_nil)))) pss_nil)
        (pss_cons (ps_asg2 pe_bl (pg_sub (pv 2) (pe_ix ix_tup (pv 5) pe_int (fun _ _ => rfl)) set_list) (pg_sub (pv 2) (pe_ix ix_tup (pv 5) pe_int (fun _ _ => rfl)) set_list))
        (pss_one (ps_set (i := 3) nd rfl (Or.inl rfl) (pv 5))))))
      (pss_one (ps_ret (pe_ifExp (pt_val (pe_call GW hrW rfl W.g W.kp W.b .nil pass0 (pa_cons (pv 0) pa_nil))) pe_non (pe_tup (pa_cons (pe_callB call_len_seq (by rfl) T.len PySem.boot_len (pa_cons (pv 0) pa_nil)) pa_nil))))))))), ?_⟩
    rcases h with ⟨h, k⟩ | ⟨t, xs, os, rfl, ht, hc, hI, k1, k2⟩
    · refine ⟨fun b H' => b = true ∧ Same H H', ?_, ?_⟩
      · rcases h with ⟨ty, hv, hT⟩ | ⟨t, xs, rfl, ht, hc⟩
        · refine ⟨_, rfl, v, _, _, _, _, rfl, .ty _, hv.tyx, hv.kTup, _, rfl, ?_⟩
          rw [hT]
          exact iteT ⟨rfl, Same.refl H⟩
        · refine ⟨_, rfl, _, _, _, _, _, rfl, .ty _, (TV.tup ht).tyx, (TV.tup ht).kTup, _, rfl, ?_⟩
          refine iteF ⟨_, rfl, t, _, rfl, .inr (SqT.of ht), _, rfl, fun H' s' => ⟨_, rfl, ?_⟩⟩
          rw [hc]
          exact ⟨rfl, s'⟩
      · rintro b H' ⟨rfl, s'⟩
        exact iteT ⟨Nat.zero_le _, fun p hp => k _ p (s'.trans (Same.new hp)) upd_same⟩
    · have hcb : 2 ≤ xs.length ∧ xs.length ≤ 80 ∧ xs.length % 2 = 0 := by
        unfold canBe at hc
        simp only [Bool.and_eq_true, decide_eq_true_eq] at hc
        omega
      refine ⟨fun b H' => b = false ∧ Same H H', ?_, ?_⟩
      · refine ⟨_, rfl, _, _, _, _, _, rfl, .ty _, (TV.tup ht).tyx, (TV.tup ht).kTup, _, rfl, ?_⟩
        refine iteF ⟨_, rfl, t, _, rfl, .inr (SqT.of ht), _, rfl, fun H' s' => ⟨_, rfl, ?_⟩⟩
        rw [hc]
        exact ⟨rfl, s'⟩
      · rintro b H1 ⟨rfl, s1⟩
        have ht1 := s1 _ _ ht
        have e2 : (2 : Int) * (xs.length : Nat) = ((2 * xs.length : Nat) : Int) := by omega
        refine iteF ⟨_, rfl, t, _, rfl, .inr (SqT.of ht1), _, _, rfl, rfl, .inl ⟨by decide, by decide⟩, ?_⟩
        refine ⟨by show 1 ≤ sizeLine; decide, fun l1 hl1 => ⟨_, rfl, l1, ((2 * xs.length : Nat) : Int), _, rfl, (by show V.int ((2 : Int) * (xs.length : Nat)) = _; rw [e2]), upd_same, by omega, by omega, (by show 1 * _ ≤ _; exact Nat.le_of_lt (small1000 (by omega))), fun tk htk => ?_⟩⟩
        have eR : (List.replicate ((2 * xs.length : Nat) : Int).toNat [V.bl false]).flatten = (List.replicate (2 * xs.length) false).map V.bl := by
          rw [show ((2 * xs.length : Nat) : Int).toNat = 2 * xs.length by omega, List.map_replicate]
          exact flat_rep _ _
        have s2 := Same.new (o := .lst [V.bl false]) hl1
        have s3 := Same.new (o := .lst (List.replicate ((2 * xs.length : Nat) : Int).toNat [V.bl false]).flatten) htk
        refine ⟨Nat.zero_le _, fun a0 ha0 => ?_⟩
        have s4 := Same.new (o := .tup []) ha0
        have sA := s1.trans (s2.trans (s3.trans s4))
        have htk0 : H tk = none := (s1.trans s2).free htk
        have ntk : ∀ b o, H b = some o → b ≠ tk := fun b o e => ne_of_none e htk0
        refine ⟨_, rfl, t, _, rfl, SqT.of (sA _ _ ht), for_it (walk_enumT (K := K) (a := t) (xs := xs)) (fun i σ H2 => ∃ (ah : Addr) (bs : List Bool) (met : List Nat) (o : Option (Nat × Nat)) (v4 v5 : Option V),
            σ = [some (.ref t), some (.int ((2 : Int) * (xs.length : Nat))), some (.ref tk), some (.ref ah), v4, v5] ∧ Same H H2 ∧ H2 tk = some (.lst (bs.map V.bl)) ∧ bs.length = 2 * xs.length ∧ (∀ e, e < 2 * xs.length → bs[e]? = some (met.contains e)) ∧ AheadAt H2 ah o ∧ goF i met o (os.drop i) = goF 0 [] none os)
          ⟨a0, List.replicate (2 * xs.length) false, [], none, none, none, rfl, sA, ?_, List.length_replicate, fun e he => by rw [List.getElem?_replicate, if_pos he]; rfl, upd_same, rfl⟩ (fun i σ H2 _ ⟨_, _, _, _, _, _, _, s', _⟩ => SqT.of (s' _ _ ht)) ?_ ?_⟩
        · rw [← eR]
          exact s4 _ _ upd_same
        · rintro i x σ H2 H3 hi ⟨ah, bs, met, o, v4, v5, rfl, s5, htk2, hbl, hbs, hah, hgo⟩ ⟨T, x', y', rfl, hT, rfl, ex, ey⟩
          cases ex
          have s6 := Same.new (o := .tup [V.int (i : Nat), y']) hT
          obtain ⟨oi, hoi, hI1⟩ := hI.split ey
          have hdrop : os.drop i = oi :: os.drop (i + 1) := by
            obtain ⟨hlt, e⟩ := List.getElem?_eq_some_iff.mp hoi
            rw [List.drop_eq_getElem_cons hlt, e]
          rw [hdrop] at hgo
          refine ⟨T, _, rfl, SqT.of upd_same, rfl, _, _, rfl, _, _, rfl, rfl, ?_⟩
          have htk3 := s6 _ _ htk2
          have nn : ((2 : Int) * (xs.length : Nat)) = ((2 * xs.length : Nat) : Int) := e2
          have bad : goF i met o (oi :: os.drop (i + 1)) = some i → ∀ (H4 : Hp), Same H H4 → tRet (tTup (tCons (tVar 4) tNil)) { nx := fun _ H' => Q .non H', rt := Q } [some (.ref t), some (.int ((2 : Int) * (xs.length : Nat))), some (.ref tk), some (.ref ah), some (.int (i : Nat)), some y'] H4 := by
            intro hb H4 s7
            refine ⟨_, rfl, by show 1 ≤ sizeLine; decide, fun p hp => ?_⟩
            exact k1 i (hgo.symm.trans hb) _ p (s7.trans (Same.new hp)) upd_same
          have hI3 := (hI1.mono s5).mono s6
          cases oi with
          | none =>
            refine ⟨fun b H4 => b = true ∧ Same (upd H2 T (.tup [V.int (i : Nat), y'])) H4, ?_, ?_⟩
            · have key : ∀ Q' : Bool → Hp → Prop, Q' false (upd H2 T (.tup [V.int (i : Nat), y'])) → spIsLine [y', .int ((2 : Int) * (xs.length : Nat))] (upd H2 T (.tup [V.int (i : Nat), y'])) (fun v H' => ∃ c, v = .bl c ∧ Q' c H') E0 := by
                intro Q' q
                cases hI3 with
                | flat h1 h2 _ => exact ⟨_, _, rfl, .inl ⟨_, h1, h2, false, rfl, q⟩⟩
                | tup h1 h2 h3 _ =>
                  refine ⟨_, _, rfl, .inr ⟨_, _, rfl, h1, h2, false, ?_, q⟩⟩
                  rw [nn, h3]
              refine ⟨_, rfl, _, rfl, ?_⟩
              exact key _ (iteT ⟨rfl, Same.refl _⟩)
            · rintro b H4 ⟨rfl, s7⟩
              exact iteT (bad rfl H4 (s5.trans (s6.trans s7)))
          | some p =>
            cases hI3 with
            | @line a _ _ _ pa hlt hn _ =>
              have q1 : p.1 < 2 * xs.length := by omega
              have g1 := hbs p.1 q1
              have g2 := hbs p.2 hn
              have at1 : atI (bs.map V.bl) ((p.1 : Nat) : Int) = some (V.bl (met.contains p.1)) := at_of (j := p.1) rfl (by rw [List.getElem?_map, g1]; rfl)
              have at2 : atI (bs.map V.bl) ((p.2 : Nat) : Int) = some (V.bl (met.contains p.2)) := at_of (j := p.2) rfl (by rw [List.getElem?_map, g2]; rfl)
              refine ⟨fun b H4 => b = (notUp p o || met.contains p.1 || met.contains p.2) ∧ H4 = upd H2 T (.tup [V.int (i : Nat), V.ref a]), ?_, ?_⟩
              · have hline : lineB [V.int (p.1 : Nat), V.int (p.2 : Nat)] ((2 : Int) * (xs.length : Nat)) = true := by
                  show (decide (0 ≤ ((p.1 : Nat) : Int)) && decide (((p.1 : Nat) : Int) < (2 : Int) * (xs.length : Nat)) && (decide (0 ≤ ((p.2 : Nat) : Int)) && decide (((p.2 : Nat) : Int) < (2 : Int) * (xs.length : Nat))) && decide (((p.1 : Nat) : Int) < ((p.2 : Nat) : Int))) = true
                  simp only [Bool.and_eq_true, decide_eq_true_eq]
                  omega
                refine ⟨_, rfl, _, rfl, _, _, rfl, .inr ⟨a, _, rfl, pa, fun y hy => ?_, _, rfl, ?_⟩⟩
                · simp only [List.mem_cons, List.not_mem_nil, or_false] at hy
                  rcases hy with rfl | rfl <;> exact ⟨_, .int _⟩
                rw [hline]
                refine iteF ⟨_, rfl, _, rfl, a, ah, [(p.1 : Int), (p.2 : Int)], (match o with | none => [] | some q => [(q.1 : Int), (q.2 : Int)]), rfl, rfl, SqT.of pa, ?_, _, rfl, ?_⟩
                · cases o with
                  | none => exact SqT.of (s6 _ _ hah)
                  | some q => exact SqT.of (s6 _ _ hah)
                have ele : ∀ (R : Bool → Prop), R (notUp p o) → R (Ob.lexAt (fun j => decide (([(p.1 : Int), (p.2 : Int)] : List Int).getD j 0 = ((match o with | none => [] | some q => [(q.1 : Int), (q.2 : Int)]) : List Int).getD j 0)) (fun j => decide (([(p.1 : Int), (p.2 : Int)] : List Int).getD j 0 ≤ ((match o with | none => [] | some q => [(q.1 : Int), (q.2 : Int)]) : List Int).getD j 0)) (decide (([(p.1 : Int), (p.2 : Int)] : List Int).length ≤ ((match o with | none => [] | some q => [(q.1 : Int), (q.2 : Int)]) : List Int).length)) 0 (min ([(p.1 : Int), (p.2 : Int)] : List Int).length ((match o with | none => [] | some q => [(q.1 : Int), (q.2 : Int)]) : List Int).length)) := by
                  intro R r
                  cases o with
                  | none => exact r
                  | some q =>
                    have := le_some p q
                    rw [this]
                    exact r
                refine ele (fun c => if c = true then _ else _) ?_
                refine ite2 (fun hu => ?_) (fun hu => ?_)
                · exact ⟨by rw [hu]; rfl, rfl⟩
                · have hu := Bool.eq_false_iff.mpr hu
                  refine ⟨_, rfl, _, rfl, a, _, _, _, rfl, rfl, SqT.of pa, rfl, tk, _, _, _, rfl, rfl, SqL.of htk3, at1, _, rfl, ?_⟩
                  refine ite2 (fun h1 => ?_) (fun h1 => ?_)
                  · exact ⟨by rw [hu, h1]; rfl, rfl⟩
                  · have h1 := Bool.eq_false_iff.mpr h1
                    refine ⟨_, rfl, _, rfl, a, _, _, _, rfl, rfl, SqT.of pa, rfl, tk, _, _, _, rfl, rfl, SqL.of htk3, at2, _, rfl, ?_, rfl⟩
                    rw [hu, h1]
                    rfl
              · rintro b H4 ⟨rfl, rfl⟩
                refine ite2 (fun hb => ?_) (fun hb => ?_)
                · refine bad ?_ _ (s5.trans s6)
                  show (if (notUp p o || met.contains p.1 || met.contains p.2) = true then some i else _) = some i
                  rw [if_pos hb]
                · have hgo2 : goF (i + 1) (met ++ [p.1, p.2]) (some p) (os.drop (i + 1)) = goF 0 [] none os := by
                    rw [← hgo]
                    show _ = (if (notUp p o || met.contains p.1 || met.contains p.2) = true then some i else _)
                    rw [if_neg hb]
                  have setB : ∀ (r : List Bool) (j : Nat), (r.map V.bl).set j (V.bl true) = (r.set j true).map V.bl := fun r j => (List.map_set).symm
                  have ntt : tk ≠ T := ne_of_none htk2 hT
                  refine ⟨_, rfl, _, rfl, a, _, _, _, rfl, rfl, SqT.of pa, rfl, tk, _, _, p.1, rfl, rfl, htk3, ix_nat (by rw [List.length_map, hbl]; exact q1), ?_⟩
                  rw [setB]
                  have w1 : ∀ b u, H b = some u → (upd (upd H2 T (.tup [V.int (i : Nat), V.ref a])) tk (.lst ((bs.set p.1 true).map V.bl))) b = some u := fun b u e => (upd_ne (ntk _ _ e)).trans (s6 _ _ (s5 _ _ e))
                  have kt : ∀ b zs, (upd H2 T (.tup [V.int (i : Nat), V.ref a])) b = some (.tup zs) → b ≠ tk := fun b zs e => ne_of e htk3 (by intro z; cases z)
                  have pa4 : PAt (upd (upd H2 T (.tup [V.int (i : Nat), V.ref a])) tk (.lst ((bs.set p.1 true).map V.bl))) a p := (upd_ne (kt _ _ pa)).trans pa
                  refine ⟨_, rfl, _, rfl, a, _, _, _, rfl, rfl, SqT.of pa4, rfl, tk, _, _, p.2, rfl, rfl, upd_same, ix_nat (by rw [List.length_map, List.length_set, hbl]; exact hn), ?_⟩
                  rw [setB]
                  refine ⟨_, rfl, a, (bs.set p.1 true).set p.2 true, met ++ [p.1, p.2], some p, _, _, rfl, fun b u e => (upd_ne (ntk _ _ e)).trans (w1 b u e), upd_same, by rw [List.length_set, List.length_set]; exact hbl, fun e he => ?_, (upd_ne (kt _ _ pa)).trans pa4, hgo2⟩
                  have cm : (met ++ [p.1, p.2]).contains e = (met.contains e || decide (e = p.1) || decide (e = p.2)) := by
                    rw [Bool.eq_iff_iff]
                    simp [or_assoc]
                  rw [cm]
                  by_cases e2' : p.2 = e
                  · subst e2'
                    rw [List.getElem?_set_self (by rw [List.length_set, hbl]; exact he)]
                    simp
                  · rw [List.getElem?_set_ne e2']
                    by_cases e1' : p.1 = e
                    · subst e1'
                      rw [List.getElem?_set_self (by rw [hbl]; exact he)]
                      simp
                    · rw [List.getElem?_set_ne e1', hbs e he, decide_eq_false (fun z => e1' z.symm), decide_eq_false (fun z => e2' z.symm), Bool.or_false, Bool.or_false]
        · rintro σ H2 ⟨ah, bs, met, o, v4, v5, rfl, s5, htk2, hbl, hbs, hah, hgo⟩
          rw [hI.len, List.drop_length] at hgo
          have hno : goF 0 [] none os = none := hgo.symm
          have hos := goF_pairs os 0 [] none hno
          generalize os.filterMap id = ps at hos
          subst hos
          obtain ⟨k3, k4⟩ := k2 hno ps rfl
          obtain ⟨as, rfl, hP, hlt⟩ := hI.pairs
          have hla : as.length = ps.length := hP.len
          have nl : (refs as).length = as.length := List.length_map _
          refine ⟨_, rfl, t, (refs as).length / 2, as, ps, rfl, s5 _ _ ht, hP.mono (sameT s5), ⟨by omega, by omega, fun p hp => ?_⟩, by omega, fun H4 b s6 hb => ⟨b, rfl, ?_⟩⟩
          · have := hlt p hp
            omega
          cases b with
          | true => exact iteT (k3 (hb.mp rfl) _ (s5.trans s6))
          | false =>
            have ht4 := s6 _ _ (s5 _ _ ht)
            refine iteF ⟨_, rfl, t, _, rfl, .inr (SqT.of ht4), by show 1 ≤ sizeLine; decide, fun p hp => ?_⟩
            exact k4 (fun hw => by cases hb.mpr hw) _ p (s5.trans (s6.trans (Same.new hp))) upd_same
end
end One
end P_E6

section P_G1
set_option linter.all false
set_option maxRecDepth 100000
set_option maxHeartbeats 4000000
namespace One
open PySem PySem.Spec PyProof.Rows L2
/-! ### promises for runs in which nothing is being shown -/
structure FnG (P : Program) (w : World) (K : PySem.W.Frag) (mg : Str → Option Value) (base : Heap) (CX : CXT) (k : Nat) (f : Addr) (fd : FuncData) (ps : List Str) (sp : Sp) : Prop where
  len : ∀ vs H Q E, sp vs H Q E → vs.length = ps.length
  go : ∀ (A : Around) (outer : List Env) (s : Shared) (H : Hp) (args : Args) (us : List Value) (vs : List V) (Q : VK) (E : XK), A.guards = some [] → Room k A → Env0 P w K mg base A outer s H →
    BindsTo s fd args (ps.zip us) → Vals vs us → sp vs H Q E → codeAny (model P w) A (.call (.ref f) args) (CR CX outer P w H s Q E) s
theorem FnG.of {P : Program} {w : World} {K : PySem.W.Frag} {mg : Str → Option Value} {base : Heap} {CX : CXT} {k : Nat} {f : Addr} {fd : FuncData} {ps : List Str} {sp : Sp} (F : FnOk P w K mg base CX k f fd ps sp) : FnG P w K mg base CX k f fd ps sp :=
  ⟨F.len, fun A outer s H args us vs Q E _ => F.run A outer s H args us vs Q E⟩
theorem FnG.mono {P : Program} {w : World} {K : PySem.W.Frag} {mg : Str → Option Value} {base : Heap} {CX : CXT} {j k : Nat} {f : Addr} {fd : FuncData} {ps : List Str} {sp : Sp} (F : FnG P w K mg base CX j f fd ps sp) (h : j ≤ k) : FnG P w K mg base CX k f fd ps sp :=
  ⟨F.len, fun A outer s H args us vs Q E hg hr => F.go A outer s H args us vs Q E hg (hr.mono h)⟩
section
variable {P : Program} {w : World} {K : PySem.W.Frag} {mg : Str → Option Value} {base : Heap}
/-- a def by its body -/
theorem okG {CX : CXT} {x qual : Str} {st : Stmt} {f : Addr} {fd : FuncData} {N ps : List Str} {k : Nat} {sp : Sp} (F : Fun K x qual st f fd) (S : FnScope N ps (defScope st)) (len : ∀ vs H Q E, sp vs H Q E → vs.length = ps.length)
    (body : ∀ (cdv : Value) (A : Around) (outer : List Env) (s : Shared) (H : Hp) (vs : List V) (Q : VK) (E : XK), A.guards = some [] → Room k (A.deeper (envOfC qual (defScope st) s.heap.objs.size f cdv)) → sp vs H Q E →
      ∃ t, PSs (cxOf CX P w K mg base N qual (defScope st) f cdv A outer s H E) (defBody st) t ∧ t { nx := fun _ H' => Q .non H', rt := Q } (start N vs) H) : FnG P w K mg base CX (k + 1) f fd ps sp := by
  obtain ⟨oc, od, kV, doc, pm, an, cdv, ct, osl, rfl, lk, hcd⟩ := F.ex
  exact ⟨len, fun A outer s H args us vs Q E hg hr e0 hb r hs => LamX.run_ofS lk hcd S hr e0 hb r (len _ _ _ _ hs) fun hr1 => body cdv A outer s H vs Q E hg hr1 hs⟩
/-- .. that lets nothing out -/
theorem okG0 {x qual : Str} {st : Stmt} {f : Addr} {fd : FuncData} {N ps : List Str} {k : Nat} {sp : Sp} (F : Fun K x qual st f fd) (S : FnScope N ps (defScope st)) (len : ∀ vs H Q E, sp vs H Q E → vs.length = ps.length)
    (body : ∀ (cdv : Value) (A : Around) (outer : List Env) (s : Shared) (H : Hp) (vs : List V) (Q : VK) (E : XK), A.guards = some [] → Room k (A.deeper (envOfC qual (defScope st) s.heap.objs.size f cdv)) → sp vs H Q E →
      ∃ t, PSs (cxOf CX0 P w K mg base N qual (defScope st) f cdv A outer s H E).nox (defBody st) t ∧ t { nx := fun _ H' => Q .non H', rt := Q } (start N vs) H) : FnG P w K mg base CX0 (k + 1) f fd ps sp :=
  okG F S len fun cdv A outer s H vs Q E hg hr hs => let ⟨t, h, q⟩ := body cdv A outer s H vs Q E hg hr hs; ⟨t, h.nox, q⟩
end
section
variable {X : Cx} {CX : CXT} {k : Nat} {f : Addr} {fd : FuncData} {ps : List Str} {sp : Sp} {dvs : List V} {ds : List Value} {E : XK} {x : Str} {p pos : Pos} {e : Expr} {es : List Expr} {t : TA}
theorem goG {pins : List (Addr × Obj)} {σ : L2.St} {H : Hp} {s : Shared} {Q : VK} {us : List Value} {vs : List V} (F : FnG X.prog X.w X.K X.mg X.base CX k f fd ps sp) (hgd : X.A.guards = some []) (hr : Room k X.A) (hb : Binds X.K fd ps ds) (hd : Vals dvs ds)
    (hx : Passes CX X E) (I : Inv X pins σ H s) (r : Vals vs us) (h : sp (vs ++ dvs) H Q E) : wpAny (model X.prog X.w) X.A (call (.ref f) us) (EP X pins σ Q) X.xe s := by
  have r2 := r.append hd
  have hl : (us ++ ds).length = ps.length := r2.length.symm.trans (F.len _ _ _ _ h)
  refine wpAny_call (codeAny_mono (F.go X.A X.stack s H ⟨us, []⟩ _ _ Q E hgd hr I.env0 (hb s us I.kIn hl) r2 h) fun r s' hq => ?_)
  match r, hq with
  | .error e, hq => exact hx pins σ H s e s' I hq
  | .ok (.ret u), hq => exact I.after hq
  | .ok .next, hq => exact hq.elim
  | .ok .brk, hq => exact hq.elim
  | .ok .cont, hq => exact hq.elim
theorem pe_callG (F : FnG X.prog X.w X.K X.mg X.base CX k f fd ps sp) (hgd : X.A.guards = some []) (hr : Room k X.A) (hg : Gl X x) (hm : X.mg x = some (.ref f)) (hk : PySem.W.keepIn X.K (.ref f) = true) (hb : Binds X.K fd ps ds) (hd : Vals dvs ds) (hx : Passes CX X E)
    (ha : PA X (e :: es) t) (hdb : (x == ("__debug__" : Str)) = false := by decide) (he : starEach (e :: es) X.env = (false, eval e X.env) :: starEach es X.env := by rfl) (hpl : (backTo pos (starEach es X.env)).any (·.1) = false := by rfl) : PE X (.Call (.Name x p) (e :: es) [] pos) (tCall sp dvs E t) := by
  refine ⟨fun pins s σ H Q I h => wpAny_Call_Name_kw (ld_glob I hg hm ?_ hdb)⟩
  exact PySem.W.callWith_K (h₀ := X.base) I.ok.mod.kin hk (thn (ha.run pos pins s σ H _ I h) fun us s1 ⟨vs, H1, I1, r, q⟩ => ⟨I1.kIn, goG F hgd hr hb hd hx I1 r q⟩) he hpl
/-- repr(..) of a list or a tuple, at any depth -/
theorem call_repr_data (hgd : X.A.guards = some []) (hu : X.A.units + 64 < cLine) : CallR X (.builtin "repr") (fun xs H Q => ∃ (a : Addr) (d : PyData), xs = [.ref a] ∧ Dp X.K H (.ref a) d ∧ d.showable = true ∧ d.hasDict = false ∧ d.depth ≤ 16 ∧ d.shown.length ≤ sizeLine ∧ Q (.str d.shown) H) := by
  intro pins s σ H xs us Q I r h
  obtain ⟨a, d, rfl, hd, h1, h2, h3, h4, q⟩ := h
  obtain ⟨u, rfl, e⟩ := vals1 r
  cases e
  obtain ⟨as, hR⟩ := Dp.reads I d _ _ hd rfl
  exact repr_of_reads' hR h1 (fun z => Bool.noConfusion (h2.symm.trans z)) hgd (by omega) (fun _ _ e => e) (fun h' u tk hk => ⟨.str d.shown, H, I.kept hk, ⟨_, rfl⟩, q⟩) h4
end
end One
end P_G1

section P_G2
set_option linter.all false
set_option maxRecDepth 100000
set_option maxHeartbeats 4000000
namespace One
open PySem PySem.Spec PyProof.Rows L2
/-! ### a tuple of pairs, as data -/
def prD (p : Nat × Nat) : PyData := .tuple [.int (p.1 : Nat), .int (p.2 : Nat)]
def yd (ps : List (Nat × Nat)) : PyData := .tuple (ps.map prD)
theorem dp_pair {K : PySem.W.Frag} {H : Hp} {a : Addr} {p : Nat × Nat} (h : PAt H a p) : Dp K H (.ref a) (prD p) := .tup (SqT.of h) (.cons (.int _) (.cons (.int _) .nil))
theorem dp_pairs {K : PySem.W.Frag} {H : Hp} {as : List Addr} {ps : List (Nat × Nat)} (h : PL H as ps) : DpAll K H (refs as) (ps.map prD) := by
  induction h with
  | nil => exact .nil
  | cons h1 _ ih => exact .cons (dp_pair h1) ih
theorem dp_yd {K : PySem.W.Frag} {H : Hp} {t : Addr} {as : List Addr} {ps : List (Nat × Nat)} (ht : H t = some (.tup (refs as))) (h : PL H as ps) : Dp K H (.ref t) (yd ps) := .tup (SqT.of ht) (dp_pairs h)
theorem int_short : ∀ n : Nat, n < 1000 → (PyData.shown (.int (n : Nat))).length ≤ 8 := by
  have h : ∀ n : Fin 1000, (PyData.shown (.int ((n : Nat) : Int))).length ≤ 8 := by decide +kernel
  exact fun n hn => h ⟨n, hn⟩
theorem log_small {n : Nat} (h : n < 1000) : n.log2 < 1920 := by
  by_cases h0 : n = 0
  · subst h0; decide
  · exact (Nat.log2_lt h0).mpr (Nat.lt_of_lt_of_le h (Nat.le_trans (by decide : 1000 ≤ 2 ^ 10) (Nat.pow_le_pow_right (by decide) (by decide))))
theorem yd_all : ∀ ps : List (Nat × Nat), (∀ p ∈ ps, p.1 < 1000 ∧ p.2 < 1000) → PyData.showableAll (ps.map prD) = true ∧ PyData.hasDictAll (ps.map prD) = false ∧ PyData.depthAll (ps.map prD) ≤ 1 ∧ PyData.leavesShortAll 8 (ps.map prD) = true ∧ PyData.bulkAll (ps.map prD) = 3 * ps.length
  | [], _ => ⟨rfl, rfl, Nat.zero_le _, rfl, rfl⟩
  | p :: r, h => by
    obtain ⟨h1, h2, h3, h4, h5⟩ := yd_all r fun q m => h q (List.mem_cons_of_mem _ m)
    obtain ⟨q1, q2⟩ := h p (List.mem_cons_self ..)
    have a1 : PyData.showable (prD p) = true := by
      show (decide (((p.1 : Nat) : Int).natAbs.log2 < 1920) && (decide (((p.2 : Nat) : Int).natAbs.log2 < 1920) && true)) = true
      simp only [Int.natAbs_natCast, Bool.and_eq_true, decide_eq_true_eq, and_true]
      exact ⟨log_small q1, log_small q2⟩
    have a4 : PyData.leavesShort 8 (prD p) = true := by
      show (decide (_ ≤ 8) && (decide (_ ≤ 8) && true)) = true
      simp only [Bool.and_eq_true, decide_eq_true_eq, and_true]
      exact ⟨int_short _ q1, int_short _ q2⟩
    refine ⟨?_, ?_, ?_, ?_, ?_⟩
    · show (PyData.showable (prD p) && PyData.showableAll _) = true
      rw [a1, h1]; rfl
    · show (PyData.hasDict (prD p) || PyData.hasDictAll _) = false
      rw [h2]; rfl
    · show max (PyData.depth (prD p)) (PyData.depthAll _) ≤ 1
      exact Nat.max_le.mpr ⟨Nat.le_refl 1, h3⟩
    · show (PyData.leavesShort 8 (prD p) && PyData.leavesShortAll 8 _) = true
      rw [a4, h4]; rfl
    · show PyData.bulk (prD p) + 1 + PyData.bulkAll _ = _
      rw [h5]
      show 0 + 1 + (0 + 1 + 0) + 1 + 3 * r.length = 3 * (r.length + 1)
      omega
theorem yd_fine {ps : List (Nat × Nat)} (h : ∀ p ∈ ps, p.1 < 1000 ∧ p.2 < 1000) (hl : ps.length ≤ 1000) : (yd ps).showable = true ∧ (yd ps).hasDict = false ∧ (yd ps).depth ≤ 16 ∧ (yd ps).shown.length ≤ sizeLine := by
  obtain ⟨h1, h2, h3, h4, h5⟩ := yd_all ps h
  refine ⟨h1, h2, ?_, ?_⟩
  · show PyData.depthAll _ + 1 ≤ 16
    omega
  · have q := PyData.shown_le_bulk 8 (Nat.le_refl _) (yd ps) h4
    have e : (yd ps).bulk = 3 * ps.length := h5
    rw [e] at q
    have : (40000 : Nat) ≤ sizeLine := by decide
    omega
def rRepr (K : PySem.W.Frag) : List V → Hp → VK → Prop := fun xs H Q => ∃ (a : Addr) (d : PyData), xs = [.ref a] ∧ Dp K H (.ref a) d ∧ d.showable = true ∧ d.hasDict = false ∧ d.depth ≤ 16 ∧ d.shown.length ≤ sizeLine ∧ Q (.str d.shown) H
/-- repr(..) of a tuple of pairs -/
theorem repr_yd {K : PySem.W.Frag} {H : Hp} {t : Addr} {as : List Addr} {ps : List (Nat × Nat)} {Q : VK} (ht : H t = some (.tup (refs as))) (hp : PL H as ps) (h : ∀ p ∈ ps, p.1 < 1000 ∧ p.2 < 1000) (hl : ps.length ≤ 1000) (q : Q (.str (yd ps).shown) H) : rRepr K [.ref t] H Q := by
  obtain ⟨h1, h2, h3, h4⟩ := yd_fine h hl
  exact ⟨t, _, rfl, dp_yd ht hp, h1, h2, h3, h4, q⟩
theorem cr_repr {X : Cx} (hgd : X.A.guards = some []) (hu : X.A.units + 64 < cLine) : CallR X (.builtin "repr") (rRepr X.K) := call_repr_data hgd hu
end One
end P_G2

section P_V1
set_option linter.all false
set_option maxRecDepth 100000
set_option maxHeartbeats 4000000
namespace One
open PySem PySem.Spec PyProof.Rows L2
/-! ### repr of anything that the laws hand in: also where empty dicts stand in it -/
mutual
inductive Dq (H : Hp) : V → PyData → Prop
  | non : Dq H .non .none
  | bl (b : Bool) : Dq H (.bl b) (.bool b)
  | int (i : Int) : Dq H (.int i) (.int i)
  | str (x : Str) : Dq H (.str x) (.str x)
  | lst {a : Addr} {xs : List V} {ds : List PyData} : a ≠ sysModules → H a = some (.lst xs) → DqAll H xs ds → Dq H (.ref a) (.list ds)
  | tup {a : Addr} {xs : List V} {ds : List PyData} : H a = some (.tup xs) → DqAll H xs ds → Dq H (.ref a) (.tuple ds)
  | emp {a : Addr} : H a = some (.dK []) → Dq H (.ref a) (.dict [])
inductive DqAll (H : Hp) : List V → List PyData → Prop
  | nil : DqAll H [] []
  | cons {v : V} {vs : List V} {d : PyData} {ds : List PyData} : Dq H v d → DqAll H vs ds → DqAll H (v :: vs) (d :: ds)
end
section
variable {X : Cx} {pins : List (Addr × Obj)} {σ : L2.St} {H : Hp} {s : Shared}
mutual
theorem Dq.reads (I : Inv X pins σ H s) : ∀ (d : PyData) (v : V) (u : Value), Dq H v d → RelV v u → ∃ as, Reads s.heap u d as ∧ sysModules ∉ as
  | .none, _, _, h, r => by
    cases h
    cases r
    exact ⟨_, Reads.none, by simp⟩
  | .bool b, _, _, h, r => by
    cases h
    cases r
    exact ⟨_, Reads.bool b, by simp⟩
  | .int i, _, _, h, r => by
    cases h
    obtain ⟨t, rfl⟩ := r
    exact ⟨_, Reads.int i t, by simp⟩
  | .str x, _, _, h, r => by
    cases h
    obtain ⟨t, rfl⟩ := r
    exact ⟨_, Reads.str x t, by simp⟩
  | .list ds, _, _, h, r => by
    cases h with
    | lst hne hs ha =>
      cases r
      obtain ⟨its, rv, ⟨o, n, ho, hc, _, hd⟩, _⟩ := I.list (SqL.of hs)
      obtain ⟨as, hr, hn⟩ := Dq.readsAll I ds _ its ha rv
      refine ⟨_, Reads.list ho hc hd hr, fun m => ?_⟩
      rcases List.mem_cons.mp m with e | m
      · exact hne e.symm
      · exact hn m
  | .tuple ds, _, _, h, r => by
    cases h with
    | tup hs ha =>
      cases r
      obtain ⟨its, rv, ⟨o, ho, hc, n, hd⟩, _⟩ := I.tuple (SqT.of hs)
      obtain ⟨as, hr, hn⟩ := Dq.readsAll I ds _ its ha rv
      exact ⟨_, Reads.tuple ho hc hd hr, hn⟩
  | .dict kvs, _, _, h, r => by
    cases h with
    | @emp a hs =>
      cases r
      obtain ⟨_, hne, vs, hkv, o, es, ep, ho, hex, hda, _, hp, _⟩ := (show ObjOk X.prog X.w H s.heap a (.dK []) from I.hok a _ hs)
      cases hkv
      have e0 : es.toList = [] := by
        generalize es.toList = l at hp
        cases hp
        rfl
      refine ⟨_, Reads.dict ho hex.1 hda (by rw [e0]; exact .nil) (by rw [e0]; exact .nil), fun m => ?_⟩
      have e : sysModules = a := List.mem_singleton.mp (by simpa using m)
      exact beq_eq_false_iff_ne.mp hne e.symm
theorem Dq.readsAll (I : Inv X pins σ H s) : ∀ (ds : List PyData) (vs : List V) (us : List Value), DqAll H vs ds → Vals vs us → ∃ as, ReadsAll s.heap us ds as ∧ sysModules ∉ as
  | [], _, _, h, r => by
    cases h
    cases r
    exact ⟨_, ReadsAll.nil, by simp⟩
  | d :: ds, _, _, h, r => by
    cases h with
    | cons h1 h2 =>
      cases r with
      | cons r1 r2 =>
        obtain ⟨as, q1, n1⟩ := Dq.reads I d _ _ h1 r1
        obtain ⟨bs, q2, n2⟩ := Dq.readsAll I ds _ _ h2 r2
        exact ⟨_, ReadsAll.cons q1 q2, fun m => (List.mem_append.mp m).elim n1 n2⟩
end
end
def rReprQ (K : PySem.W.Frag) : List V → Hp → VK → Prop := fun xs H Q => ∃ (v : V) (d : PyData), xs = [v] ∧ (Dp K H v d ∧ d.hasDict = false ∨ Dq H v d) ∧ d.showable = true ∧ d.depth ≤ 16 ∧ d.shown.length ≤ sizeLine ∧ Q (.str d.shown) H
theorem cr_reprQ {X : Cx} (hgd : X.A.guards = some []) (hu : X.A.units + 64 < cLine) : CallR X (.builtin "repr") (rReprQ X.K) := by
  intro pins s σ H xs us Q I r h
  obtain ⟨v, d, rfl, hd, h1, h3, h4, q⟩ := h
  obtain ⟨u, rfl, e⟩ := vals1 r
  have rd : ∀ {a : Addr}, u = .ref a → ∃ as, Reads s.heap u d as ∧ (d.hasDict = true → sysModules ∉ as) := fun {a} ea => by
    rcases hd with ⟨hd, hn⟩ | hd
    · obtain ⟨as, hR⟩ := Dp.reads I d _ _ hd e
      exact ⟨as, hR, fun z => Bool.noConfusion (hn.symm.trans z)⟩
    · obtain ⟨as, hR, hn⟩ := Dq.reads I d _ _ hd e
      exact ⟨as, hR, fun _ => hn⟩
  have big : ∀ {a : Addr}, u = .ref a → wpAny (model X.prog X.w) X.A (call (.builtin "repr") [u]) (EP X pins σ Q) X.xe s := fun {a} ea => by
    obtain ⟨as, hR, hn⟩ := rd ea
    subst ea
    exact repr_of_reads' hR h1 hn hgd (by omega) (fun _ _ e => e) (fun h' u tk hk => ⟨.str d.shown, H, I.kept hk, ⟨_, rfl⟩, q⟩) h4
  cases v with
  | non =>
    have ed : d = .none := by
      rcases hd with ⟨hd, _⟩ | hd <;> cases hd <;> rfl
    subst ed
    cases e
    exact PySem.P.repr_of_none ⟨.str _, H, I.tok _, ⟨_, rfl⟩, q⟩
  | bl b =>
    have ed : d = .bool b := by
      rcases hd with ⟨hd, _⟩ | hd <;> cases hd <;> rfl
    subst ed
    cases e
    refine PySem.P.repr_of_bool ⟨.str _, H, I.tok _, ⟨_, rfl⟩, ?_⟩
    cases b <;> exact q
  | int i =>
    have ed : d = .int i := by
      rcases hd with ⟨hd, _⟩ | hd <;> cases hd <;> rfl
    subst ed
    obtain ⟨t, rfl⟩ := e
    exact PySem.P.repr_of_int (of_decide_eq_true h1) ⟨.str _, H, I.tok _, ⟨_, rfl⟩, q⟩
  | str x =>
    have ed : d = .str x := by
      rcases hd with ⟨hd, _⟩ | hd <;> cases hd <;> rfl
    subst ed
    obtain ⟨t, rfl⟩ := e
    exact PySem.P.repr_of_str ⟨.str _, H, I.tok _, ⟨_, rfl⟩, q⟩ h4
  | ref a => exact big e
  | _ => exfalso; rcases hd with ⟨hd, _⟩ | hd <;> cases hd
end One
end P_V1

section P_X1
set_option linter.all false
set_option maxRecDepth 100000
set_option maxHeartbeats 4000000
/-! An own exception, some way below ValueError, whose __init__ says super().__init__(f'..{f}'); self.f = f -/
namespace One
open PySem PySem.W PySem.Calls PyProof.Rows PySem.HandSPX L2
def xA (fld : Str) (p1 p2 : Pos) : Arguments := { posonlyargs := [], args := [{ arg := "self", annotation := none, pos := p1 }, { arg := fld, annotation := none, pos := p2 }], vararg := none, kwonlyargs := [], kw_defaults := [], kwarg := none, defaults := [] }
abbrev xJ (pre fld : Str) (a3 a4 a5 a6 : Pos) : Expr := .JoinedStr [.Constant (.str pre) 0 a3, .FormattedValue (.Name fld a4) (-1) none a5] a6
abbrev xO (a0 a1 : Pos) : Expr := .Call (.Name "super" a0) [] [] a1
abbrev xB (pre fld : Str) (a0 a1 a2 a3 a4 a5 a6 a7 a8 a9 b0 b1 b2 : Pos) : List Stmt := [.Expr (.Call (.Attribute (xO a0 a1) "__init__" a2) [xJ pre fld a3 a4 a5 a6] [] a7) a8, .Assign [.Attribute (.Name "self" a9) fld b0] (.Name fld b1) b2]
def xS (fld : Str) : Scope := { kind := .function, names := [(PySem.Str.ofString "self", .local), (fld, .local), (PySem.Str.ofString "__class__", .free), (PySem.Str.ofString "super", .globalImplicit)], isGenerator := false, isCoroutine := false, more := [] }

def FldOk (fld : Str) : Prop := fld = "place" ∨ fld = "way" ∨ fld = "many"
/-- the value may be shown in an f-string: some text of bounded length, the heap unchanged -/
def FmtOk (P : Program) (w : World) (h : Heap) (v : Value) : Prop := ∀ (A : Around) (E : Value → Shared → Prop) (s : Shared) (Q : Value → Shared → Prop), A.units + 64 < cLine → (∀ b o, h.get? b = some o → s.heap.get? b = some o) →
  (∀ (m : Str) (u tk : Tok), m.length ≤ 100000 → Q (.str m u) { s with toks := tk }) → wpAny (model P w) A (formatField v Str.empty) Q E s
theorem FmtOk.keeps {P : Program} {w : World} {h h' : Heap} {v : Value} (f : FmtOk P w h v) (k : ∀ b o, h.get? b = some o → h'.get? b = some o) : FmtOk P w h' v := fun A E s Q hu hk q => f A E s Q hu (fun b o e => hk b o (k b o e)) q
/-- the form of such an __init__ -/
def Shape (st : Stmt) (fld : Str) : Prop := ∃ (p1 p2 : Pos) (pre : Str) (a0 a1 a2 a3 a4 a5 a6 a7 a8 a9 b0 b1 b2 : Pos), defArgs st = xA fld p1 p2 ∧ defBody st = xB pre fld a0 a1 a2 a3 a4 a5 a6 a7 a8 a9 b0 b1 b2 ∧ defScope st = xS fld ∧ pre.length ≤ 1000 ∧
  ∀ env, eval (.Call (.Attribute (xO a0 a1) "__init__" a2) [xJ pre fld a3 a4 a5 a6] [] a7) env = (do
    let ov ← attributeBase (xO a0 a1) "__init__" env (eval (xO a0 a1) env)
    standAt a2.atName
    let (f, first) ← holding [ov] (getMethod ov "__init__" (do return (← importBound (xO a0 a1) env).getD true))
    callWith a7 f first (backTo a7 (starEach [xJ pre fld a3 a4 a5 a6] env)) [])
/-- what the written part says of such a class, at C, and of its __init__, at fI -/
structure OwnTxt (P : Program) (K : Frag) (st : Stmt) (fld : Str) (C fI : Addr) : Prop where
  cls : ∃ nm q N bs bm sn sub ab col dd k0 k1 k2 k3 k5, K.lookup C = some (excClassObj nm q C N bs bm true sn sub ab col dd k0 k1 k2 k3 k5 "ValueError.__new__") ∧ refsVE bm = true ∧ alongIn K "__init__" (((Value.ref C :: bm).dropWhile (· != .ref C)).drop 1) = some (some (.builtin "ValueError.__init__"))
  sa : findIn K (.ref C) "__setattr__" = some (some (.builtin "object.__setattr__"))
  noF : findIn K (.ref C) fld = some none
  veB : subIn K (.ref C) (.type "ValueError") = some true
  self : mroIn K C (.ref C) = some true
  op : nsIn K cStatics "thirdparty.any" = some none
  top : (P.main.scope.names.lookup ("super" : Str)).isSome = false
  shape : Shape st fld
  fn : ∃ (oc : Value) (od : Option Addr) (qual : Str) (doc pm : Value) (an : Option Addr) (cda cc : Addr) (ct : Value) (osl : Array (Option Value)) (ccl cl : Value) (cdd cld : Option Addr) (vs : Array Value) (ccs csl : Array (Option Value)) (file : Str) (tf : Tok),
    K.lookup fI = some ⟨oc, od, .func (ksFn "__init__" qual (defArgs st) (defBody st) (defScope st) .none .none doc pm an (.ref cda) ct cc), osl⟩ ∧ codeIn K (.ref cda) qual = true ∧ K.lookup cda = some ⟨ccl, cdd, .fields vs, ccs⟩ ∧ vs[2]? = some (.str file tf) ∧
    ((P.main.file : Str) == file) = true ∧ K.lookup cc = some ⟨cl, cld, .cell (some (.ref C)), csl⟩
theorem ns_but {h h' : Heap} {a : Addr} {m : Str → Option Value} (hn : h.Ns a m) (k : ∀ o, h.get? a = some o → h'.get? a = some o) : h'.Ns a m := by
  obtain ⟨o, es, ep, e, r⟩ := hn
  exact ⟨o, es, ep, k o e, r⟩
theorem kept_but0 {K : Frag} {h h' : Heap} {x : Addr} (X : K.In h) (hx : ∀ o, K.lookup x = some o → False) (k : ∀ b o, b ≠ x → h.get? b = some o → h'.get? b = some o) : K.In h' := fun a o e => k a o (fun z => hx o (z ▸ e)) (X a o e)
section
variable {P : Program} {w : World} {A : Around} {E : Value → Shared → Prop} {R : Result → Shared → Prop} {s : Shared} {K : Frag} {mg mb : Str → Option Value} {C fI : Addr} {fld : Str} {st : Stmt}
theorem x_init (hf : FldOk fld) (T : OwnTxt P K st fld C fI) {x t0 : Addr} {v : Value} (X : K.In s.heap) (hlim : s.heap.NoLimit) (hg : s.heap.Ns mainGlobals mg) (noS : mg "super" = none) (hb : s.heap.Ns builtinsNs mb) (hbb : ∀ y : Str, y ≠ "__name__" → mb y = bootBuiltins y)
    (hx : s.heap.get? x = some (excO C t0)) (hnx : K.lookup x = none) (hroom : A.depth < recursionLimit) (hu : A.units + 100 < cLine) (hv : FmtOk P w s.heap v)
    (hq : ∀ h' tk dx, (∀ b o, b ≠ x → s.heap.get? b = some o → h'.get? b = some o) → (∃ t1 : Addr, h'.get? x = some { cls := .ref C, dict := some dx, data := .fields #[.ref t1, .none, .none, .none, .bool false, .none] }) → s.heap.objs.size ≤ dx → dx ≠ x → h'.Ns1 dx (fun y => if y = fld then some v else none) → R (.ok (.ret .none)) { s with heap := h', toks := tk }) :
    codeAny (model P w) A (.call (.ref fI) ⟨[.ref x, v], []⟩) R s := by
  obtain ⟨oc, od, qual, doc, pm, an, cda, cc, ct, osl, ccl, cl, cdd, cld, vs, ccs, csl, file, tf, ho, hcd, hcode, hvs, hfile, hcell⟩ := T.fn
  obtain ⟨p1, p2, pre, a0, a1, a2, a3, a4, a5, a6, a7, a8, a9, b0, b1, b2, eA, eB, eS, hpre, hcall⟩ := T.shape
  rw [eA, eB, eS] at ho
  obtain ⟨nm, qn, N, bs, bm, sn, sub, ab, col, dd, k0, k1, k2, k3, k5, hC, hbm, hal⟩ := T.cls
  have hcl : clsIn K C = some { name := nm, bases := bs, mro := .ref C :: bm, ns := N, qualname := qn, hasDict := true, slotNames := sn, subclasses := sub, abstract := ab, collection := col, hasDel := false } := by unfold clsIn; rw [hC] <;> rfl
  have hxC : x ≠ C := fun z => by
    have e1 := X _ _ hC
    rw [← z, hx] at e1
    cases e1
  refine ks_codeAny_call_defAt (fd := ksFn "__init__" qual (xA fld p1 p2) (xB pre fld a0 a1 a2 a3 a4 a5 a6 a7 a8 a9 b0 b1 b2) (xS fld) .none .none doc pm an (.ref cda) ct cc) (body := xB pre fld a0 a1 a2 a3 a4 a5 a6 a7 a8 a9 b0 b1 b2) (binds := [("self", .ref x), (fld, v)]) hroom (X _ _ ho) rfl hlim (codeRec_of X hcd) rfl
    (by rcases hf with rfl | rfl | rfl <;> exact BindsTo.of_eq (by first | rfl | with_unfolding_all rfl)) (fun y hy => by
      have hy : y ∈ [(PySem.Str.ofString "self", NameKind.local), (fld, .local), (PySem.Str.ofString "__class__", .free), (PySem.Str.ofString "super", .globalImplicit)] := hy
      simp only [List.mem_cons, List.not_mem_nil, or_false] at hy
      rcases hy with rfl | rfl | rfl | rfl <;> exact fun z => nomatch z)
    (fun y hy => by
      simp only [List.mem_cons, List.not_mem_nil, or_false] at hy
      rcases hf with rfl | rfl | rfl <;> rcases hy with rfl | rfl <;> first | rfl | with_unfolding_all rfl | kernel_rfl) (fun h0 hn k => ?_) rfl rfl rfl
  have kS : (xS fld).names.lookup ("super" : Str) = some .globalImplicit := by rcases hf with rfl | rfl | rfl <;> decide +kernel
  have kC : (xS fld).names.lookup ("__class__" : Str) = some .free := by rcases hf with rfl | rfl | rfl <;> decide +kernel
  have kX : (xS fld).names.lookup ("self" : Str) = some .local := by rcases hf with rfl | rfl | rfl <;> decide +kernel
  have kF : (xS fld).names.lookup fld = some .local := by rcases hf with rfl | rfl | rfl <;> decide +kernel
  have mX : ([(PySem.Str.ofString "self", Value.ref x), (fld, v)] : List (Str × Value)).reverse.lookup ("self" : Str) = some (.ref x) := by rcases hf with rfl | rfl | rfl <;> first | rfl | with_unfolding_all rfl | kernel_rfl
  have mF : ([(PySem.Str.ofString "self", Value.ref x), (fld, v)] : List (Str × Value)).reverse.lookup fld = some v := by rcases hf with rfl | rfl | rfl <;> first | rfl | with_unfolding_all rfl | kernel_rfl
  have dF : (fld == ("__debug__" : Str)) = false := by rcases hf with rfl | rfl | rfl <;> decide +kernel
  have hLx : s.heap.objs.size ≠ x := Nat.ne_of_gt (Heap.lt_size hx)
  have X0 : K.In h0 := X.keeps k
  have hC0 := X0 _ _ hC
  obtain ⟨hp, g, d, t, os⟩ := s
  show _root_.PySem.wpAt _ _ (.func (xB pre fld a0 a1 a2 a3 a4 a5 a6 a7 a8 a9 b0 b1 b2) (ksEnv qual (xS fld) hp.objs.size fI (.ref cda) cc)) (execs (xB pre fld a0 a1 a2 a3 a4 a5 a6 a7 a8 a9 b0 b1 b2) (ksEnv qual (xS fld) hp.objs.size fI (.ref cda) cc)) _ _ _
  refine ks_wpAt_execs_cons (ks_wpAt_Expr_any (ks_wpAt_MethodCall (ks_wpAt_super_base (env := ksEnv qual (xS fld) hp.objs.size fI (.ref cda) cc) kS kC rfl rfl (X0 _ _ ho) rfl rfl rfl (X0 _ _ hcode) rfl hvs hfile T.top ?_) (hcall _)))
  refine ks_loadName_global rfl kS (loadGlobal_builtin (env := ksEnv qual (xS fld) hp.objs.size fI (.ref cda) cc) (hg.keeps k) noS (hb.keeps k) ((hbb _ (by decide +kernel)).trans PyProof.Rows.Boot.«super») ⟨rfl, ?_⟩)
  refine wpAny_loadName_free rfl kC rfl ⟨_, X0 _ _ hcell, rfl⟩ ?_
  refine wpAny_loadName_local rfl kX hn mX ?_
  refine ks_wpAny_isType_cls hC0 rfl ⟨rfl, ?_⟩
  refine ks_wpAny_call_super hC0 rfl (k _ _ hx) rfl (fun c e => nomatch e) (looks_mroIn X0 T.self) (fun h1 hso k1 => ?_)
  have X1 := X0.keeps k1
  have hx1 := k1 _ _ (k _ _ hx)
  have hns1 : h1.Ns hp.objs.size _ := ns_but hn fun o e => k1 _ _ e
  have hI : Looks (model P w) h1 (isInstance (.ref x) (.type "ValueError")) true := (PySem.W.InstAt.type (od := none) ⟨hx1, rfl, rfl, trivial⟩).andThen (looks_subIn X1 T.veB)
  refine kxs_getMethod kxs_ValueError hso (looks_opaque X1 T.op) (l₀ := Value.ref C :: bm) (fun A Q E s k q => wpAny_bind ((looks_clsIn X1 hcl) A _ E s k (wpAny_pure q))) rfl X1 hal hI hxC rfl ?_
  have k2 : ∀ b o, h1.get? b = some o → (h1.push (kxs_mw "ValueError.__init__" x)).get? b = some o := fun b o e => Heap.get?_push_of_some _ e
  have hmw : (h1.push (kxs_mw "ValueError.__init__" x)).get? h1.objs.size = some (kxs_mw "ValueError.__init__" x) := Heap.get?_push_at rfl rfl
  refine kxs_callWith (i := "ValueError.__init__") (x := x) rfl (evalArgs_plain (Calls.spliced_cons ?_))
  have hns2 := ns_but hns1 fun o e => k2 _ _ e
  have hul : (A.deeper (ksEnv qual (xS fld) hp.objs.size fI (.ref cda) cc)).units + 64 < cLine := by
    show A.units + 3 + 64 < cLine
    omega
  refine JoinedStr_many (pos := a6) (joinParts_cons (Constant_str ⟨?_, ?_⟩))
  · show (Str.empty ++ pre).length ≤ sizeLine
    rw [strLen_append, sizeLine_eq]
    have : Str.empty.length = 0 := rfl
    omega
  refine joinParts_cons (FormattedValue_plain ?_)
  refine wpAny_Name (wpAny_loadName_local rfl kF hns2 mF ?_) dF
  refine hv _ _ _ _ hul (fun b o e => k2 _ _ (k1 _ _ (k _ _ e))) fun m u tk hm => ?_
  have hlen : (Str.empty ++ pre ++ m).length ≤ sizeLine := by
    rw [strLen_append, strLen_append, sizeLine_eq]
    have : Str.empty.length = 0 := rfl
    omega
  refine ⟨hlen, joinParts_nil ?_ hlen⟩
  refine Calls.spliced_nil ⟨hmw, ?_⟩
  have hx2 : (h1.push (kxs_mw "ValueError.__init__" x)).get? x = some (excO C t0) := k2 _ _ hx1
  refine wpAny_call (codeAny_of_tree ?_)
  show wpAny _ _ (callAny (.ref h1.objs.size) _) _ _ _
  simp only [callAny]
  refine wpAny_bind (wpAny_load hmw ?_); simp only [kxs_mw, show (Value.type "method-wrapper" == Value.type "method" || Value.type "method-wrapper" == Value.type "builtin_function_or_method" || Value.type "method-wrapper" == Value.type "method-wrapper") = true by decide, if_true]
  refine KFB.if_so (by decide) ?_
  refine wpAny_bind (check_bound_init F.excBase_ValueError.toExcCallFacts (k2 _ _ (k1 _ _ hC0)) hx2 rfl ?_)
  refine wpAny_bind (wpAny_pure (wpAny_pure ?_))
  refine ⟨plainId_quiet F.excBase_ValueError.init.plain _, codeAny_builtin F.excBase_ValueError.initEntry ?_⟩
  refine exc_init_tree (cls := .ref C) (t0 := t0) (dv := none) (c2 := .none) (c3 := .none) (b4 := .bool false) hx2 (by show 1 ≤ sizeLine; rw [sizeLine_eq]; omega) fun h3 k3 hx3 _ => ?_
  have X3 : K.In h3 := kept_but0 (X1.keeps k2) (fun o z => nomatch hnx.symm.trans z) k3
  have hns3 := ns_but hns2 fun o e => k3 _ _ hLx e
  refine _root_.PySem.wpAt_of_wpAny (wpAny_execs_cons (plainObj_wpAny_Assign_Attribute ?_ ?_))
  · refine wpAny_Name (wpAny_loadName_local rfl kF hns3 mF ?_) dF
    refine wpAny_Name (wpAny_loadName_local rfl kX hns3 mX ?_) (by decide)
    refine set_plain X3 (od := none) ⟨hx3, rfl, rfl, trivial⟩ T.sa ?_
    refine exc_osa X3 hx3 hcl (show refsVE (.ref C :: bm) = true from hbm) rfl T.noF (fun h4 tk4 dx k4 dn dne hx4 hn4 => ?_)
    refine wpAny_execs_nil (hq h4 tk4 dx (fun b o hb e => k4 b o hb (k3 b o hb (k2 _ _ (k1 _ _ (k _ _ e))))) ⟨_, hx4⟩ ?_ dne hn4)
    have z1 := Heap.lt_size (show h3.get? hp.objs.size = some _ from hns3.choose_spec.choose_spec.choose_spec.1)
    exact Nat.le_of_lt (Nat.lt_of_lt_of_le z1 dn)
  · rcases hf with rfl | rfl | rfl <;> rfl
end
end One
end P_X1

section P_X2
set_option linter.all false
set_option maxRecDepth 100000
set_option maxHeartbeats 4000000
namespace One
open PySem PySem.W PySem.Calls PyProof.Rows PySem.HandSPX L2
/-- what an own exception is made with: a small number, a tuple of such -/
inductive Shown (K : Frag) (H : Hp) : V → Prop
  | int (n : Nat) (h : n < 1000) : Shown K H (.int (n : Nat))
  | tup {a : Addr} (ns : List Nat) (ht : SqT K H a (ns.map fun n => V.int (n : Nat))) (hl : ns.length ≤ 100) (h : ∀ n ∈ ns, n < 1000) : Shown K H (.ref a)
theorem repr_nats {P : Program} {w : World} : ∀ {ns : List Nat} {us : List Value}, Vals (ns.map fun n => V.int (n : Nat)) us → (∀ n ∈ ns, n < 1000) → ReprAll P w us (ns.map fun n => ((toString ((n : Nat) : Int) : String) : Str))
  | [], _, r, _ => by
    cases r
    exact .nil
  | n :: l, _, r, h => by
    cases r with
    | cons r1 r2 =>
      obtain ⟨t, rfl⟩ := r1
      exact .cons (ReprIs.int t (by rw [Int.natAbs_natCast]; exact log_small (h n (List.mem_cons_self ..)))) (repr_nats r2 fun z hz => h z (List.mem_cons_of_mem _ hz))
theorem nats_text : ∀ ns : List Nat, (∀ n ∈ ns, n < 1000) → ((ns.map fun n => ((toString ((n : Nat) : Int) : String) : Str)).map (·.length)).sum ≤ 8 * ns.length
  | [], _ => Nat.zero_le _
  | n :: r, h => by
    have h1 := nats_text r fun z hz => h z (List.mem_cons_of_mem _ hz)
    have h2 : ((toString ((n : Nat) : Int) : String) : Str).length ≤ 8 := int_short n (h n (List.mem_cons_self ..))
    rw [List.map_cons, List.map_cons, List.sum_cons, List.length_cons]
    omega
theorem Shown.fmt {X : Cx} {pins : List (Addr × Obj)} {σ : L2.St} {H : Hp} {s : Shared} {v : V} {u : Value} (I : Inv X pins σ H s) (h : Shown X.K H v) (r : RelV v u) : FmtOk X.prog X.w s.heap u := by
  intro A E s1 Q hu hk q
  cases h with
  | int n hn =>
    obtain ⟨t, rfl⟩ := r
    exact wpAny_formatField_int (by rw [Int.natAbs_natCast]; exact log_small hn) (q _ _ _ (Nat.le_trans (int_short n hn) (by decide)))
  | tup ns ht hl hn =>
    cases r
    obtain ⟨its, rv, ⟨o, ho, hcl, n, hd⟩, _⟩ := I.tuple ht
    have e1 := tupleText_len_le (ns.map fun n => ((toString ((n : Nat) : Int) : String) : Str))
    have e2 := nats_text ns hn
    rw [List.length_map] at e1
    exact fmt_tuple (ts := ns.map fun n => ((toString ((n : Nat) : Int) : String) : Str)) (by omega) (hk _ _ ho) hcl hd (repr_nats rv hn) (by rw [sizeLine_eq]; omega) fun m u tk hm => q m u tk (by omega)
/-- the class under its name -/
structure OwnCls (K : Frag) (mg : Str → Option Value) (nm : Str) (C fI : Addr) : Prop where
  g : mg nm = some (.ref C)
  iC : findIn K (.ref C) "__init__" = some (some (.ref fI))
  tC : typeIn K (.ref fI) = some (.type "function")
  kC : keepIn K (.ref C) = true
  exC : subIn K (.ref C) (.type "BaseException") = some true
  tyC : typeIn K (.ref C) = some (.type "type")
/-- nm(e) -/
def tMkX (K : Frag) (fld : Str) (C : Addr) (ta : TA) : L2.St → Hp → XK → Prop := fun σ H Q => ta σ H fun vs H1 => ∃ v, vs = [v] ∧ Shown K H1 v ∧ ∀ d, H1 d = none → Q (.ref C) (some d) (upd H1 d (.xd [(fld, v)]))
theorem relO_one {v : V} {u : Value} {g : Str} (r : RelV v u) (f : Str) : RelO (List.lookup f [(g, v)]) (if f = g then some u else none) := by
  rw [lookup_put]
  by_cases e : f = g
  · rw [if_pos e, if_pos e]
    exact r
  · rw [if_neg e, if_neg e]
    trivial
section
variable {X : Cx} {C fI : Addr}
theorem pmk_x {nm fld : Str} {st : Stmt} {a : Expr} {ta : TA} {p pos : Pos} {k : Nat} (hf : FldOk fld) (T : OwnTxt X.prog X.K st fld C fI) (O : OwnCls X.K X.mg nm C fI) (noS : X.mg "super" = none) (hr : Room k X.A) (ha : PA X [a] ta) (hg : Gl X nm) (hdb : (nm == ("__debug__" : Str)) = false := by decide) (he : starEach (a :: []) X.env = (false, eval a X.env) :: starEach [] X.env := by rfl) (hpl : (backTo pos (starEach [] X.env)).any (·.1) = false := by rfl) : PMk X (.Call (.Name nm p) [a] [] pos) (tMkX X.K fld C ta) := by
  intro pins s σ H Q I h
  refine wpAny_Call_Name_kw (ld_glob I hg O.g ?_ hdb)
  refine PySem.W.callWith_K (h₀ := X.base) I.ok.mod.kin O.kC (thn (ha.run pos pins s σ H _ I h) fun us s1 ⟨vs, H1, I1, r1, v, ev, hv, q1⟩ => ⟨I1.kIn, ?_⟩) he hpl
  subst ev
  obtain ⟨v', rfl, rv⟩ := vals1 r1
  obtain ⟨nm', qn, N, bs, bm, sn, sub, ab, col, dd, k0, k1, k2, k3, k5, hC, hbm, hal⟩ := T.cls
  have hfm := hv.fmt I1 rv
  have hX := I1.kIn
  have hlim := I1.nolimit
  obtain ⟨_, mgl, ⟨mb, hbn, hbb⟩, _⟩ := I1.mod
  have hbk := I1.bk
  show wpAny _ _ (call (.ref C) [v']) _ _ _
  obtain ⟨hp, g, dr, tk, os⟩ := s1
  have kk : ∀ b o, hp.get? b = some o → ((hp.push (PySem.W.kdv_tup [v'])).push (PySem.HandSPX.excO C hp.objs.size)).get? b = some o := fun b o e => Heap.get?_push_of_some _ (Heap.get?_push_of_some _ e)
  have hget : ((hp.push (PySem.W.kdv_tup [v'])).push (PySem.HandSPX.excO C hp.objs.size)).get? (hp.objs.size + 1) = some (PySem.HandSPX.excO C hp.objs.size) := by heap_get
  have hnx : X.K.lookup (hp.objs.size + 1) = none := by
    match e : X.K.lookup (hp.objs.size + 1) with
    | none => rfl
    | some o => exact absurd (Nat.lt_of_succ_lt (Heap.lt_size (hX _ _ e))) (Nat.lt_irrefl _)
  refine wpAny_call (PySem.HandSPX.call_own F.excBase_ValueError (fun Y => PySem.HandSPX.refsVE_contains Y bm hbm) (hX _ _ hC) (PySem.W.looks_findIn hX O.iC) (fun self => PySem.W.bind_fn hX self O.tC) (by show 1 ≤ sizeLine; rw [sizeLine_eq]; omega) ?_)
  have hdp := hr.dp
  have hun := hr.un
  refine x_init (s := ⟨(hp.push (PySem.W.kdv_tup [v'])).push (PySem.HandSPX.excO C hp.objs.size), g, dr, tk, os⟩) hf T (hX.keeps kk) (hlim.keeps kk) ((mgl.keeps hbk).keeps kk) noS ((hbn.keeps hbk).keeps kk) hbb hget hnx ?_ ?_ (hfm.keeps kk) fun h' tk' dx k' hx dn dne hns => ?_
  · rw [make_depth]
    omega
  · rw [make_units]
    omega
  · refine ⟨rfl, ?_⟩
    show MkP X pins σ Q (.ref (hp.objs.size + 1)) ⟨h', g, dr, tk', os⟩
    obtain ⟨t1, hx⟩ := hx
    have dn : hp.objs.size + 1 + 1 ≤ dx := by
      first
        | (simpa only [Heap.size_push] using dn)
        | exact dn
    have dbig : hp.objs.size ≤ dx := by omega
    obtain ⟨G', g1, g2⟩ := restrict h' fun b => decide (b ≠ hp.objs.size + 1)
    have gk : ∀ b, b ≠ hp.objs.size + 1 → G'.get? b = h'.get? b := fun b hb => g1 b (decide_eq_true hb)
    have ge : G'.get? (hp.objs.size + 1) = none := g2 _ (by simp)
    have ne : ∀ {b : Addr} {o : Obj}, hp.get? b = some o → b ≠ hp.objs.size + 1 := fun {b o} q => Nat.ne_of_lt (Nat.lt_succ_of_lt (Heap.lt_size q))
    have old : ∀ b o, hp.get? b = some o → G'.get? b = some o := fun b o q => (gk b (ne q)).trans (k' b o (ne q) (kk b o q))
    have ob : ObjOk X.prog X.w (upd H1 dx (.xd [(fld, v)])) G' dx (.xd [(fld, v)]) := ⟨_, hns.at (fun o q => (gk dx dne).trans q), fun f => relO_one rv f⟩
    have J : Inv X pins σ (upd H1 dx (.xd [(fld, v)])) ⟨G', g, dr, tk', os⟩ := I1.laid (t' := tk') old dbig ob
    refine ⟨hp.objs.size + 1, _, _, ⟨G', g, dr, tk', os⟩, _, .ref C, some dx, rfl, J, fun b o q => ?_, ge, hx, ⟨rfl, rfl⟩, rfl, rfl, ?_, rfl, I1.bare, raises_own O.exC O.tyC, q1 dx (I1.hok.fresh dbig)⟩
    · by_cases hb : b = hp.objs.size + 1
      · cases (hb ▸ ge).symm.trans (show G'.get? b = some o from q)
      · exact (gk b hb).symm.trans q
    · rw [upd_ne (Ne.symm dne)]
      exact I1.hok.fresh (Nat.le_succ _)
/-- raise nm(e) -/
def tRaiseX (K : Frag) (fld : Str) (C : Addr) (W : WX) (ta : TA) : TS := fun _ σ H => tMkX K fld C ta σ H fun cls d H' => W cls d σ H'
theorem ps_raiseX {nm fld : Str} {st : Stmt} {a : Expr} {ta : TA} {W : WX} {p pos pos2 : Pos} {k : Nat} (hc : X.calm = true) (hf : FldOk fld) (T : OwnTxt X.prog X.K st fld C fI) (O : OwnCls X.K X.mg nm C fI) (noS : X.mg "super" = none) (hr : Room k X.A) (tk : Takes X W) (ha : PA X [a] ta) (hg : Gl X nm) (hdb : (nm == ("__debug__" : Str)) = false := by decide) (he : starEach (a :: []) X.env = (false, eval a X.env) :: starEach [] X.env := by rfl) (hpl : (backTo pos (starEach [] X.env)).any (·.1) = false := by rfl) :
    PS X (.Raise (some (.Call (.Name nm p) [a] [] pos)) none pos2) (tRaiseX X.K fld C W ta) := ps_raise hc tk (pmk_x hf T O noS hr ha hg hdb he hpl)
end
end One
end P_X2

section P_X3
set_option linter.all false
set_option maxRecDepth 100000
set_option maxHeartbeats 4000000
namespace One
open PySem PySem.Spec PyProof.Rows L2
/-! ### try: .. except x as n: m = n / rest, where the rest may look at the exception that m holds -/
/-- slot i is n's, slot j is m's -/
def wHold (K : PySem.W.Frag) (c : Value) (i j : Nat) (tE : Addr → Value → Option Addr → TS) (Wout : WX) (D : Ends) : WX := fun cls d σ H =>
  ∃ b, PySem.W.exmOne K cls c = some b ∧ (b = true → ∀ a, H a = none → tE a cls d D (((σ.set i (some (.ref a))).set j (some (.ref a))).set i none) H) ∧ (b = false → Wout cls d σ H)
theorem tr_tr {X : Cx} {pins : List (Addr × Obj)} {σ : L2.St} {H : Hp} {s : Shared} {q : Addr × Obj} {xe : Value → Shared → Prop} (I : Inv (X.suite q.1 (q :: (X.pn ++ pins))) [] σ H s) (ok : X.Ok) : Inv (X.tr (q :: (X.pn ++ pins)) xe) [] σ H s :=
  ⟨ok.toTry _ _, I.os, I.bare, I.base, I.loc, I.cell, I.free, I.freeC, I.pin, I.hok, I.len⟩
theorem of_tr {X : Cx} {pins pn' : List (Addr × Obj)} {σ : L2.St} {H : Hp} {s : Shared} {q : Addr × Obj} {xe : Value → Shared → Prop} (I : Inv (X.tr (q :: (X.pn ++ pins)) xe) pn' σ H s) (ok : X.Ok) : Inv X pins σ H s :=
  ⟨ok, I.os, I.bare, I.base, I.loc, I.cell, I.free, I.freeC, fun y hy => I.pin y (List.mem_append_left _ (List.mem_cons_of_mem _ hy)), I.hok, I.len⟩
theorem sp_tr {X : Cx} {pins : List (Addr × Obj)} {q : Addr × Obj} {xe : Value → Shared → Prop} {D : Ends} {f : Flow} {s : Shared} (ok : X.Ok) (h : SP (X.tr (q :: (X.pn ++ pins)) xe) [] D f s) : SP X pins D f s := by
  match f, h with
  | .next, ⟨σ', H', J, z⟩ => exact ⟨σ', H', of_tr J ok, z⟩
  | .brk, ⟨σ', H', J, z⟩ => exact ⟨σ', H', of_tr J ok, z⟩
  | .cont, ⟨σ', H', J, z⟩ => exact ⟨σ', H', of_tr J ok, z⟩
  | .ret u, ⟨v, σ', H', J, r, z⟩ => exact ⟨v, σ', H', of_tr J ok, r, z⟩
section
variable {X : Cx} {x n m : Str} {c : Value} {i j : Nat} {body rest : List Stmt} {np mp mp2 ap pos pos' : Pos} {tb : WX → TS} {t0 : TS} {tE : Addr → Value → Option Addr → TS} {Wout : WX}
theorem pss_hold (hs : X.stack = X.env :: X.outer) (hf : X.env.frame = some X.env.locals) (nd : X.N.Nodup) (hi : X.N[i]? = some n) (hln : X.env.kindOf n = some .local) (hj : X.N[j]? = some m) (hlm : X.env.kindOf m = some .local) (hc : Names X x c) (tk : Takes X Wout)
    (hdb : (n == ("__debug__" : Str)) = false) (hdc : (n == ("__classdict__" : Str)) = false)
    (hb : ∀ (W : WX) (pn : List (Addr × Obj)) (xe : Value → Shared → Prop), Takes (X.tr pn xe) W → PassesOwn (model X.prog X.w) X.A X.env xe → PSs (X.tr pn xe) body (tb W)) (h0 : PSs X rest t0)
    (hE : ∀ (a : Addr) (oe : Obj) (cls : Value) (d : Option Addr) (pn : List (Addr × Obj)), Zc cls d oe → (∃ vs, oe.data = .fields vs) → PSs (X.tr ((a, oe) :: pn) X.xe) rest (tE a cls d)) :
    PSs X (.Try body [.ExceptHandler (some (.Name x np)) (some n) [.Assign [.Name m mp] (.Name n mp2) ap] pos'] [] [] pos :: rest) (fun D σ H => tb (wHold X.K c i j tE Wout D) { D with nx := t0 D } σ H) := by
  refine ⟨fun pins s σ H D I h => ?_⟩
  have ok := I.ok
  have frs0 : X.A.frames = some (X.env :: X.outer) := ok.frames.trans (by rw [hs])
  refine wpAny_execs_cons (wpAny_Try_except ?_)
  let Q2 : Flow → Shared → Prop := fun f s' => match f with
    | .next => wpAny (model X.prog X.w) X.A (execs rest X.env) (SP X pins D) X.xe s'
    | f => SP X pins D f s'
  refine wpAny_mono ((hb (wHold X.K c i j tE Wout D) (X.pn ++ pins) (fun e s1 => wpAny (model X.prog X.w) X.A (noteFrame e X.env) (fun _ s2 => wpAny (model X.prog X.w) X.A (setFlight e none) (fun _ s3 =>
    wpAny (model X.prog X.w) X.A (handleBy e X.env [.ExceptHandler (some (.Name x np)) (some n) [.Assign [.Name m mp] (.Name n mp2) ap] pos']) Q2 X.xe s3) X.xe s2) X.xe s1) (fun u s' air => ?_) PassesOwn.looking).run [] s σ H { D with nx := t0 D } (I.toTry _) h) (fun f s1 hsp => ?_) (fun e s1 he => he)
  · obtain ⟨a, B, sI, pins', σ', H', cls, d, rfl, Jx, nb, up, sky, na, os, ag, b, hb1, yes, no⟩ := air
    have Jo : Inv X pins σ' H' sI := Jx.ofTry ok
    refine (show wpAny (model X.prog X.w) X.A (noteFrame (.ref a) X.env) _ _ _ from ?_)
    refine Sky.land Zc.steady frs0 hf (hs ▸ sky : Sky B (X.env :: X.outer) a (Zc cls d) X.env.locals s'.heap) fun hpl fll upl => ?_
    have Jl : Inv X pins σ' H' { s' with heap := hpl } := Jo.landed nb fll.1 (up.trans upl) os ag
    obtain ⟨oel, vsl, hel, hzl, hdl⟩ := fll.there
    have away : a ∉ frs (X.env :: X.outer) := fun hm => by
      obtain ⟨_, o', e', hnf⟩ := fll.2.2.1.mem hm
      cases hel.symm.trans e'
      exact hnf _ hdl
    have nL : a ≠ X.env.locals := fun z => away (List.mem_filterMap.mpr ⟨X.env, List.mem_cons_self, hf.trans (congrArg some z.symm)⟩)
    have nS : a ∉ X.fs := fun hm => by
      obtain ⟨e, he, q⟩ := List.mem_filterMap.mp hm
      exact away (List.mem_filterMap.mpr ⟨e, List.mem_cons_of_mem _ he, q⟩)
    have Sl := Jl.suite hel hdl na nL nS
    refine wpAny_handleBy_cons (codeAny_handlers_test ?_) (by intro q; cases q)
    have Lty : PySem.W.Looks (model X.prog X.w) hpl (typeOf (.ref a)) cls := fun A Q E s k q => wpAny_typeOf_ref (k _ _ hel) (by rw [hzl.1]; exact q)
    have look : ∀ {Q : Value → Shared → Prop} {E : Value → Shared → Prop}, Q c { s' with heap := hpl } → wpAny (model X.prog X.w) (X.A.mark (some (.ref a))) (eval (.Name x np) X.env) Q E { s' with heap := hpl } := fun {Q E} q => by
      obtain ⟨g1, g2, g3 | ⟨g3, g4, g5⟩⟩ := hc
      · exact ld_glob (X := X.suite a ((a, oel) :: (X.pn ++ pins))) Sl g1 g3 q g2
      · exact ld_blt (X := X.suite a ((a, oel) :: (X.pn ++ pins))) Sl g1 g3 g4 q g5 g2
    refine look ((PySem.W.exm_one (M := model X.prog X.w) Jl.kIn Lty hb1).here ?_)
    cases b with
    | true =>
      refine codeAny_handlers_suite_as (HandSPX.lands_againZ fll fun hpm flm upm => ?_)
      have Jm : Inv X pins σ' H' { s' with heap := hpm } := Jo.landed nb flm.1 ((up.trans upl).trans upm) os ag
      obtain ⟨oem, vsm, hem, hzm, hdm⟩ := flm.there
      have Sm := Jm.suite hem hdm na nL nS
      refine store_ok (X := X.suite a ((a, oem) :: (X.pn ++ pins))) (v := .ref a) Sm nd hi (.inl hln) rfl (fun s5 S5 => ?_) (.inr hln)
      have one : PSs (X.suite a ((a, oem) :: (X.pn ++ pins))) [.Assign [.Name m mp] (.Name n mp2) ap] _ := pss_one (ps_set (i := j) nd hj (.inl hlm) (pe_var (i := i) hi (.inl hln) hdb hdc) (hf := .inr hlm))
      have li : i < σ'.length := by
        rw [Jo.len]
        exact (List.getElem?_eq_some_iff.mp hi).1
      refine wpAny_mono (one.run [] s5 _ H' { nx := fun σ6 H6 => σ6 = (σ'.set i (some (.ref a))).set j (some (.ref a)) ∧ H6 = H', rt := fun _ _ => False } S5 ⟨.ref a, List.getElem?_set_self li, rfl, rfl⟩) (fun f s6 hsp => ?_) (fun _ _ z => False.elim z)
      match f, hsp with
      | .next, ⟨σ6, H6, S6, e1, e2⟩ =>
        subst e1 e2
        refine gone_ok (X := X.suite a ((a, oem) :: (X.pn ++ pins))) S6 nd hi hln fun s7 S7 => ?_
        exact wpAny_mono ((hE a oem cls d (X.pn ++ pins) hzm ⟨_, hdm⟩).run [] s7 _ _ D (tr_tr (q := (a, oem)) S7 ok) (yes rfl a na)) (fun f s8 h8 => sp_tr (q := (a, oem)) ok h8) fun _ _ z => z
      | .brk, ⟨_, _, _, z⟩ => exact z.elim
      | .cont, ⟨_, _, _, z⟩ => exact z.elim
      | .ret u, ⟨_, _, _, _, _, z⟩ => exact z.elim
    | false =>
      refine (show wpAny _ X.A (handleBy (.ref a) X.env []) _ _ _ from wpAny_handleBy_nil ?_)
      obtain ⟨_, _, _, oe, vs, T, oT, ts', he, hz, hd, h1, hr⟩ := id fll
      unfold PySem.passOn
      refine wpAny_bind (wpAny_field he hd h1 ?_); rw [if_neg (show ¬ ((Value.ref T == Value.none) = true) from by simp)]
      have last : wpAny (model X.prog X.w) X.A (setFlight (.ref a) X.env.frame) (fun _ s4 => wpAny (model X.prog X.w) X.A (throw (.ref a) : Sem Flow) Q2 X.xe s4) X.xe { s' with heap := hpl } := by
        rw [hf]
        exact HandSPX.setFlight_upZ fll fun hpm hh4 upm => wpAny_throw (tk _ _ ⟨a, B, sI, pins, σ', H', cls, d, rfl, Jo, nb, (up.trans upl).trans upm, .inr (.inr (by rw [hs]; exact hh4)), na, os, ag, no rfl⟩)
      first
        | exact wpAny_bind (wpAny_pure (wpAny_bind last))
        | exact wpAny_bind last
  · match f, hsp with
    | .next, ⟨σ', H', Jx, q⟩ => exact wpAny_execs_nil (h0.run pins s1 σ' H' D (Jx.ofTry ok) q)
    | .brk, ⟨σ', H', Jx, q⟩ => exact ⟨σ', H', Jx.ofTry ok, q⟩
    | .cont, ⟨σ', H', Jx, q⟩ => exact ⟨σ', H', Jx.ofTry ok, q⟩
    | .ret u, ⟨v, σ', H', Jx, r, q⟩ => exact ⟨v, σ', H', Jx.ofTry ok, r, q⟩
end
end One
end P_X3

section P_X4
set_option linter.all false
set_option maxRecDepth 100000
set_option maxHeartbeats 4000000
namespace One
open PySem PySem.Spec PyProof.Rows L2
/-! ### a held exception is looked at: its class, its fields -/
theorem held_at {X : Cx} {a D dd : Addr} {oe : Obj} {pn pins : List (Addr × Obj)} {xe : Value → Shared → Prop} {σ : L2.St} {H : Hp} {s : Shared} {fs : List (Str × V)} (I : Inv (X.tr ((a, oe) :: pn) xe) pins σ H s) (hz : Zc (.ref D) (some dd) oe) (hf : ∃ vs, oe.data = .fields vs) (hd : H dd = some (.xd fs)) :
    ∃ (od : Obj) (mA : Str → Option Value), PySem.W.InstAt s.heap a oe D (some od) ∧ s.heap.Ns1 dd mA ∧ s.heap.get? dd = some od ∧ ∀ g, RelO (fs.lookup g) (mA g) := by
  obtain ⟨hat, _⟩ := I.pin (a, oe) (List.mem_append.mpr (.inl List.mem_cons_self))
  obtain ⟨vs, hv⟩ := hf
  obtain ⟨mA, hns, hr⟩ := (show ObjOk X.prog X.w H s.heap dd (.xd fs) from I.hok dd _ hd)
  obtain ⟨od, es, ep, ho, _⟩ := id hns
  exact ⟨od, mA, ⟨hat, hz.1, by unfold PySem.W.notCls; rw [hv] <;> rfl, by rw [hz.2]; exact ho⟩, hns, ho, hr⟩
def rIsX (K : PySem.W.Frag) (a : Addr) (cls : Value) (d : Option Addr) : List V → Hp → VK → Prop := fun xs H Q => ∃ (D dd : Addr) (c : V) (cv : Value) (b : Bool) (fs : List (Str × V)), xs = [.ref a, c] ∧ cls = .ref D ∧ d = some dd ∧ ExcC K D ∧
  (∀ u, RelV c u → u = cv) ∧ PySem.W.kitOne K (.ref D) cv = some b ∧ H dd = some (.xd fs) ∧ Q (.bl b) H
section
variable {X : Cx} {a : Addr} {oe : Obj} {cls : Value} {d : Option Addr} {pn : List (Addr × Obj)} {xe : Value → Shared → Prop}
theorem cr_isX (hz : Zc cls d oe) (hf : ∃ vs, oe.data = .fields vs) : CallR (X.tr ((a, oe) :: pn) xe) (.builtin "isinstance") (rIsX X.K a cls d) := by
  intro pins s σ H xs us Q I r h
  obtain ⟨D, dd, c, cv, b, fs, rfl, rfl, rfl, C, hcv, e, hd, q⟩ := h
  cases r with
  | cons rx rr =>
    cases rr with
    | cons rt rr =>
      cases rr
      cases rx
      have ec := hcv _ rt
      subst ec
      obtain ⟨od, mA, J, _, _, _⟩ := held_at I hz hf hd
      have hcl : (PySem.W.clsIn X.K D).isSome = true := by
        obtain ⟨cd, hc, _⟩ := PySem.W.any_some C.hd
        rw [hc]; rfl
      exact PySem.W.kia_one (PySem.W.kitx_exc hcl C.hg C.hk C.hs C.ha C.hn C.ht C.hm) I.kIn J e (fun z => nomatch z) fun tk => ⟨.bl b, H, I.kept (t' := tk) fun _ _ z => z, rfl, q⟩
/-- x.n, x the held exception -/
def tFld (K : PySem.W.Frag) (a : Addr) (cls : Value) (d : Option Addr) (n : Str) (te : TE) : TE := fun σ H Q => te σ H fun x H1 => ∃ (C dd : Addr) (fs : List (Str × V)) (v : V), x = .ref a ∧ cls = .ref C ∧ d = some dd ∧ XfC K C ∧ PySem.W.findIn K (.ref C) n = some none ∧ H1 dd = some (.xd fs) ∧ fs.lookup n = some v ∧ Q v H1
theorem pe_fld {e : Expr} {te : TE} {pos : Pos} {n : Str} (hz : Zc cls d oe) (hf : ∃ vs, oe.data = .fields vs) (he : PE (X.tr ((a, oe) :: pn) xe) e te) (hb : attributeBase e n X.env (eval e X.env) = eval e X.env := by rfl) :
    PE (X.tr ((a, oe) :: pn) xe) (.Attribute e n pos) (tFld X.K a cls d n te) := by
  refine ⟨fun pins s σ H Q I h => attr_of hb (thn (he.run pins s σ H _ I h) fun u s1 ⟨x, H1, I1, rx, C, dd, fs, v, ex, e1, e2, T, hno, hd, l, q⟩ => ?_)⟩
  subst ex e1 e2
  obtain rfl : u = Value.ref a := rx
  obtain ⟨od, mA, J, hns, ho, hr⟩ := held_at I1 hz hf hd
  obtain ⟨od', ho', hl⟩ := lookIn_ns hns
  obtain rfl : od' = od := Option.some.inj (ho'.symm.trans ho)
  obtain ⟨uv, huv, ruv⟩ := RelO.some_of (v := v) (o := mA n) (by rw [← l]; exact hr n)
  exact HandSPX.exc_get I1.kIn J T.ga T.gg T.exC (PySem.W.findObj_own T.hdC hno rfl (by rw [hl, huv])) (handed_of ruv) ⟨v, H1, I1.tok _, ruv, q⟩
end
end One
end P_X4

section P_X5
set_option linter.all false
set_option maxRecDepth 100000
set_option maxHeartbeats 8000000
namespace One
open PySem PySem.Spec PyProof.Rows L2
abbrev sRef : Stmt := top 34
abbrev nRef : List Str := ["deed", "caught", "e", "kinds", "some", "word", "is_one"]
theorem scRef : FnScope nRef ["deed"] (defScope sRef) := ⟨rfl, rfl, rfl, by decide +kernel, rfl, by decide +kernel, by decide +kernel⟩
/-- what repr(v) gives -/
inductive RepV (K : PySem.W.Frag) (H : Hp) : V → Str → Prop
  | int (n : Nat) (h : n < 1000) : RepV K H (.int (n : Nat)) ((toString ((n : Nat) : Int) : String) : Str)
  | data {a : Addr} {d : PyData} (h : Dp K H (.ref a) d) (h1 : d.showable = true) (h2 : d.hasDict = false) (h3 : d.depth ≤ 16) (h4 : d.shown.length ≤ sizeLine) : RepV K H (.ref a) d.shown
def rRepV (K : PySem.W.Frag) : List V → Hp → VK → Prop := fun xs H Q => ∃ (v : V) (t : Str), xs = [v] ∧ RepV K H v t ∧ Q (.str t) H
theorem cr_repV {X : Cx} (hgd : X.A.guards = some []) (hu : X.A.units + 64 < cLine) : CallR X (.builtin "repr") (rRepV X.K) := by
  intro pins s σ H xs us Q I r h
  obtain ⟨v, t, rfl, hv, q⟩ := h
  cases hv with
  | int n hn => exact SkE.call_repr_int pins s σ H _ us Q I r ⟨_, rfl, by rw [Int.natAbs_natCast]; exact log_small hn, q⟩
  | data hd h1 h2 h3 h4 => exact call_repr_data hgd hu pins s σ H _ us Q I r ⟨_, _, rfl, hd, h1, h2, h3, h4, q⟩
def wordOf (i : Nat) : Str := (["yard", "text", "end", "setting", "draft", "place", "barred", "many"] : List Str).getD i ""
def fldOf (i : Nat) : Str := if i = 6 then "way" else if i = 7 then "many" else "place"
def toldOf (i : Nat) (t : Str) : Str := if i = 6 then ("barred " : Str) ++ t else wordOf i ++ (" " : Str) ++ t
/-- the names of the classes -/
structure ErrN (mg : Str → Option Value) (CL : Nat → Addr) (RE : Addr) : Prop where
  re : mg "RoundError" = some (.ref RE)
  c0 : mg "BadYard" = some (.ref (CL 0))
  c1 : mg "BadText" = some (.ref (CL 1))
  c2 : mg "BadEnd" = some (.ref (CL 2))
  c3 : mg "BadSetting" = some (.ref (CL 3))
  c4 : mg "BadDraft" = some (.ref (CL 4))
  c5 : mg "OutOfPlace" = some (.ref (CL 5))
  c6 : mg "Barred" = some (.ref (CL 6))
  c7 : mg "TooMany" = some (.ref (CL 7))
  ve : mg "ValueError" = none
/-- the i-th class among them -/
structure ErrC (K : PySem.W.Frag) (CL : Nat → Addr) (RE : Addr) (i : Nat) : Prop where
  lt : i < 8
  exc : ExcC K (CL i)
  xf : XfC K (CL i)
  no : PySem.W.findIn K (.ref (CL i)) (fldOf i) = some none
  kits : ∀ j, j < 8 → PySem.W.kitOne K (.ref (CL i)) (.ref (CL j)) = some (decide (i = j))
  ve : PySem.W.kitOne K (.ref (CL i)) (.type "ValueError") = some true
  exm : PySem.W.exmOne K (.ref (CL i)) (.ref RE) = some true
/-- what is wished of what the deed raises -/
def XTold (K : PySem.W.Frag) (CL : Nat → Addr) (RE : Addr) (Q : VK) : XK := fun cls d H => ∃ (i : Nat) (dd : Addr) (v : V) (t : Str), ErrC K CL RE i ∧ cls = .ref (CL i) ∧ d = some dd ∧ H dd = some (.xd [(fldOf i, v)]) ∧ (∀ H', Same H H' → RepV K H' v t) ∧ t.length ≤ 1000000 ∧
  ∀ H', Same H H' → Q (.str (toldOf i t)) H'
def TTref (K : PySem.W.Frag) (CL : Nat → Addr) (RE : Addr) : (XK → Hp → VK → Prop) → Hp → VK → Prop := fun tl H Q => tl (XTold K CL RE Q) H fun _ H' => Q (.str "") H'
/-- pairs of a word and a truth -/
inductive KL (H : Hp) : List Addr → List (Str × Bool) → Prop
  | nil : KL H [] []
  | cons {a p as ps} : H a = some (.tup [.str p.1, .bl p.2]) → KL H as ps → KL H (a :: as) (p :: ps)
theorem KL.mono {H H' : Hp} {as : List Addr} {ps : List (Str × Bool)} (h : KL H as ps) (k : Same H H') : KL H' as ps := by
  induction h with
  | nil => exact .nil
  | cons e _ ih => exact .cons (k _ _ e) ih
theorem KL.get {H : Hp} {as : List Addr} {ps : List (Str × Bool)} (h : KL H as ps) : ∀ {i : Nat} {a : Addr}, as[i]? = some a → ∃ p, ps[i]? = some p ∧ H a = some (.tup [.str p.1, .bl p.2]) := by
  induction h with
  | nil => intro i a e; simp at e
  | cons h1 _ ih =>
    intro i a e
    cases i with
    | zero =>
      cases Option.some.inj e
      exact ⟨_, rfl, h1⟩
    | succ i => exact ih (i := i) (by simpa using e)
def kindsOf (i : Nat) : List (Str × Bool) := (List.range 8).map fun j => (wordOf j, decide (i = j))
end One
end P_X5

section P_X6
set_option linter.all false
set_option maxRecDepth 100000
set_option maxHeartbeats 8000000
namespace One
open PySem PySem.Spec PyProof.Rows L2
theorem last_of {H H' : Hp} {a : Addr} {o : HO} (_ : Same H (upd H' a o)) : (upd H' a o) a = some o := upd_same
theorem lookup_one {f : Str} {v : V} : List.lookup f [(f, v)] = some v := by
  rw [lookup_put, if_pos rfl]
theorem kinds_one : ∀ i, i < 8 → (kindsOf i).filter (·.2) = [(wordOf i, true)] := by
  have h : ∀ i : Fin 8, (kindsOf i).filter (·.2) = [(wordOf i, true)] := by decide +kernel
  exact fun i hi => h ⟨i, hi⟩
theorem word_short : ∀ i, i < 8 → (wordOf i).length ≤ 10 := by
  have h : ∀ i : Fin 8, (wordOf i).length ≤ 10 := by decide +kernel
  exact fun i hi => h ⟨i, hi⟩
theorem word_barred : ∀ i, i < 8 → decide (V.str (wordOf i) = V.str "barred") = decide (i = 6) := by
  intro i hi
  rw [dec_str]
  have h : ∀ i : Fin 8, (wordOf i == ("barred" : Str)) = decide ((i : Nat) = 6) := by decide +kernel
  exact h ⟨i, hi⟩
theorem word_many : ∀ i, i < 8 → decide (V.str (wordOf i) = V.str "many") = decide (i = 7) := by
  intro i hi
  rw [dec_str]
  have h : ∀ i : Fin 8, (wordOf i == ("many" : Str)) = decide ((i : Nat) = 7) := by decide +kernel
  exact h ⟨i, hi⟩
/-- (word, isinstance(caught, class)) -/
def tIs (K : PySem.W.Frag) (CL : Nat → Addr) (a : Addr) (cls : Value) (d : Option Addr) (w : Str) (j : Nat) : TE := tTup (tCons (tC (.str w)) (tCons (tCB (rIsX K a cls d) (tCons (tVar 1) (tCons (tC (.ref (CL j))) tNil))) tNil))
theorem is_read {K : PySem.W.Frag} {CL : Nat → Addr} {RE a dd : Addr} {i j : Nat} {w : Str} {σ : L2.St} {H : Hp} {Q : VK} {fs : List (Str × V)} (C : ErrC K CL RE i) (hj : j < 8) (h1 : σ[1]? = some (some (.ref a))) (hd : H dd = some (.xd fs))
    (q : ∀ p, H p = none → Q (.ref p) (upd H p (.tup [.str w, .bl (decide (i = j))]))) : tIs K CL a (.ref (CL i)) (some dd) w j σ H Q :=
  ⟨_, h1, CL i, dd, .ref (CL j), .ref (CL j), _, fs, rfl, rfl, rfl, C.exc, fun u r => r, C.kits j hj, hd, two_le, q⟩
section
variable {X : Cx}
theorem takes_len {W : WX} (tk : Takes X W) : Takes X fun cls d σ H => σ.length = X.N.length → W cls d σ H := fun u s' ⟨a, B, sI, pins, σ, H, cls, d, e, I, nb, up, sky, na, os, ag, w⟩ => tk u s' ⟨a, B, sI, pins, σ, H, cls, d, e, I, nb, up, sky, na, os, ag, w I.len⟩
theorem ref_gives {CL : Nat → Addr} {RE g : Addr} {cdg : Value} {q : Str} {k : Nat} (T : TB X.mg) (Nm : ErrN X.mg CL RE) (hgd : X.A.guards = some []) (hr : Room k X.A) :
    LamX.GivesTo X nRef "_law_refused" (defScope sRef) g cdg (defBody sRef) "deed" q (TTref X.K CL RE) := by
  intro f c' s H Q tl act hc h
  have nd := scRef.nd
  let cx : Cx := cxOf C8.CX0 X.prog X.w X.K X.mg X.base nRef "_law_refused" (defScope sRef) g cdg X.A X.stack s H C8.E0
  have hu : (X.A.deeper (envOfC "_law_refused" (defScope sRef) s.heap.objs.size g cdg)).units + 64 < cLine := by
    show X.A.units + 3 + 64 < cLine
    have := hr.un
    omega
  have gl : ∀ {x : Str}, (defScope sRef).names.lookup x = some .globalImplicit → Gl cx.nox x := fun h => h
  have iw : ∀ {a : Addr} {oe : Obj} {cls : Value} {d : Option Addr} {pn : List (Addr × Obj)} {w x : Str} {j n : Nat} {p0 p1 p2 p3 p4 p5 : Pos} (hz : Zc cls d oe) (hf : ∃ vs, oe.data = .fields vs) (hx : (defScope sRef).names.lookup x = some .globalImplicit) (hm : X.mg x = some (.ref (CL j))) (hdb : (x == ("__debug__" : Str)) = false),
      PE (cx.nox.tr ((a, oe) :: pn) cx.nox.xe) (.Tuple [.Constant (.str w) n p0, .Call (.Name "isinstance" p1) [.Name "caught" p2, .Name x p3] [] p4] 0 p5) (tIs X.K CL a cls d w j) := fun hz hf hx hm hdb =>
    pe_tup (pa_cons pe_str (pa_cons (pe_callB (cr_isX hz hf) (gl (by decide +kernel)) T.isinstance boot_isinstance (pa_cons (pv 1) (pa_cons (pe_glob (v := .ref (CL _)) (gl hx) hm rfl hdb) pa_nil))) pa_nil))
  have ixl : ∀ {a : Addr} {oe : Obj} {pn : List (Addr × Obj)}, IxR (cx.nox.tr ((a, oe) :: pn) cx.nox.xe) (rIxL X.K) := ix_list
  have opc : ∀ {a : Addr} {oe : Obj} {pn : List (Addr × Obj)}, OpR (cx.nox.tr ((a, oe) :: pn) cx.nox.xe) (binaryOp .Add) (rCatS X.K) := op_catS
  have lenc : ∀ {a : Addr} {oe : Obj} {pn : List (Addr × Obj)}, CallR (cx.nox.tr ((a, oe) :: pn) cx.nox.xe) (.builtin "len") (fun xs H Q => ∃ p ys, xs = [.ref p] ∧ (SqL X.K H p ys ∨ SqT X.K H p ys) ∧ Q (.int ys.length) H) := call_len_seq
  have repc : ∀ {a : Addr} {oe : Obj} {pn : List (Addr × Obj)}, CallR (cx.nox.tr ((a, oe) :: pn) cx.nox.xe) (.builtin "repr") (rRepV X.K) := cr_repV hgd hu
  have pil : ∀ {a : Addr} {oe : Obj} {pn : List (Addr × Obj)} {tg : Expr} {p : Pos}, PI (cx.nox.tr ((a, oe) :: pn) cx.nox.xe) tg (.Name "kinds" p) (iList X.K (tVar 3)) := pi_list (pv 3)
  have fld : ∀ {a : Addr} {oe : Obj} {cls : Value} {d : Option Addr} {pn : List (Addr × Obj)} {n : Str} {p0 p1 : Pos} (hz : Zc cls d oe) (hf : ∃ vs, oe.data = .fields vs), PE (cx.nox.tr ((a, oe) :: pn) cx.nox.xe) (.Attribute (.Name "caught" p0) n p1) (tFld X.K a cls d n (tVar 1)) := fun hz hf => pe_fld hz hf (pv 1)
  refine ⟨_, pss_cons (ps_set (i := 1) nd rfl (Or.inl rfl) pe_non) (pss_hold (X := cx.nox) (i := 2) (j := 1) (c := .ref RE) (Wout := fun _ _ _ _ => False)
    (tb := fun W D σ H => ∃ Ech : XK, (∀ cls d σ' H', Ech cls d H' → σ'.length = 7 → W cls d σ' H') ∧ σ[0]? = some (some (.ref f)) ∧ H c' = some (LamX.CodeO c' q) ∧ tl Ech H fun _ H' => D.nx σ H')
    rfl rfl nd rfl rfl rfl rfl ⟨gl (by decide +kernel), by decide +kernel, .inl Nm.re⟩ LamX.takes0 (by decide +kernel) (by decide +kernel) (fun W pn xe tk _ => ?_)
    (pss_cons (ps_if (pt_cmpR op_isN (pv 1) pe_non (nomark _)) (pss_one (ps_ret pe_str)) pss_nil) pss_never)
    (fun a oe cls d pn hz hf => pss_cons (ps_if (pt_cmpR op_isN (pv 1) pe_non (nomark _)) (pss_one (ps_ret pe_str)) pss_nil)
      (pss_cons (ps_set (i := 3) nd rfl (Or.inl rfl) (pe_lst (pa_cons (iw (j := 0) hz hf (by decide +kernel) Nm.c0 (by decide +kernel)) (pa_cons (iw (j := 1) hz hf (by decide +kernel) Nm.c1 (by decide +kernel)) pa_nil))))
      (pss_cons (ps_set (i := 3) nd rfl (Or.inl rfl) (pe_op opc (pv 3) (pe_lst (pa_cons (iw (j := 2) hz hf (by decide +kernel) Nm.c2 (by decide +kernel)) (pa_cons (iw (j := 3) hz hf (by decide +kernel) Nm.c3 (by decide +kernel)) pa_nil)))))
      (pss_cons (ps_set (i := 3) nd rfl (Or.inl rfl) (pe_op opc (pv 3) (pe_lst (pa_cons (iw (j := 4) hz hf (by decide +kernel) Nm.c4 (by decide +kernel)) (pa_cons (iw (j := 5) hz hf (by decide +kernel) Nm.c5 (by decide +kernel)) pa_nil)))))
      (pss_cons (ps_set (i := 3) nd rfl (Or.inl rfl) (pe_op opc (pv 3) (pe_lst (pa_cons (iw (j := 6) hz hf (by decide +kernel) Nm.c6 (by decide +kernel)) (pa_cons (iw (j := 7) hz hf (by decide +kernel) Nm.c7 (by decide +kernel)) pa_nil)))))
      (pss_cons (ps_setLc (i := 4) (own := [("word", 5), ("is_one", 6)]) (g := gTup X.K 2 (gCons (gName 5) (gCons (gName 6) gNil))) (tt := tB (tVar 6)) (te := tVar 5) rfl nd rfl rfl (sw_true rfl rfl rfl (by decide +kernel)) pil (blkOk_by (N := nRef) (sc := defScope sRef) (by decide +kernel))
          (fun _ _ _ _ _ => pg_tup rfl (pgs_cons (pg_name (i := 5) nd rfl (Or.inl rfl)) (pgs_cons (pg_name (i := 6) nd rfl (Or.inl rfl)) pgs_nil))) (fun _ _ _ _ _ => pts_one (pt_val (pv 6))) (fun _ _ _ _ _ => pv 5))
      (pss_cons (ps_if (PW.pt (pw_or (pt_cmpR op_ne (pe_callB lenc (gl (by decide +kernel)) T.len PySem.boot_len (pa_cons (pv 4) pa_nil)) pe_int (nomark _))
          (pw_or1 (pt_not (pt_val (pe_callB (cr_isX hz hf) (gl (by decide +kernel)) T.isinstance boot_isinstance (pa_cons (pv 1) (pa_cons (pe_bltn (v := .ty "ValueError") (gl (by decide +kernel)) Nm.ve PyProof.Rows.Boot.«ValueError» rfl) pa_nil)))))))) (pss_one (ps_ret pe_str)) pss_nil)
      (pss_cons (ps_if (pt_cmpR op_eq (pe_ix ixl (pv 4) pe_int (fun _ _ => rfl)) pe_str (nomark _)) (pss_one (ps_ret (pe_op op_add_str pe_str (pe_callB repc (gl (by decide +kernel)) T.repr boot_repr (pa_cons (fld hz hf) pa_nil))))) pss_nil)
      (pss_one (ps_ret (pe_op op_add_str (pe_op op_add_str (pe_ix ixl (pv 4) pe_int (fun _ _ => rfl)) pe_str)
          (pe_callB repc (gl (by decide +kernel)) T.repr boot_repr (pa_cons (pe_ifExp (pt_cmpR op_eq (pe_ix ixl (pv 4) pe_int (fun _ _ => rfl)) pe_str (nomark _)) (fld hz hf) (fld hz hf)) pa_nil)))))))))))))), ?_⟩
  · exact ⟨fun pins s' σ H' D I ⟨Ech, hW, h1, h2, h3⟩ => (pss_one (ps_expr (act (fun cls d σ H => σ.length = 7 → W cls d σ H) pn xe Ech _ _ (takes_len tk) hW))).run pins s' σ H' D I ⟨h1, h2, h3⟩⟩
  · refine ⟨XTold X.K CL RE Q, fun cls d σ' H1 hx hl => ?_, rfl, hc, ?_⟩
    · obtain ⟨i, dd, v, t, C, rfl, rfl, hd, hv, ht, k⟩ := hx
      refine ⟨true, C.exm, fun _ a ha => ?_, fun z => nomatch z⟩
      obtain ⟨s0, s1, s2, s3, s4, s5, s6, rfl⟩ : ∃ s0 s1 s2 s3 s4 s5 s6, σ' = [s0, s1, s2, s3, s4, s5, s6] := by
        match σ', hl with
        | [s0, s1, s2, s3, s4, s5, s6], _ => exact ⟨s0, s1, s2, s3, s4, s5, s6, rfl⟩
      refine ⟨_, rfl, rfl, _, rfl, iteF ?_⟩
      -- the kinds
      refine ⟨_, rfl, CL i, dd, .ref (CL 0), .ref (CL 0), _, _, rfl, rfl, rfl, C.exc, fun u r => r, C.kits 0 (by decide), hd, two_le, fun p0 hp0 => ?_⟩
      have z0 := Same.new (o := .tup [.str "yard", .bl (decide (i = 0))]) hp0
      refine ⟨_, rfl, CL i, dd, .ref (CL 1), .ref (CL 1), _, _, rfl, rfl, rfl, C.exc, fun u r => r, C.kits 1 (by decide), z0 _ _ hd, two_le, fun p1 hp1 => ?_⟩
      have z1 := z0.trans (Same.new (o := .tup [.str "text", .bl (decide (i = 1))]) hp1)
      refine ⟨two_le, fun l1 hl1 => ?_⟩
      have y1 := z1.trans (Same.new (o := .lst [V.ref p0, V.ref p1]) hl1)
      refine ⟨_, rfl, ?_⟩
      refine ⟨_, rfl, CL i, dd, .ref (CL 2), .ref (CL 2), _, _, rfl, rfl, rfl, C.exc, fun u r => r, C.kits 2 (by decide), y1 _ _ hd, two_le, fun p2 hp2 => ?_⟩
      have z2 := Same.new (o := .tup [.str "end", .bl (decide (i = 2))]) hp2
      refine ⟨_, rfl, CL i, dd, .ref (CL 3), .ref (CL 3), _, _, rfl, rfl, rfl, C.exc, fun u r => r, C.kits 3 (by decide), z2 _ _ (y1 _ _ hd), two_le, fun p3 hp3 => ?_⟩
      have z3 := z2.trans (Same.new (o := .tup [.str "setting", .bl (decide (i = 3))]) hp3)
      refine ⟨two_le, fun m1 hm1 => ?_⟩
      have x1 := z3.trans (Same.new (o := .lst [V.ref p2, V.ref p3]) hm1)
      refine ⟨_, _, _, _, rfl, rfl, SqL.of (x1 _ _ upd_same), upd_same, (by show 4 ≤ sizeLine; decide), fun l2 hl2 => ?_⟩
      have w1 := x1.trans (Same.new (o := .lst [V.ref p0, V.ref p1, V.ref p2, V.ref p3]) hl2)
      have y2 := y1.trans w1
      refine ⟨_, rfl, ?_⟩
      refine ⟨_, rfl, CL i, dd, .ref (CL 4), .ref (CL 4), _, _, rfl, rfl, rfl, C.exc, fun u r => r, C.kits 4 (by decide), y2 _ _ hd, two_le, fun p4 hp4 => ?_⟩
      have z4 := Same.new (o := .tup [.str "draft", .bl (decide (i = 4))]) hp4
      refine ⟨_, rfl, CL i, dd, .ref (CL 5), .ref (CL 5), _, _, rfl, rfl, rfl, C.exc, fun u r => r, C.kits 5 (by decide), z4 _ _ (y2 _ _ hd), two_le, fun p5 hp5 => ?_⟩
      have z5 := z4.trans (Same.new (o := .tup [.str "place", .bl (decide (i = 5))]) hp5)
      refine ⟨two_le, fun m2 hm2 => ?_⟩
      have x2 := z5.trans (Same.new (o := .lst [V.ref p4, V.ref p5]) hm2)
      refine ⟨_, _, _, _, rfl, rfl, SqL.of (x2 _ _ upd_same), upd_same, (by show 6 ≤ sizeLine; decide), fun l3 hl3 => ?_⟩
      have w2 := x2.trans (Same.new (o := .lst [V.ref p0, V.ref p1, V.ref p2, V.ref p3, V.ref p4, V.ref p5]) hl3)
      have y3 := y2.trans w2
      refine ⟨_, rfl, ?_⟩
      refine ⟨_, rfl, CL i, dd, .ref (CL 6), .ref (CL 6), _, _, rfl, rfl, rfl, C.exc, fun u r => r, C.kits 6 (by decide), y3 _ _ hd, two_le, fun p6 hp6 => ?_⟩
      have z6 := Same.new (o := .tup [.str "barred", .bl (decide (i = 6))]) hp6
      refine ⟨_, rfl, CL i, dd, .ref (CL 7), .ref (CL 7), _, _, rfl, rfl, rfl, C.exc, fun u r => r, C.kits 7 (by decide), z6 _ _ (y3 _ _ hd), two_le, fun p7 hp7 => ?_⟩
      have z7 := z6.trans (Same.new (o := .tup [.str "many", .bl (decide (i = 7))]) hp7)
      refine ⟨two_le, fun m3 hm3 => ?_⟩
      have x3 := z7.trans (Same.new (o := .lst [V.ref p6, V.ref p7]) hm3)
      refine ⟨_, _, _, _, rfl, rfl, SqL.of (x3 _ _ upd_same), upd_same, (by show 8 ≤ sizeLine; decide), fun l4 hl4 => ?_⟩
      have w3 := x3.trans (Same.new (o := .lst [V.ref p0, V.ref p1, V.ref p2, V.ref p3, V.ref p4, V.ref p5, V.ref p6, V.ref p7]) hl4)
      have y4 := y3.trans w3
      have d0 := w3 _ _ (w2 _ _ (w1 _ _ (Same.new (o := .lst [V.ref p0, V.ref p1]) hl1 _ _ (Same.new (o := .tup [.str "text", .bl (decide (i = 1))]) hp1 _ _ (upd_same (o := HO.tup [.str "yard", .bl (decide (i = 0))]))))))
      have d1 := w3 _ _ (w2 _ _ (w1 _ _ (Same.new (o := .lst [V.ref p0, V.ref p1]) hl1 _ _ (upd_same (o := HO.tup [.str "text", .bl (decide (i = 1))])))))
      have d2 := w3 _ _ (w2 _ _ (Same.new (o := .lst [V.ref p0, V.ref p1, V.ref p2, V.ref p3]) hl2 _ _ (Same.new (o := .lst [V.ref p2, V.ref p3]) hm1 _ _ (Same.new (o := .tup [.str "setting", .bl (decide (i = 3))]) hp3 _ _ (upd_same (o := HO.tup [.str "end", .bl (decide (i = 2))]))))))
      have d3 := w3 _ _ (w2 _ _ (Same.new (o := .lst [V.ref p0, V.ref p1, V.ref p2, V.ref p3]) hl2 _ _ (Same.new (o := .lst [V.ref p2, V.ref p3]) hm1 _ _ (upd_same (o := HO.tup [.str "setting", .bl (decide (i = 3))])))))
      have d4 := w3 _ _ (Same.new (o := .lst [V.ref p0, V.ref p1, V.ref p2, V.ref p3, V.ref p4, V.ref p5]) hl3 _ _ (Same.new (o := .lst [V.ref p4, V.ref p5]) hm2 _ _ (Same.new (o := .tup [.str "place", .bl (decide (i = 5))]) hp5 _ _ (upd_same (o := HO.tup [.str "draft", .bl (decide (i = 4))])))))
      have d5 := w3 _ _ (Same.new (o := .lst [V.ref p0, V.ref p1, V.ref p2, V.ref p3, V.ref p4, V.ref p5]) hl3 _ _ (Same.new (o := .lst [V.ref p4, V.ref p5]) hm2 _ _ (upd_same (o := HO.tup [.str "place", .bl (decide (i = 5))]))))
      have d6 := Same.new (o := .lst [V.ref p0, V.ref p1, V.ref p2, V.ref p3, V.ref p4, V.ref p5, V.ref p6, V.ref p7]) hl4 _ _ (Same.new (o := .lst [V.ref p6, V.ref p7]) hm3 _ _ (Same.new (o := .tup [.str "many", .bl (decide (i = 7))]) hp7 _ _ (upd_same (o := HO.tup [.str "barred", .bl (decide (i = 6))]))))
      have d7 := Same.new (o := .lst [V.ref p0, V.ref p1, V.ref p2, V.ref p3, V.ref p4, V.ref p5, V.ref p6, V.ref p7]) hl4 _ _ (Same.new (o := .lst [V.ref p6, V.ref p7]) hm3 _ _ (upd_same (o := HO.tup [.str "many", .bl (decide (i = 7))])))
      have hK : KL _ [p0, p1, p2, p3, p4, p5, p6, p7] (kindsOf i) := .cons d0 (.cons d1 (.cons d2 (.cons d3 (.cons d4 (.cons d5 (.cons d6 (.cons d7 .nil)))))))
      have hl4' := last_of w3
      have hl4' : _ = some (HO.lst (refs [p0, p1, p2, p3, p4, p5, p6, p7])) := hl4'
      have hd4 := y4 _ _ hd
      generalize hPs : [p0, p1, p2, p3, p4, p5, p6, p7] = ps at hK hl4'
      clear d0 d1 d2 d3 d4 d5 d6 d7
      refine ⟨_, rfl, l4, rfl, ⟨_, SqL.of hl4'⟩, fun D hD => ?_⟩
      have sD := Same.new (o := .lst []) hD
      have lenP : ps.length = 8 := by rw [← hPs]; rfl
      refine lc_it (walk_list (K := X.K) (a := l4) (xs := refs ps)) (fun n H6 => ∃ acc : List V, H6 D = some (.lst acc) ∧ acc = (((kindsOf i).take n).filter (·.2)).map (fun p => V.str p.1) ∧ n ≤ 8 ∧ Same _ H6) ⟨[], upd_same, rfl, Nat.zero_le _, sD⟩ (fun n H6 _ ⟨_, _, _, _, s6⟩ => SqL.of (s6 _ _ hl4')) ?_ ?_
      · rintro n x H6 H7 hn ⟨acc, hD6, ea, h8, s6⟩ ⟨rfl, hx⟩
        have hn8 : n < 8 := by rw [List.length_map, lenP] at hn; exact hn
        have hx : (refs ps)[n]? = some x := hx
        rw [List.getElem?_map, List.getElem?_eq_getElem (by omega : n < ps.length)] at hx
        cases hx
        obtain ⟨p, hp, hpa⟩ := hK.get (List.getElem?_eq_getElem (by omega : n < ps.length))
        have h6 := s6 _ _ hpa
        have step : (kindsOf i).take (n + 1) = (kindsOf i).take n ++ [p] := by
          rw [List.take_succ, hp]
          rfl
        refine ⟨_, _, rfl, SqT.of h6, rfl, _, _, rfl, _, _, rfl, rfl, rfl, ?_⟩
        refine ⟨_, rfl, _, rfl, ?_⟩
        refine ite2 (fun hb => ?_) (fun hb => ?_)
        · have hlen : acc.length ≤ 8 := by
            rw [ea, List.length_map]
            exact Nat.le_trans (List.length_filter_le _ _) (by rw [List.length_take]; omega)
          refine ⟨_, rfl, acc, hD6, small1000 (by omega), acc ++ [V.str p.1], upd_same, ?_, by omega, fun b o e => ?_⟩
          · rw [step, List.filter_append, List.map_append, ← ea]
            have : [p].filter (·.2) = [p] := by rw [List.filter_cons, if_pos hb, List.filter_nil]
            rw [this]
            rfl
          · rw [upd_ne (ne_of_none e hD)]
            exact s6 _ _ e
        · refine ⟨acc, hD6, ?_, by omega, s6⟩
          rw [step, List.filter_append]
          have : [p].filter (·.2) = [] := by rw [List.filter_cons, if_neg hb, List.filter_nil]
          rw [this, List.append_nil]
          exact ea
      · rintro H6 ⟨acc, hD6, ea, _, s6⟩
        have e8 : (refs ps).length = 8 := by rw [List.length_map, lenP]
        rw [e8, show (kindsOf i).take 8 = kindsOf i from rfl, kinds_one i C.lt] at ea
        have ea : acc = [V.str (wordOf i)] := ea
        subst ea
        have hd6 := s6 _ _ hd4
        have sA := y4.trans s6
        have hw := word_short i C.lt
        refine ⟨_, rfl, D, _, rfl, .inl (SqL.of hD6), rfl, _, rfl, ?_⟩
        refine ite2 (fun hb => absurd hb (by simp)) fun _ => ?_
        refine ⟨_, rfl, CL i, dd, .ty "ValueError", .type "ValueError", true, _, rfl, rfl, rfl, C.exc, fun u r => r, C.ve, hd6, true, rfl, iteF ?_⟩
        refine ⟨_, rfl, D, _, 0, _, rfl, rfl, SqL.of hD6, rfl, rfl, _, rfl, ?_⟩
        have hv6 := hv _ sA
        have hq := k _ sA
        have big : (2000000 : Nat) ≤ sizeLine := by decide
        by_cases h6 : i = 6
        · subst h6
          rw [show decide (V.str (wordOf 6) = V.str "barred") = true from word_barred 6 C.lt]
          refine iteT ⟨_, rfl, CL 6, dd, _, v, rfl, rfl, rfl, C.xf, C.no, hd6, lookup_one, v, t, rfl, hv6, _, _, rfl, rfl, ?_, hq⟩
          have : ("barred " : Str).length = 7 := rfl
          omega
        · rw [show decide (V.str (wordOf i) = V.str "barred") = false from (word_barred i C.lt).trans (decide_eq_false h6)]
          refine iteF ?_
          have et : toldOf i t = wordOf i ++ (" " : Str) ++ t := if_neg h6
          rw [et] at hq
          refine ⟨_, rfl, D, _, 0, _, rfl, rfl, SqL.of hD6, rfl, _, _, rfl, rfl, ?_, ?_⟩
          · have : (" " : Str).length = 1 := rfl
            omega
          refine ⟨_, rfl, D, _, 0, _, rfl, rfl, SqL.of hD6, rfl, rfl, _, rfl, ?_⟩
          have fin : ((wordOf i ++ (" " : Str)).length + t.length ≤ sizeLine) := by
            rw [strLen_append]
            have : (" " : Str).length = 1 := rfl
            omega
          by_cases h7 : i = 7
          · subst h7
            rw [show decide (V.str (wordOf 7) = V.str "many") = true from word_many 7 C.lt]
            exact iteT ⟨_, rfl, CL 7, dd, _, v, rfl, rfl, rfl, C.xf, C.no, hd6, lookup_one, v, t, rfl, hv6, _, _, rfl, rfl, fin, hq⟩
          · rw [show decide (V.str (wordOf i) = V.str "many") = false from (word_many i C.lt).trans (decide_eq_false h7)]
            refine iteF ?_
            have ef : fldOf i = "place" := by
              unfold fldOf
              rw [if_neg h6, if_neg h7]
            rw [ef] at hd6
            refine ⟨_, rfl, CL i, dd, _, v, rfl, rfl, rfl, C.xf, ef ▸ C.no, hd6, lookup_one, v, t, rfl, hv6, _, _, rfl, rfl, fin, hq⟩
    · have e : (fun (_ : V) (H' : Hp) => tSeq (tIfS (tTest (tOp (fun x y H Q => y = V.non ∧ Q (V.bl (decide (x = V.non))) H) (tVar 1) (tC V.non))) (tRet (tC (V.str ("" : Str)))) tNext) tNever { nx := fun _ H' => Q V.non H', rt := Q } ((L2.start nRef [V.ref f]).set 1 (some V.non)) H') = fun _ H' => Q (.str "") H' := by
        funext _ H'
        refine propext ⟨fun ⟨v, hv, e1, b, eb, hi⟩ => ?_, fun hq => ⟨_, rfl, rfl, _, rfl, iteT hq⟩⟩
        cases hv
        cases eb
        have hi : if (true : Bool) = true then _ else _ := hi
        rw [if_pos rfl] at hi
        exact hi
      exact Eq.mpr (congrArg (tl (XTold X.K CL RE Q) H) e) h
end
end One
end P_X6

section P_DA
set_option linter.all false
set_option maxRecDepth 100000
set_option maxHeartbeats 16000000
namespace One
open PySem PySem.Spec PyProof.Rows L2
theorem tup_off {H : Hp} {p c t : Addr} {n : Nat} {xs : List V} (M : MS H p c n) (h : H t = some (.tup xs)) : t ≠ p := by
  obtain ⟨_, _, _, _, h1, _⟩ := M.ex
  exact ne_of h h1 (by intro z; cases z)
theorem MS.apart {H : Hp} {p c t : Addr} {n : Nat} (M : MS H p c n) (h : H t = none) : t ≠ p := by
  obtain ⟨_, _, _, _, h1, _⟩ := M.ex
  exact fun z => by rw [z, h1] at h; cases h
/-- all stays but the dice and the tables -/
def ExtT (p l : Addr) (H H' : Hp) : Prop := ∀ b o, b ≠ p → b ≠ l → (∀ ps, o ≠ .tbl ps) → H b = some o → H' b = some o
theorem ExtT.refl (p l : Addr) (H : Hp) : ExtT p l H H := fun _ _ _ _ _ e => e
theorem ExtT.trans {p l : Addr} {H H1 H2 : Hp} (a : ExtT p l H H1) (b : ExtT p l H1 H2) : ExtT p l H H2 := fun c o x y z e => b c o x y z (a c o x y z e)
theorem ExtT.ofE {p l : Addr} {H H1 : Hp} (a : Ext p H H1) : ExtT p l H H1 := fun c o x _ _ e => a c o x e
theorem ExtT.ofS {p l : Addr} {H H1 : Hp} (a : Same H H1) : ExtT p l H H1 := fun c o _ _ _ e => a c o e
theorem ExtT.ofN {p l : Addr} {H H1 : Hp} (a : LamX.ExtN H H1) : ExtT p l H H1 := fun c o _ _ z e => a c o e z
/-! ### things as data, away from the dice -/
mutual
inductive Da (p l : Addr) (H : Hp) : V → PyData → Prop
  | non : Da p l H .non .none
  | bl (b : Bool) : Da p l H (.bl b) (.bool b)
  | int (i : Int) : Da p l H (.int i) (.int i)
  | str (x : Str) : Da p l H (.str x) (.str x)
  | lst {a : Addr} {xs : List V} {ds : List PyData} : a ≠ p → a ≠ l → a ≠ sysModules → H a = some (.lst xs) → DaAll p l H xs ds → Da p l H (.ref a) (.list ds)
  | tup {a : Addr} {xs : List V} {ds : List PyData} : a ≠ p → a ≠ l → H a = some (.tup xs) → DaAll p l H xs ds → Da p l H (.ref a) (.tuple ds)
  | emp {a : Addr} : a ≠ p → a ≠ l → H a = some (.dK []) → Da p l H (.ref a) (.dict [])
inductive DaAll (p l : Addr) (H : Hp) : List V → List PyData → Prop
  | nil : DaAll p l H [] []
  | cons {v : V} {vs : List V} {d : PyData} {ds : List PyData} : Da p l H v d → DaAll p l H vs ds → DaAll p l H (v :: vs) (d :: ds)
end
mutual
theorem Da.extT {p l : Addr} {H H' : Hp} (e : ExtT p l H H') : ∀ (d : PyData) (v : V), Da p l H v d → Da p l H' v d
  | .none, _, h => by cases h; exact .non
  | .bool _, _, h => by cases h; exact .bl _
  | .int _, _, h => by cases h; exact .int _
  | .str _, _, h => by cases h; exact .str _
  | .list ds, _, h => by
    cases h with
    | lst a b c f g => exact .lst a b c (e _ _ a b (by intro _ z; cases z) f) (DaAll.extT e ds _ g)
  | .tuple ds, _, h => by
    cases h with
    | tup a b f g => exact .tup a b (e _ _ a b (by intro _ z; cases z) f) (DaAll.extT e ds _ g)
  | .dict _, _, h => by
    cases h with
    | emp a b f => exact .emp a b (e _ _ a b (by intro _ z; cases z) f)
theorem DaAll.extT {p l : Addr} {H H' : Hp} (e : ExtT p l H H') : ∀ (ds : List PyData) (vs : List V), DaAll p l H vs ds → DaAll p l H' vs ds
  | [], _, h => by cases h; exact .nil
  | d :: ds, _, h => by
    cases h with
    | cons a b => exact .cons (Da.extT e d _ a) (DaAll.extT e ds _ b)
end
mutual
theorem Da.q {p l : Addr} {H : Hp} : ∀ (d : PyData) (v : V), Da p l H v d → Dq H v d
  | .none, _, h => by cases h; exact .non
  | .bool _, _, h => by cases h; exact .bl _
  | .int _, _, h => by cases h; exact .int _
  | .str _, _, h => by cases h; exact .str _
  | .list ds, _, h => by
    cases h with
    | lst a b c f g => exact .lst c f (DaAll.q ds _ g)
  | .tuple ds, _, h => by
    cases h with
    | tup a b f g => exact .tup f (DaAll.q ds _ g)
  | .dict _, _, h => by
    cases h with
    | emp a b f => exact .emp f
theorem DaAll.q {p l : Addr} {H : Hp} : ∀ (ds : List PyData) (vs : List V), DaAll p l H vs ds → DqAll H vs ds
  | [], _, h => by cases h; exact .nil
  | d :: ds, _, h => by
    cases h with
    | cons a b => exact .cons (Da.q d _ a) (DaAll.q ds _ b)
end
theorem Da.tv {p l : Addr} {H : Hp} {v : V} {d : PyData} (h : Da p l H v d) : ∃ T, TV H v T := by
  cases h with
  | non => exact ⟨_, .non⟩
  | bl b => exact ⟨_, .bl b⟩
  | int i => exact ⟨_, .int i⟩
  | str x => exact ⟨_, .str x⟩
  | lst a b c f g => exact ⟨_, .lst f⟩
  | tup a b f g => exact ⟨_, .tup f⟩
  | emp a b f => exact ⟨_, .dct f⟩
section
variable {p l : Addr} {H : Hp}
theorem DaAll.len {vs : List V} {ds : List PyData} : DaAll p l H vs ds → vs.length = ds.length := by
  induction ds generalizing vs with
  | nil => intro h; cases h; rfl
  | cons d ds ih =>
    intro h
    cases h with
    | cons a b => exact congrArg (· + 1) (ih b)
theorem DaAll.app {vs ws : List V} {ds es : List PyData} (k : DaAll p l H ws es) : DaAll p l H vs ds → DaAll p l H (vs ++ ws) (ds ++ es) := by
  induction ds generalizing vs with
  | nil => intro h; cases h; exact k
  | cons d ds ih =>
    intro h
    cases h with
    | cons a b => exact .cons a (ih b)
theorem DaAll.take {vs : List V} {ds : List PyData} (n : Nat) : DaAll p l H vs ds → DaAll p l H (vs.take n) (ds.take n) := by
  induction ds generalizing vs n with
  | nil => intro h; cases h; rw [List.take_nil, List.take_nil]; exact .nil
  | cons d ds ih =>
    intro h
    cases h with
    | cons a b =>
      cases n with
      | zero => exact .nil
      | succ n => exact .cons a (ih n b)
theorem DaAll.drop {vs : List V} {ds : List PyData} (n : Nat) : DaAll p l H vs ds → DaAll p l H (vs.drop n) (ds.drop n) := by
  induction ds generalizing vs n with
  | nil => intro h; cases h; rw [List.drop_nil, List.drop_nil]; exact .nil
  | cons d ds ih =>
    intro h
    cases h with
    | cons a b =>
      cases n with
      | zero => exact .cons a b
      | succ n => exact ih n b
theorem DaAll.rev {vs : List V} {ds : List PyData} : DaAll p l H vs ds → DaAll p l H vs.reverse ds.reverse := by
  induction ds generalizing vs with
  | nil => intro h; cases h; exact .nil
  | cons d ds ih =>
    intro h
    cases h with
    | cons a b =>
      rw [List.reverse_cons, List.reverse_cons]
      exact DaAll.app (.cons a .nil) (ih b)
theorem DaAll.get {vs : List V} {ds : List PyData} {i : Nat} {v : V} : DaAll p l H vs ds → vs[i]? = some v → ∃ d, ds[i]? = some d ∧ Da p l H v d := by
  induction ds generalizing vs i with
  | nil => intro h e; cases h; simp at e
  | cons d ds ih =>
    intro h e
    cases h with
    | cons a b =>
      cases i with
      | zero =>
        cases e
        exact ⟨_, rfl, a⟩
      | succ i => exact ih b (by simpa using e)
theorem DaAll.got {vs : List V} {ds : List PyData} {i : Nat} {d : PyData} (h : DaAll p l H vs ds) (e : ds[i]? = some d) : ∃ v, vs[i]? = some v ∧ Da p l H v d := by
  have hi := (List.getElem?_eq_some_iff.mp e).1
  obtain ⟨d', e', h'⟩ := h.get (List.getElem?_eq_getElem (by rw [h.len]; exact hi))
  cases e.symm.trans e'
  exact ⟨_, List.getElem?_eq_getElem (by rw [h.len]; exact hi), h'⟩
theorem da_nats : ∀ ns : List Nat, DaAll p l H (nats ns) (ns.map fun x => PyData.int (x : Nat))
  | [] => .nil
  | _ :: ns => .cons (.int _) (da_nats ns)
end
/-! ### how large: what is shown -/
structure Fx (d : PyData) (k n : Nat) : Prop where
  sh : d.showable = true
  dp : d.depth ≤ k
  lf : d.leavesShort 48 = true
  bk : d.bulk ≤ n
structure FxA (ds : List PyData) (k n : Nat) : Prop where
  sh : PyData.showableAll ds = true
  dp : PyData.depthAll ds ≤ k
  lf : PyData.leavesShortAll 48 ds = true
  bk : PyData.bulkAll ds ≤ n
theorem FxA.nil {k n : Nat} : FxA [] k n := ⟨rfl, Nat.zero_le _, rfl, Nat.zero_le _⟩
theorem FxA.cons {d : PyData} {ds : List PyData} {k n m : Nat} (a : Fx d k n) (b : FxA ds k m) : FxA (d :: ds) k (n + 1 + m) := by
  refine ⟨?_, ?_, ?_, ?_⟩
  · show (d.showable && PyData.showableAll ds) = true
    rw [a.sh, b.sh]; rfl
  · show max d.depth (PyData.depthAll ds) ≤ k
    exact Nat.max_le.mpr ⟨a.dp, b.dp⟩
  · show (d.leavesShort 48 && PyData.leavesShortAll 48 ds) = true
    rw [a.lf, b.lf]; rfl
  · show d.bulk + 1 + PyData.bulkAll ds ≤ _
    have := a.bk
    have := b.bk
    omega
theorem FxA.tup {ds : List PyData} {k n : Nat} (a : FxA ds k n) : Fx (.tuple ds) (k + 1) n := ⟨a.sh, Nat.succ_le_succ a.dp, a.lf, a.bk⟩
theorem FxA.lst {ds : List PyData} {k n : Nat} (a : FxA ds k n) : Fx (.list ds) (k + 1) n := ⟨a.sh, Nat.succ_le_succ a.dp, a.lf, a.bk⟩
theorem Fx.up {d : PyData} {k j n m : Nat} (a : Fx d k n) (h : k ≤ j) (h2 : n ≤ m) : Fx d j m := ⟨a.sh, Nat.le_trans a.dp h, a.lf, Nat.le_trans a.bk h2⟩
/-- items of a size each -/
theorem fxA_all {k n : Nat} : ∀ {ds : List PyData}, (∀ d ∈ ds, Fx d k n) → FxA ds k ((n + 1) * ds.length)
  | [], _ => .nil
  | d :: ds, h => by
    have a := FxA.cons (h d (List.mem_cons_self ..)) (fxA_all fun e he => h e (List.mem_cons_of_mem _ he))
    refine ⟨a.sh, a.dp, a.lf, ?_⟩
    have b := a.bk
    rw [List.length_cons, Nat.mul_succ]
    omega
theorem Fx.short {d : PyData} {k n : Nat} (h : Fx d k n) (hn : n ≤ 10000) : d.shown.length ≤ 500048 := by
  have q := PyData.shown_le_bulk 48 (by decide) d h.lf
  have := h.bk
  omega
theorem rq_da {K : PySem.W.Frag} {p l : Addr} {H : Hp} {v : V} {d : PyData} {k n : Nat} {Q : VK} (h : Da p l H v d) (f : Fx d k n) (hk : k ≤ 16) (hn : n ≤ 10000) (q : Q (.str d.shown) H) : rReprQ K [v] H Q :=
  ⟨v, d, rfl, .inr (Da.q d v h), f.sh, Nat.le_trans f.dp hk, Nat.le_trans (f.short hn) (by decide), q⟩
/-! ### list(t), where a list stands that is not the modules' dict -/
section
variable {X : Cx}
def rListN (K : PySem.W.Frag) : List V → Hp → VK → Prop := fun xs H Q => ∃ p ys, xs = [.ref p] ∧ SqT K H p ys ∧ ∀ l, l ≠ sysModules → H l = none → Q (.ref l) (upd H l (.lst ys))
theorem call_listN : CallR X (.type "list") (rListN X.K) := by
  intro pins s σ H xs us Q I r h
  obtain ⟨p, ys, rfl, hq, q⟩ := h
  obtain ⟨u, rfl, rx⟩ := vals1 r
  cases rx
  have fin : ∀ (its : List Value), Vals ys its → ys.length ≤ sizeLine → ∀ (h' : Heap) (c' : Nat), (∀ b o', s.heap.get? b = some o' → h'.get? b = some o') →
      h'.get? s.heap.objs.size = some { cls := .type "list", dict := none, data := .seq its.toArray c', slots := #[] } → EP X pins σ Q (.ref s.heap.objs.size) { s with heap := h' } := fun its r' hz h' c' kp e =>
    ⟨.ref s.heap.objs.size, _, I.laid (t' := s.toks) kp (Nat.le_refl _) (show ObjOk X.prog X.w _ h' _ (.lst ys) from ⟨hz, its, c', r', e⟩), rfl, q _ (Nat.ne_of_gt I.big) (I.hok.fresh (Nat.le_refl _))⟩
  obtain ⟨its, r', pl, hz⟩ := I.tuple hq
  have hlen := r'.length
  obtain ⟨o, ho, hc, n, hd⟩ := pl
  exact call_list_seq p (.inr rfl) ho hc hd (fun h' c' kp e => fin its r' hz h' c' kp e) (by simp only [List.size_toArray] <;> omega)
/-! ### [a, ..] the same -/
def tLstN (t : TA) : TE := fun σ H Q => t σ H fun xs H1 => xs.length ≤ sizeLine ∧ ∀ p, p ≠ sysModules → H1 p = none → Q (.ref p) (upd H1 p (.lst xs))
theorem pe_lstN {es : List Expr} {t : TA} {pos : Pos} (h : PA X es t) : PE X (.List es pos) (tLstN t) := by
  refine ⟨fun pins s σ H Q I hq => ?_⟩
  refine wpAny_List_spliced (thn (h.run pos pins s σ H _ I hq) fun us s1 ⟨xs, H1, I1, r, z, q⟩ => ⟨by rw [← r.length]; exact z, ?_⟩)
  have hf : H1 s1.heap.objs.size = none := I1.hok.fresh (Nat.le_refl _)
  refine ⟨.ref s1.heap.objs.size, upd H1 s1.heap.objs.size (.lst xs), I1.laid (t' := s1.toks) (fun b u e => Heap.get?_push_of_some _ e) (Nat.le_refl _) ?_, rfl, q _ (Nat.ne_of_gt I1.big) hf⟩
  exact ⟨z, us, 0, r, Heap.get?_push_size _ rfl⟩
end
/-! ### the same in own words -/
theorem rq_of {K : PySem.W.Frag} {H : Hp} {xs : List V} {Q : VK} (h : rRepr K xs H Q) : rReprQ K xs H Q := by
  obtain ⟨a, d, e, hd, h1, h2, h3, h4, q⟩ := h
  exact ⟨.ref a, d, e, .inl ⟨hd, h2⟩, h1, h3, h4, q⟩
/-- a statement that does not end, then anything -/
theorem pss_stop {X : Cx} {st : Stmt} {rest : List Stmt} {t : TS} (h1 : PS X st t) : PSs X (st :: rest) (fun D σ H => t { D with nx := fun _ _ => False } σ H) := by
  refine ⟨fun pins s σ H D I h => ?_⟩
  refine wpAny_execs_cons (thn (h1.run pins s σ H { D with nx := fun _ _ => False } I h) fun f s1 q => ?_)
  cases f with
  | next =>
    obtain ⟨σ', H', I', q⟩ := q
    exact q.elim
  | ret v => exact q
  | brk => exact q
  | cont => exact q
end One
end P_DA

section P_F4
set_option linter.all false
set_option maxRecDepth 100000
set_option maxHeartbeats 8000000
namespace One
open PySem PySem.Spec PyProof.Rows L2
abbrev sNeed : Stmt := top 18
abbrev sIsYard : Stmt := top 19
abbrev sBadYard : Stmt := top 2
theorem scNeed : FnScope ["thing", "place"] ["thing"] (defScope sNeed) := ⟨rfl, rfl, rfl, by decide +kernel, rfl, by decide +kernel, by decide +kernel⟩
theorem scIsYard : FnScope ["thing"] ["thing"] (defScope sIsYard) := ⟨rfl, rfl, rfl, by decide +kernel, rfl, by decide +kernel, by decide +kernel⟩
theorem il_of {H : Hp} {N : Nat} {as : List Addr} {ps : List (Nat × Nat)} (h : PL H as ps) (k : ∀ p ∈ ps, p.1 < p.2 ∧ p.2 < N) : IL H N (refs as) (ps.map some) := by
  induction h with
  | nil => exact .nil
  | cons h1 _ ih =>
    obtain ⟨k1, k2⟩ := k _ (List.mem_cons_self ..)
    exact .line h1 k1 k2 (ih fun p m => k p (List.mem_cons_of_mem _ m))
theorem map_some_inj {α : Type} : ∀ {a b : List α}, a.map some = b.map some → a = b
  | [], [], _ => rfl
  | [], _ :: _, h => by cases h
  | _ :: _, [], h => by cases h
  | x :: a, y :: b, h => by
    rw [List.map_cons, List.map_cons] at h
    obtain ⟨h1, h2⟩ := List.cons.inj h
    rw [Option.some.inj h1, map_some_inj h2]
theorem Yard.lt {n : Nat} {ps : List (Nat × Nat)} (y : Yard n ps) : ∀ p ∈ ps, p.1 < p.2 ∧ p.2 < 4 * n := fun p m => ⟨y.low p m, y.lines.lt _ (mem_ends.mpr ⟨p, m, .inr rfl⟩)⟩
/-- a yard has no fault -/
theorem fault_good {H : Hp} {t : Addr} {n : Nat} {ps : List (Nat × Nat)} {Q : VK} {E : XK} (y : YAt H t n ps) (hn : n ≤ 40) (q : ∀ H', Same H H' → Q .non H') : spFault [.ref t] H Q E := by
  obtain ⟨Y, as, ht, hP⟩ := y
  have hl : (refs as).length = 2 * n := by rw [List.length_map, hP.len, Y.lines.len]
  have hpos := Y.pos
  refine ⟨_, rfl, .inr ⟨t, refs as, ps.map some, rfl, ht, ?_, ?_, fun k hk => ?_, fun _ qs e => ?_⟩⟩
  · unfold canBe
    rw [hl]
    simp only [Bool.and_eq_true, decide_eq_true_eq]
    omega
  · rw [hl]
    exact il_of hP fun p m => ⟨(Y.lt p m).1, by have := (Y.lt p m).2; omega⟩
  · rw [yard_good Y] at hk
    cases hk
  · cases map_some_inj e
    rw [hl, show 2 * n / 2 = n by omega]
    exact ⟨fun _ => q, fun z => absurd Y.whole z⟩
theorem fault_mono {H : Hp} {v : V} {Q Q' : VK} {E E' : XK} (h : spFault [v] H Q E) (k : ∀ r H', Q r H' → Q' r H') : spFault [v] H Q' E' := by
  obtain ⟨v', e, h⟩ := h
  refine ⟨v', e, ?_⟩
  rcases h with ⟨h1, h2⟩ | ⟨t, xs, os, h1, h2, h3, h4, h5, h6⟩
  · exact .inl ⟨h1, fun H' p a b => k _ _ (h2 H' p a b)⟩
  · exact .inr ⟨t, xs, os, h1, h2, h3, h4, fun j e H' p a b => k _ _ (h5 j e H' p a b), fun e ps eo => ⟨fun z H' a => k _ _ ((h6 e ps eo).1 z H' a), fun z H' p a b => k _ _ ((h6 e ps eo).2 z H' p a b)⟩⟩
/-- a tuple of no good length: () -/
theorem fault_len {H : Hp} {t : Addr} {xs : List V} {Q : VK} {E : XK} (ht : H t = some (.tup xs)) (hc : canBe (xs.length : Nat) = false) (q : ∀ (H' : Hp) (p : Addr), Same H H' → H' p = some (.tup []) → Q (.ref p) H') : spFault [.ref t] H Q E :=
  ⟨_, rfl, .inl ⟨.inr ⟨t, xs, rfl, ht, hc⟩, q⟩⟩
/-- a fault told -/
def Wrong (C0 : Addr) (E : XK) (r : V) (H : Hp) : Prop := ∃ (p : Addr) (ns : List Nat), r = .ref p ∧ H p = some (.tup (nats ns)) ∧ ns.length ≤ 100 ∧ (∀ n ∈ ns, n < 1000) ∧ ∀ d, H d = none → E (.ref C0) (some d) (upd H d (.xd [("place", .ref p)]))
def spNeed (C0 : Addr) : Sp := fun vs H Q E => ∃ v, vs = [v] ∧ spFault [v] H (fun r H' => (r = .non ∧ Q v H') ∨ Wrong C0 E r H') E0
def spIsYard : Sp := fun vs H Q _ => ∃ v, vs = [v] ∧ spFault [v] H (fun r H' => Q (.bl (decide (r = .non))) H') E0
section
variable {P : Program} {w : World} {K : PySem.W.Frag} {mg : Str → Option Value} {base : Heap} {C0 fI : Addr} {sX : Stmt}
theorem ok_need {f fF : Addr} {fd fdF : FuncData} (F : Fun K "need_yard" "need_yard" sNeed f fd) (T : OwnTxt P K sX "place" C0 fI) (O : OwnCls K mg "BadYard" C0 fI) (noS : mg "super" = none) (B : Cal K mg "yard_fault" fF fdF ["thing"]) (GF : FnOk P w K mg base CX0 4 fF fdF ["thing"] spFault) :
    FnOk P w K mg base (L2.CX P w) 5 f fd ["thing"] (spNeed C0) := by
  refine F.okX scNeed (fun vs H Q E h => ?_) (fun cdv A outer s H vs Q E hr h => ?_)
  · obtain ⟨v, rfl, _⟩ := h
    rfl
  · obtain ⟨v, rfl, h⟩ := h
    have nd := scNeed.nd
    refine ⟨_, pss_cons (ps_set (i := 1) nd rfl (Or.inl rfl) (pe_call GF hr rfl B.g B.kp B.b .nil pass0 (pa_cons (pv 0) pa_nil)))
      (pss_cons (ps_if (pt_cmpR op_notN (pv 1) pe_non (nomark _)) (pss_one (ps_raiseX rfl (Or.inl rfl) T O noS hr (takes_of rfl rfl rfl rfl) (pa_cons (pv 1) pa_nil) (by rfl))) pss_nil)
      (pss_one (ps_ret (pv 0)))), ?_⟩
    refine ⟨_, rfl, ?_⟩
    unfold tNil
    refine fault_mono (Q := fun r H' => (r = .non ∧ Q v H') ∨ Wrong C0 E r H') h fun r H' hq => ?_
    rcases hq with ⟨rfl, q⟩ | ⟨p, ns, rfl, hp, hl, hs, q⟩
    · exact ⟨_, rfl, rfl, _, rfl, iteF ⟨_, rfl, q⟩⟩
    · refine ⟨_, rfl, rfl, _, rfl, iteT ⟨_, rfl, _, rfl, .tup ns (SqT.of hp) hl hs, fun d hd => q d hd⟩⟩
theorem ok_isyard {f fF : Addr} {fd fdF : FuncData} (F : Fun K "is_yard" "is_yard" sIsYard f fd) (B : Cal K mg "yard_fault" fF fdF ["thing"]) (GF : FnOk P w K mg base CX0 4 fF fdF ["thing"] spFault) :
    FnOk P w K mg base CX0 5 f fd ["thing"] spIsYard := by
  refine F.ok scIsYard (fun vs H Q E h => ?_) (fun cdv A outer s H vs Q E hr h => ?_)
  · obtain ⟨v, rfl, _⟩ := h
    rfl
  · obtain ⟨v, rfl, h⟩ := h
    refine ⟨_, pss_one (ps_ret (pe_cmpR op_isN (pe_call GF hr rfl B.g B.kp B.b .nil pass0 (pa_cons (pv 0) pa_nil)) pe_non (nomark _))), ?_⟩
    refine ⟨_, rfl, ?_⟩
    unfold tNil
    exact fault_mono h fun r H' hq => ⟨rfl, hq⟩
end
end One
end P_F4

section P_M5
set_option linter.all false
/-! Far ends; sewing the newest crossing out again. -/
namespace One
/-- strictly sorted lists with the same items are the same -/
theorem sorted_ext {α : Type} {lt : α → α → Prop} (irr : ∀ a, ¬ lt a a) (tr : ∀ a b c, lt a b → lt b c → lt a c) : ∀ {L M : List α}, L.Pairwise lt → M.Pairwise lt → (∀ x, x ∈ L ↔ x ∈ M) → L = M
  | [], [], _, _, _ => rfl
  | [], b :: M, _, _, h => absurd ((h b).mpr (List.mem_cons_self ..)) (by simp)
  | a :: L, [], _, _, h => absurd ((h a).mp (List.mem_cons_self ..)) (by simp)
  | a :: L, b :: M, hL, hM, h => by
    obtain ⟨h1, h2⟩ := List.pairwise_cons.mp hL
    obtain ⟨h3, h4⟩ := List.pairwise_cons.mp hM
    have e : a = b := by
      rcases List.mem_cons.mp ((h a).mp (List.mem_cons_self ..)) with e | m
      · exact e
      · rcases List.mem_cons.mp ((h b).mpr (List.mem_cons_self ..)) with e | m'
        · exact e.symm
        · exact absurd (tr _ _ _ (h1 b m') (h3 a m)) (irr a)
    subst e
    refine congrArg (a :: ·) (sorted_ext irr tr h2 h4 fun x => ⟨fun m => ?_, fun m => ?_⟩)
    · rcases List.mem_cons.mp ((h x).mp (List.mem_cons_of_mem _ m)) with e | m'
      · subst e
        exact absurd (h1 x m) (irr x)
      · exact m'
    · rcases List.mem_cons.mp ((h x).mpr (List.mem_cons_of_mem _ m)) with e | m'
      · subst e
        exact absurd (h3 x m) (irr x)
      · exact m'
theorem ltP_irr (a : Nat × Nat) : ¬ ltP a a := fun h => by
  unfold ltP at h
  omega
theorem ltP_tr (a b c : Nat × Nat) (h : ltP a b) (k : ltP b c) : ltP a c := by
  unfold ltP at *
  omega
theorem Yard.eq {n m : Nat} {L M : List (Nat × Nat)} (y : Yard n L) (z : Yard m M) (h : ∀ x, x ∈ L ↔ x ∈ M) : L = M := sorted_ext ltP_irr ltP_tr y.up z.up h
/-- the far end -/
def far : List (Nat × Nat) → Nat → Nat
  | [], _ => 0
  | p :: r, e => if e = p.1 then p.2 else if e = p.2 then p.1 else far r e
theorem far_out : ∀ {ps : List (Nat × Nat)} {e : Nat}, e ∉ ends ps → far ps e = 0
  | [], _, _ => rfl
  | p :: r, e, h => by
    have h : e ∉ p.1 :: p.2 :: ends r := h
    simp only [List.mem_cons, not_or] at h
    unfold far
    rw [if_neg h.1, if_neg h.2.1, far_out h.2.2]
theorem far_of : ∀ {ps : List (Nat × Nat)}, (ends ps).Nodup → ∀ {p : Nat × Nat}, p ∈ ps → far ps p.1 = p.2 ∧ far ps p.2 = p.1
  | q :: r, h, p, m => by
    have h : (q.1 :: q.2 :: ends r).Nodup := h
    obtain ⟨h1, h2⟩ := List.nodup_cons.mp h
    obtain ⟨h3, h4⟩ := List.nodup_cons.mp h2
    unfold far
    rcases List.mem_cons.mp m with e | m
    · subst e
      refine ⟨if_pos rfl, ?_⟩
      rw [if_neg (fun e => h1 (List.mem_cons.mpr (.inl e.symm))), if_pos rfl]
    · have m1 : p.1 ∈ ends r := mem_ends.mpr ⟨p, m, .inl rfl⟩
      have m2 : p.2 ∈ ends r := mem_ends.mpr ⟨p, m, .inr rfl⟩
      obtain ⟨i1, i2⟩ := far_of h4 m
      have n1 : p.1 ≠ q.1 := fun e => h1 (List.mem_cons.mpr (.inr (e ▸ m1)))
      have n2 : p.1 ≠ q.2 := fun e => h3 (e ▸ m1)
      have n3 : p.2 ≠ q.1 := fun e => h1 (List.mem_cons.mpr (.inr (e ▸ m2)))
      have n4 : p.2 ≠ q.2 := fun e => h3 (e ▸ m2)
      rw [if_neg n1, if_neg n2, if_neg n3, if_neg n4]
      exact ⟨i1, i2⟩
theorem far_line {ps : List (Nat × Nat)} (h : (ends ps).Nodup) {e : Nat} (m : e ∈ ends ps) : ((e, far ps e) ∈ ps ∨ (far ps e, e) ∈ ps) ∧ far ps (far ps e) = e := by
  obtain ⟨p, hp, z | z⟩ := mem_ends.mp m
  · obtain ⟨i1, i2⟩ := far_of h hp
    rw [z, i1, i2]
    exact ⟨.inl hp, rfl⟩
  · obtain ⟨i1, i2⟩ := far_of h hp
    rw [z, i2, i1]
    exact ⟨.inr hp, rfl⟩
theorem far_snoc {p : Nat × Nat} : ∀ {ps : List (Nat × Nat)}, (ends (ps ++ [p])).Nodup → ∀ e, far (ps ++ [p]) e = if e = p.1 then p.2 else if e = p.2 then p.1 else far ps e
  | ps, h, e => by
    have hp : p ∈ ps ++ [p] := List.mem_append_right _ (List.mem_cons_self ..)
    obtain ⟨i1, i2⟩ := far_of h hp
    by_cases e1 : e = p.1
    · rw [if_pos e1, e1, i1]
    · rw [if_neg e1]
      by_cases e2 : e = p.2
      · rw [if_pos e2, e2, i2]
      · rw [if_neg e2]
        have go : ∀ (l : List (Nat × Nat)), far (l ++ [p]) e = far l e := by
          intro l
          induction l with
          | nil =>
            show (if e = p.1 then p.2 else if e = p.2 then p.1 else far [] e) = far [] e
            rw [if_neg e1, if_neg e2]
          | cons q r ih =>
            show (if e = q.1 then q.2 else if e = q.2 then q.1 else far (r ++ [p]) e) = (if e = q.1 then q.2 else if e = q.2 then q.1 else far r e)
            rw [ih]
        exact go ps
theorem pigeon : ∀ (m : Nat) (l : List Nat), l.Nodup → (∀ x ∈ l, x < m) → l.length ≤ m
  | 0, [], _, _ => Nat.le_refl _
  | 0, a :: l, _, h => absurd (h a (List.mem_cons_self ..)) (by omega)
  | m + 1, l, nd, h => by
    by_cases hm : m ∈ l
    · have e := List.length_erase_of_mem hm
      have ih := pigeon m (l.erase m) (nd.erase m) fun x hx => by
        have q := (nd.mem_erase_iff).mp hx
        have := h x q.2
        have := q.1
        omega
      omega
    · have ih := pigeon m l nd fun x hx => by
        have := h x hx
        have : x ≠ m := fun e => hm (e ▸ hx)
        omega
      omega
/-- every end below 4n stands in lines of n crossings -/
theorem ends_full {n : Nat} {ps : List (Nat × Nat)} (L : Lines n ps) {e : Nat} (h : e < 4 * n) : e ∈ ends ps := by
  by_cases m : e ∈ ends ps
  · exact m
  · exfalso
    have hl : (ends ps).length = 4 * n := by rw [ends_length, L.len]; omega
    have nd : (e :: ends ps).Nodup := List.nodup_cons.mpr ⟨m, L.nd⟩
    have := pigeon (4 * n) (e :: ends ps) nd fun x hx => by
      rcases List.mem_cons.mp hx with z | z
      · rw [z]; exact h
      · exact L.lt x z
    rw [List.length_cons, hl] at this
    omega
theorem far_lt {n : Nat} {ps : List (Nat × Nat)} (L : Lines n ps) {e : Nat} (h : e < 4 * n) : far ps e < 4 * n := by
  obtain ⟨z | z, _⟩ := far_line L.nd (ends_full L h)
  · exact L.lt _ (mem_ends.mpr ⟨_, z, .inr rfl⟩)
  · exact L.lt _ (mem_ends.mpr ⟨_, z, .inl rfl⟩)
/-- the lines told from the far ends -/
def linesOf (F : Nat → Nat) (m : Nat) : List (Nat × Nat) := (List.range m).filterMap fun e => if e < F e then some (e, F e) else none
theorem linesOf_snoc (F : Nat → Nat) (m : Nat) : linesOf F (m + 1) = linesOf F m ++ (if m < F m then [(m, F m)] else []) := by
  unfold linesOf
  rw [List.range_succ, List.filterMap_append]
  by_cases h : m < F m
  · simp [h]
  · simp [h]
theorem linesOf_mem {F : Nat → Nat} {m : Nat} {p : Nat × Nat} : p ∈ linesOf F m ↔ p.1 < m ∧ F p.1 = p.2 ∧ p.1 < p.2 := by
  unfold linesOf
  rw [List.mem_filterMap]
  constructor
  · rintro ⟨e, he, h⟩
    split at h
    · cases h
      exact ⟨List.mem_range.mp he, rfl, by assumption⟩
    · cases h
  · rintro ⟨h1, h2, h3⟩
    refine ⟨p.1, List.mem_range.mpr h1, ?_⟩
    rw [h2, if_pos h3]
theorem linesOf_up (F : Nat → Nat) : ∀ m, (linesOf F m).Pairwise ltP
  | 0 => .nil
  | m + 1 => by
    rw [linesOf_snoc]
    refine List.pairwise_append.mpr ⟨linesOf_up F m, ?_, fun a ha b hb => ?_⟩
    · split
      · exact List.pairwise_singleton _ _
      · exact .nil
    · split at hb
      · rw [List.mem_singleton.mp hb]
        exact .inl (linesOf_mem.mp ha).1
      · cases hb
theorem yard_linesOf {n : Nat} {ps : List (Nat × Nat)} (y : Yard n ps) : linesOf (far ps) (4 * n) = ps := by
  refine sorted_ext ltP_irr ltP_tr (linesOf_up _ _) y.up fun p => ⟨fun h => ?_, fun h => ?_⟩
  · obtain ⟨h1, h2, h3⟩ := linesOf_mem.mp h
    obtain ⟨z | z, _⟩ := far_line y.lines.nd (ends_full y.lines h1)
    · rw [h2] at z
      exact z
    · rw [h2] at z
      have := y.low _ z
      simp only at this
      omega
  · have h1 := y.lines.lt _ (mem_ends.mpr ⟨p, h, .inl rfl⟩)
    exact linesOf_mem.mpr ⟨h1, (far_of y.lines.nd h).1, y.low p h⟩
end One
end P_M5

section P_M14
set_option linter.all false
/-! Labels run together line by line. -/
namespace One
structure Runs (n : Nat) (ps : List (Nat × Nat)) (t : List Nat) : Prop where
  len : t.length = n
  done : ∀ p ∈ ps, t.getD (p.1 / 4) 0 = t.getD (p.2 / 4) 0
  sound : ∀ P : Nat → Prop, (∀ p ∈ ps, P (p.1 / 4) ↔ P (p.2 / 4)) → ∀ i j, i < n → j < n → t.getD i 0 = t.getD j 0 → (P i ↔ P j)
theorem getD_range {n i : Nat} (h : i < n) : (List.range n).getD i 0 = i := by
  rw [List.getD_eq_getElem?_getD, List.getElem?_range h]
  rfl
theorem runs_start (n : Nat) : Runs n [] (List.range n) :=
  ⟨List.length_range, fun p h => absurd h (by simp), fun P _ i j hi hj e => by
    rw [getD_range hi, getD_range hj] at e
    rw [e]⟩
def run1 (t : List Nat) (p : Nat × Nat) : List Nat := t.map fun k => if k = t.getD (p.1 / 4) 0 then t.getD (p.2 / 4) 0 else k
theorem run1_get {t : List Nat} {p : Nat × Nat} {i : Nat} (h : i < t.length) : (run1 t p).getD i 0 = if t.getD i 0 = t.getD (p.1 / 4) 0 then t.getD (p.2 / 4) 0 else t.getD i 0 := by
  unfold run1
  rw [List.getD_eq_getElem?_getD, List.getElem?_map, List.getElem?_eq_getElem h]
  show (if t[i] = _ then _ else t[i]) = _
  have e : t.getD i 0 = t[i] := by
    rw [List.getD_eq_getElem?_getD, List.getElem?_eq_getElem h]
    rfl
  rw [e]
theorem runs_step {n : Nat} {ps : List (Nat × Nat)} {t : List Nat} {p : Nat × Nat} (r : Runs n ps t) (hlt : ∀ q ∈ ps ++ [p], q.1 < 4 * n ∧ q.2 < 4 * n) : Runs n (ps ++ [p]) (run1 t p) := by
  have hl : (run1 t p).length = n := by
    unfold run1
    rw [List.length_map]
    exact r.len
  have hp := hlt p (List.mem_append.mpr (.inr (List.mem_singleton.mpr rfl)))
  have a1 : p.1 / 4 < t.length := by rw [r.len]; omega
  have a2 : p.2 / 4 < t.length := by rw [r.len]; omega
  refine ⟨hl, fun q hq => ?_, fun P hP i j hi hj e => ?_⟩
  · rcases List.mem_append.mp hq with hq | hq
    · have b := hlt q (List.mem_append.mpr (.inl hq))
      rw [run1_get (by rw [r.len]; omega), run1_get (by rw [r.len]; omega), r.done q hq]
    · rw [List.mem_singleton.mp hq, run1_get a1, run1_get a2, if_pos rfl]
      split <;> rfl
  · have hP0 : ∀ q ∈ ps, P (q.1 / 4) ↔ P (q.2 / 4) := fun q hq => hP q (List.mem_append.mpr (.inl hq))
    have hPp := hP p (List.mem_append.mpr (.inr (List.mem_singleton.mpr rfl)))
    have s := r.sound P hP0
    rw [run1_get (by rw [r.len]; exact hi), run1_get (by rw [r.len]; exact hj)] at e
    by_cases h1 : t.getD i 0 = t.getD (p.1 / 4) 0
    · by_cases h2 : t.getD j 0 = t.getD (p.1 / 4) 0
      · exact s i j hi hj (h1.trans h2.symm)
      · rw [if_pos h1, if_neg h2] at e
        exact (s i _ hi (by omega) h1).trans (hPp.trans (s _ j (by omega) hj e))
    · by_cases h2 : t.getD j 0 = t.getD (p.1 / 4) 0
      · rw [if_neg h1, if_pos h2] at e
        exact (s i _ hi (by omega) e).trans (hPp.symm.trans (s j _ hj (by omega) h2).symm)
      · rw [if_neg h1, if_neg h2] at e
        exact s i j hi hj e
theorem runs_whole {n : Nat} {ps : List (Nat × Nat)} {t : List Nat} (hn : 0 < n) (r : Runs n ps t) : (∀ i, i < n → t.getD i 0 = t.getD 0 0) ↔ Whole n ps := by
  constructor
  · intro h P hP h0 c hc
    exact (r.sound P hP 0 c hn hc (h c hc).symm).mp h0
  · intro w i hi
    exact w (fun c => t.getD c 0 = t.getD 0 0) (fun p hp => by rw [r.done p hp]) rfl i hi
theorem count_all {t : List Nat} (x : Nat) : t.length = t.count x ↔ ∀ i, i < t.length → t.getD i 0 = x := by
  rw [eq_comm, List.count_eq_length]
  constructor
  · intro h i hi
    rw [List.getD_eq_getElem?_getD, List.getElem?_eq_getElem hi]
    exact (h _ (List.getElem_mem hi)).symm
  · intro h y hy
    obtain ⟨i, hi, e⟩ := List.mem_iff_getElem.mp hy
    have := h i hi
    rw [List.getD_eq_getElem?_getD, List.getElem?_eq_getElem hi] at this
    exact (this.symm.trans e)
end One
end P_M14

section P_W1
set_option linter.all false
set_option maxRecDepth 100000
set_option maxHeartbeats 8000000
namespace One
open PySem PySem.Spec PyProof.Rows L2
/-- what is walked either way -/
theorem pi_alt {X : Cx} {tg e : Expr} {w1 w2 : TI} (h1 : PI X tg e w1) (h2 : PI X tg e w2) : PI X tg e (fun σ H R => w1 σ H R ∨ w2 σ H R) :=
  ⟨fun pins s σ H R I h => h.elim (h1.run pins s σ H R I) (h2.run pins s σ H R I)⟩
abbrev sLWhole : Stmt := top 31
abbrev nLWhole : List Str := ["lines", "together", "one", "other", "old", "new", "k"]
theorem scLWhole : FnScope nLWhole ["lines"] (defScope sLWhole) := ⟨rfl, rfl, rfl, by decide +kernel, rfl, by decide +kernel, by decide +kernel⟩
def spLWhole (K : PySem.W.Frag) : Sp := fun vs H Q _ => ∃ (t : Addr) (n : Nat) (as : List Addr) (ps : List (Nat × Nat)), vs = [.ref t] ∧ H t = some (.tup (refs as)) ∧ PL H as ps ∧ 0 < n ∧ ps.length = 2 * n ∧ (∀ p ∈ ps, p.1 < 4 * n ∧ p.2 < 4 * n) ∧ n ≤ 100 ∧
  ∀ (H' : Hp) (b : Bool), Same H H' → (b = true ↔ Whole n ps) → Q (.bl b) H'
theorem nat_get {ns : List Nat} {i : Nat} (h : i < ns.length) : atI (nats ns) ((i : Nat) : Int) = some (V.int (ns.getD i 0 : Nat)) := by
  refine at_of (j := i) rfl ?_
  rw [List.getElem?_map, List.getElem?_eq_getElem h, List.getD_eq_getElem?_getD, List.getElem?_eq_getElem h]
  rfl
theorem nats_ints (ns : List Nat) : nats ns = (ns.map fun x => ((x : Nat) : Int)).map V.int := by
  rw [List.map_map]
  rfl
theorem count_cast (ns : List Nat) (x : Nat) : (ns.map fun x => ((x : Nat) : Int)).count ((x : Nat) : Int) = ns.count x := by
  rw [List.count_eq_countP, List.count_eq_countP, List.countP_map]
  refine List.countP_congr fun y _ => ?_
  simp only [Function.comp, beq_iff_eq]
  omega
section
variable {P : Program} {w : World} {K : PySem.W.Frag} {mg : Str → Option Value} {base : Heap}
theorem ok_lwhole {f : Addr} {fd : FuncData} (F : Fun K "_law_is_whole" "_law_is_whole" sLWhole f fd) (T : TB mg) : FnOk P w K mg base CX0 1 f fd ["lines"] (spLWhole K) := by
  refine F.ok scLWhole (fun vs H Q E h => ?_) (fun cdv A outer s H vs Q E hr h => ?_)
  · obtain ⟨t, n, as, ps, rfl, _⟩ := h
    rfl
  · obtain ⟨t, n, as, ps, rfl, ht, hP, hn0, hlen, hlt, hn, k⟩ := h
    have nd := scLWhole.nd
    refine ⟨_, pss_cons (ps_set (i := 1) nd rfl (Or.inl rfl) (pe_listRg (by rfl) (by rfl) T.list (prg_1 (by rfl) T.range (pe_op op_fdiv (pe_callB call_len_seq (by rfl) T.len PySem.boot_len (pa_cons (pv 0) pa_nil)) pe_int))))
      (pss_cons (ps_for PassesOwn.never rfl (pi_tup (pv 0)) (pg_tup rfl (pgs_cons (pg_name (i := 2) nd rfl (Or.inl rfl)) (pgs_cons (pg_name (i := 3) nd rfl (Or.inl rfl)) pgs_nil)))
        (pss_cons (ps_asg (pe_tup (pa_cons (pe_ix ix_list (pv 1) (pe_op op_fdiv (pv 2) pe_int) (fun _ _ => rfl)) (pa_cons (pe_ix ix_list (pv 1) (pe_op op_fdiv (pv 3) pe_int) (fun _ _ => rfl)) pa_nil))) (pg_tup rfl (pgs_cons (pg_name (i := 4) nd rfl (Or.inr rfl)) (pgs_cons (pg_name (i := 5) nd rfl (Or.inr rfl)) pgs_nil))))
        (pss_one (ps_setLc (i := 1) (own := [("k", 6)]) (g := gName 6) (tt := tYes) (te := tIf (tTest (tOp rEq (tVar 6) (tVar 4))) (tVar 5) (tVar 6)) rfl nd rfl rfl (sw_true rfl rfl rfl (by decide +kernel)) (pi_list (pv 1)) (blkOk_by (N := nLWhole) (sc := defScope sLWhole) (by decide +kernel))
          (fun _ _ _ _ _ => pg_name (i := 6) nd rfl (Or.inl rfl)) (fun _ _ _ _ _ => pts_nil) (fun _ _ _ _ _ => pe_ifExp (pt_cmpR op_eq (pv 6) (pv 4) (nomark _)) (pv 5) (pv 6))))))
      (pss_one (ps_ret (pe_cmpR op_eq (pe_callB call_len_seq (by rfl) T.len PySem.boot_len (pa_cons (pv 1) pa_nil)) (pe_bm PySem.F.plainAttrs_list PySem.F.slot_list_count PySem.F.type_list_count mt_lcount (pv 1) (pa_cons (pe_ix ix_list (pv 1) pe_int (fun _ _ => rfl)) pa_nil)) (nomark _))))), ?_⟩
    have nl : (refs as).length = 2 * n := by rw [List.length_map, hP.len, hlen]
    have e2 : (((refs as).length : Nat) : Int) / 2 = (n : Nat) := by rw [nl]; omega
    refine ⟨_, rfl, t, _, rfl, .inr (SqT.of ht), _, _, rfl, rfl, ⟨by decide, by decide⟩, n, (by show V.int ((((refs as).length : Nat) : Int) / 2) = _; rw [e2]), RgOk.of_le (Int.le_refl _) (by omega) (by omega) (by omega), fun lf hlf => ?_⟩
    rw [nats_range]
    have s1 := Same.new (o := .lst (nats (List.range n))) hlf
    refine ⟨_, rfl, t, rfl, ⟨_, SqT.of (s1 _ _ ht)⟩, for_it (walk_tup (K := K) (a := t) (xs := refs as)) (fun i σ H7 => ∃ (D : Addr) (r : List Nat) (v2 v3 v4 v5 : Option V), σ = [some (.ref t), some (.ref D), v2, v3, v4, v5, none] ∧ Same H H7 ∧ H7 D = some (.lst (nats r)) ∧ Runs n (ps.take i) r)
      ⟨lf, _, none, none, none, none, rfl, s1, upd_same, runs_start n⟩ (fun i σ H7 _ ⟨_, _, _, _, _, _, _, h, _⟩ => SqT.of (h _ _ ht)) ?_ ?_⟩
    · rintro i x σ H7' H7 hi ⟨D, r, v2, v3, v4, v5, rfl, s7, hD, hr7⟩ ⟨rfl, hx⟩
      have hx : (refs as)[i]? = some x := hx
      obtain ⟨a, ha⟩ : ∃ a, as[i]? = some a := by
        rw [List.getElem?_map] at hx
        cases e : as[i]? with
        | none =>
          rw [e] at hx
          cases hx
        | some a => exact ⟨a, rfl⟩
      rw [List.getElem?_map, ha] at hx
      cases hx
      obtain ⟨p, hp, pa⟩ := hP.got ha
      obtain ⟨q1, q2⟩ := hlt p (List.mem_of_getElem? hp)
      have pa7 := s7 _ _ pa
      have get : ∀ y : Nat, y < 4 * n → atI (nats r) (((y : Nat) : Int) / 4) = some (V.int (r.getD (y / 4) 0 : Nat)) := fun y hy => by
        rw [fdiv4]
        exact nat_get (by rw [hr7.len]; omega)
      refine ⟨a, _, rfl, SqT.of pa7, rfl, _, _, rfl, _, _, rfl, rfl, ?_⟩
      refine ⟨_, rfl, _, rfl, _, _, rfl, rfl, ⟨by decide, by decide⟩, D, _, _, _, rfl, rfl, SqL.of hD, get _ q1, _, rfl, _, rfl, _, _, rfl, rfl, ⟨by decide, by decide⟩, D, _, _, _, rfl, rfl, SqL.of hD, get _ q2, two_le, fun u hu => ?_⟩
      have su := Same.new (o := .tup [V.int (r.getD (p.1 / 4) 0 : Nat), V.int (r.getD (p.2 / 4) 0 : Nat)]) hu
      refine ⟨u, _, rfl, SqT.of upd_same, rfl, _, _, rfl, _, _, rfl, rfl, ?_⟩
      have hD8 := su _ _ hD
      refine ⟨_, rfl, D, rfl, ⟨_, SqL.of hD8⟩, fun D2 hD2 => ?_⟩
      have s8 := s7.trans su
      have nl2 : (nats r).length = r.length := List.length_map _
      refine lc_it (walk_list (K := K) (a := D) (xs := nats r)) (fun i H6 => H6 D2 = some (.lst (nats ((run1 r p).take i))) ∧ Same H H6 ∧ H6 D = some (.lst (nats r))) ⟨upd_same, s8.trans (Same.new hD2), (Same.new hD2) _ _ hD8⟩ (fun i H6 _ h => SqL.of h.2.2) ?_ ?_
      · rintro i x H6 H7 hi ⟨h6, s6, hD6⟩ ⟨rfl, hx⟩
        rw [nl2] at hi
        have er : r[i]? = some (r.getD i 0) := by
          rw [List.getD_eq_getElem?_getD, List.getElem?_eq_getElem hi]
          rfl
        have e1 : (run1 r p)[i]? = some ((run1 r p).getD i 0) := by
          have : i < (run1 r p).length := by unfold run1; rw [List.length_map]; exact hi
          rw [List.getD_eq_getElem?_getD, List.getElem?_eq_getElem this]
          rfl
        rw [List.getElem?_map, er] at hx
        cases hx
        have fin : ∀ v : Nat, v = (run1 r p).getD i 0 → ∃ acc, H7 D2 = some (.lst acc) ∧ acc.length < sizeLine ∧ (upd H7 D2 (.lst (acc ++ [V.int (v : Nat)]))) D2 = some (.lst (nats ((run1 r p).take (i + 1)))) ∧ Same H (upd H7 D2 (.lst (acc ++ [V.int (v : Nat)]))) ∧ (upd H7 D2 (.lst (acc ++ [V.int (v : Nat)]))) D = some (.lst (nats r)) := fun v hv => by
          refine ⟨_, h6, small1000 ?_, ?_, fun b o e => ?_, ?_⟩
          · rw [List.length_map, List.length_take]
            have := hr7.len
            omega
          · rw [upd_same, List.take_succ, e1, hv, Option.toList_some, nats_app]
            rfl
          · rw [upd_ne (ne_of_none (s8 _ _ e) hD2)]
            exact s6 _ _ e
          · rw [upd_ne (ne_of_none hD8 hD2)]
            exact hD6
        refine ⟨rfl, yes ⟨_, rfl, _, rfl, rfl, _, rfl, ?_⟩⟩
        by_cases q : r.getD i 0 = r.getD (p.1 / 4) 0
        · rw [decide_eq_true (by rw [q] : V.int (r.getD i 0 : Nat) = V.int (r.getD (p.1 / 4) 0 : Nat))]
          exact iteT ⟨_, rfl, fin _ (by rw [run1_get hi, if_pos q])⟩
        · rw [decide_eq_false (fun z => q (by have := V.int.inj z; omega) : ¬ V.int (r.getD i 0 : Nat) = V.int (r.getD (p.1 / 4) 0 : Nat))]
          exact iteF ⟨_, rfl, fin _ (by rw [run1_get hi, if_neg q])⟩
      · rintro H6 ⟨h6, s6, hD6⟩
        have hlr : (run1 r p).length = r.length := by unfold run1; rw [List.length_map]
        rw [nl2, ← hlr, List.take_length] at h6
        refine ⟨D2, run1 r p, _, _, _, _, rfl, s6, h6, ?_⟩
        rw [take_ends (H := H) hp]
        refine runs_step hr7 fun q hq => hlt q ?_
        rcases List.mem_append.mp hq with hq | hq
        · exact List.mem_of_mem_take hq
        · rw [List.mem_singleton.mp hq]
          exact List.mem_of_getElem? hp
    · rintro σ H7 ⟨D, r, v2, v3, v4, v5, rfl, s7, hD, hr7⟩
      rw [nl, ← hlen, List.take_length] at hr7
      have nl2 : (nats r).length = r.length := List.length_map _
      have h0 : 0 < r.length := by rw [hr7.len]; exact hn0
      refine ⟨_, rfl, D, _, rfl, .inl (SqL.of hD), _, rfl, .inl ⟨rfl, _, SqL.of hD⟩, _, rfl, D, _, 0, _, rfl, rfl, SqL.of hD, nat_get (i := 0) h0, ?_⟩
      refine ⟨D, _, _, rfl, rfl, (by rw [← nats_ints]; exact SqL.of hD), rfl, ?_⟩
      rw [count_cast, nl2]
      refine k _ _ s7 ?_
      rw [decide_eq_true_iff]
      have e : (V.int ((r.length : Nat) : Int) = V.int ((r.count (r.getD 0 0) : Nat) : Int)) ↔ r.length = r.count (r.getD 0 0) := ⟨fun z => by have := V.int.inj z; omega, fun z => by rw [← z]⟩
      rw [e, count_all, hr7.len]
      exact runs_whole hn0 hr7
end
end One
end P_W1

section P_PA
set_option linter.all false
set_option maxRecDepth 100000
set_option maxHeartbeats 16000000
namespace One
open PySem PySem.Spec PyProof.Rows L2
/-! ### lines and yards, told of data -/
def pairL (N : Nat) : PyData → PyData → Option (Nat × Nat)
  | .int a, .int b => if 0 ≤ a ∧ a < (N : Int) ∧ 0 ≤ b ∧ b < (N : Int) ∧ a < b then some (a.toNat, b.toNat) else none
  | _, _ => none
def twoL (N : Nat) : List PyData → Option (Nat × Nat)
  | [x, y] => pairL N x y
  | _ => none
def lineD (N : Nat) : PyData → Option (Nat × Nat)
  | .tuple ds => twoL N ds
  | _ => none
theorem DaAll.tvs {p l : Addr} {H : Hp} : ∀ {vs : List V} {ds : List PyData}, DaAll p l H vs ds → ∀ x ∈ vs, ∃ T, TV H x T
  | _, [], h, x, hx => by cases h; exact absurd hx (by simp)
  | _, d :: ds, h, x, hx => by
    cases h with
    | cons a b =>
      rcases List.mem_cons.mp hx with rfl | hx
      · exact a.tv
      · exact b.tvs x hx
/-- what is a line of data is one of the heap -/
theorem two_line {p l : Addr} {H : Hp} {N : Nat} {xs : List V} {ds : List PyData} (h : DaAll p l H xs ds) : (∀ q, twoL N ds = some q → xs = [.int (q.1 : Nat), .int (q.2 : Nat)] ∧ q.1 < q.2 ∧ q.2 < N) ∧ (twoL N ds = none → lineB xs (N : Nat) = false) := by
  match xs, ds, h with
  | [], [], _ => exact ⟨fun q e => (nomatch e), fun _ => rfl⟩
  | [_], [_], _ => exact ⟨fun q e => (nomatch e), fun _ => rfl⟩
  | _ :: _ :: _ :: _, _ :: _ :: _ :: _, _ => exact ⟨fun q e => (nomatch e), fun _ => rfl⟩
  | [x, y], [dx, dy], .cons hx (.cons hy .nil) =>
    have no : belowV x (N : Nat) = false ∨ belowV y (N : Nat) = false → lineB [x, y] (N : Nat) = false := fun h => by
      show (belowV x (N : Nat) && belowV y (N : Nat) && ltB x y) = false
      rcases h with h | h <;> rw [h] <;> simp
    cases hx with
    | int a =>
      cases hy with
      | int b =>
        have e : twoL N [.int a, .int b] = if 0 ≤ a ∧ a < (N : Int) ∧ 0 ≤ b ∧ b < (N : Int) ∧ a < b then some (a.toNat, b.toNat) else none := rfl
        have eb : lineB [.int a, .int b] (N : Nat) = ((decide (0 ≤ a) && decide (a < (N : Int))) && (decide (0 ≤ b) && decide (b < (N : Int))) && decide (a < b)) := rfl
        rw [e, eb]
        by_cases c : 0 ≤ a ∧ a < (N : Int) ∧ 0 ≤ b ∧ b < (N : Int) ∧ a < b
        · rw [if_pos c]
          refine ⟨fun q e => ?_, fun h => by cases h⟩
          cases e
          refine ⟨?_, by show a.toNat < b.toNat; omega, by show b.toNat < N; omega⟩
          show [V.int a, V.int b] = [V.int ((a.toNat : Nat) : Int), V.int ((b.toNat : Nat) : Int)]
          rw [show ((a.toNat : Nat) : Int) = a by omega, show ((b.toNat : Nat) : Int) = b by omega]
        · rw [if_neg c]
          refine ⟨fun q e => (nomatch e), fun _ => ?_⟩
          simp only [Bool.and_eq_false_iff, decide_eq_false_iff_not]
          omega
      | _ => exact ⟨fun q e => (nomatch e), fun _ => no (.inr rfl)⟩
    | _ => exact ⟨fun q e => (nomatch e), fun _ => no (.inl rfl)⟩
theorem il_da {p l : Addr} {H : Hp} {N : Nat} : ∀ {ds : List PyData} {xs : List V}, DaAll p l H xs ds → IL H N xs (ds.map (lineD N))
  | [], _, h => by cases h; exact .nil
  | d :: ds, _, h => by
    cases h with
    | cons a b =>
      have r := il_da (N := N) b
      cases a with
      | @tup t xs ds' a1 a2 f g =>
        obtain ⟨t1, t2⟩ := two_line (N := N) g
        show IL H N _ (twoL N ds' :: _)
        cases e : twoL N ds' with
        | some q =>
          obtain ⟨e1, e2, e3⟩ := t1 q e
          rw [e1] at f
          exact .line f e2 e3 r
        | none => exact .tup f g.tvs (t2 e) r
      | non => exact .flat .non (by decide) r
      | bl b => exact .flat (.bl b) (by decide) r
      | int i => exact .flat (.int i) (by decide) r
      | str x => exact .flat (.str x) (by decide) r
      | lst a b c f g => exact .flat (.lst f) (by decide) r
      | emp a b f => exact .flat (.dct f) (by decide) r
open Classical in
noncomputable def placeY : PyData → Option (List Nat)
  | .tuple ds => if canBe (ds.length : Nat) then
      match goF 0 [] none (ds.map (lineD (2 * ds.length))) with
      | some k => some [k]
      | none => if Whole (ds.length / 2) ((ds.map (lineD (2 * ds.length))).filterMap id) then none else some [ds.length]
    else some []
  | _ => some []
theorem fault_da {p l : Addr} {H : Hp} {v : V} {d : PyData} {Q : VK} {E : XK} (h : Da p l H v d) (good : placeY d = none → ∀ H', Same H H' → Q .non H') (bad : ∀ pl, placeY d = some pl → ∀ (H' : Hp) (q : Addr), Same H H' → H' q = some (.tup (nats pl)) → Q (.ref q) H') : spFault [v] H Q E := by
  have flat : ∀ {T : String}, TV H v T → isTup T = false → placeY d = some [] → spFault [v] H Q E := fun ht hT e => ⟨_, rfl, .inl ⟨.inl ⟨_, ht, hT⟩, fun H' q s hq => bad _ e H' q s hq⟩⟩
  cases h with
  | non => exact flat .non (by decide) rfl
  | bl b => exact flat (.bl b) (by decide) rfl
  | int i => exact flat (.int i) (by decide) rfl
  | str x => exact flat (.str x) (by decide) rfl
  | lst a b c f g => exact flat (.lst f) (by decide) rfl
  | emp a b f => exact flat (.dct f) (by decide) rfl
  | @tup t xs ds a1 a2 f g =>
    have hl := g.len
    have e : placeY (.tuple ds) = if canBe (ds.length : Nat) then
      match goF 0 [] none (ds.map (lineD (2 * ds.length))) with
      | some k => some [k]
      | none => open Classical in if Whole (ds.length / 2) ((ds.map (lineD (2 * ds.length))).filterMap id) then none else some [ds.length]
      else some [] := rfl
    cases hc : canBe (ds.length : Nat) with
    | false =>
      refine ⟨_, rfl, .inl ⟨.inr ⟨t, xs, rfl, f, by rw [hl]; exact hc⟩, fun H' q s hq => bad [] ?_ H' q s hq⟩⟩
      rw [e, hc]
      rfl
    | true =>
      rw [hc, if_pos rfl] at e
      refine ⟨_, rfl, .inr ⟨t, xs, ds.map (lineD (2 * ds.length)), rfl, f, by rw [hl]; exact hc, by rw [hl]; exact il_da g, fun k hk H' q s hq => bad [k] ?_ H' q s hq, fun hn ps hps => ⟨fun hw H' s => good ?_ H' s, fun hw H' q s hq => bad [ds.length] ?_ H' q s (by rw [← hl]; exact hq)⟩⟩⟩
      · rw [e, hk]
      · rw [e, hn]
        refine if_pos ?_
        rw [hps, List.filterMap_map]
        rw [hl] at hw
        simpa using hw
      · rw [e, hn]
        refine if_neg ?_
        rw [hps, List.filterMap_map]
        rw [hl] at hw
        simpa using hw
end One
end P_PA

section P_PB
set_option linter.all false
set_option maxRecDepth 100000
set_option maxHeartbeats 16000000
namespace One
open PySem PySem.Spec PyProof.Rows L2
section
variable {X : Cx}
theorem op_notIn_rngC : OpR X (compareOp .NotIn) (fun x y H Q => ∃ i a lo hi c, x = V.int i ∧ y = V.ref a ∧ H a = some (RngO a lo hi c) ∧ Q (.bl (!(Builtin.Range.rangePlace? lo hi c i).isSome)) H) := by
  intro pins s σ H x y v u Q I rx ry h
  obtain ⟨i, a, lo, hi, c, rfl, rfl, ha, q⟩ := h
  obtain ⟨k, rfl⟩ := rx
  obtain rfl : u = Value.ref a := ry
  obtain ⟨⟨t1, t2, t3, ho⟩, _, _⟩ := I.hok a _ ha
  refine (show wpAny _ _ (do return Value.bool (!(← contains (Value.ref a) (Value.int i k)))) _ _ s from ?_)
  exact wpAny_bind (wpAny_contains_slot (T := "range") ⟨_, ho, rfl⟩ F.slot_range_contains (call_meets F.slot_range_contains ⟨_, ho, rfl⟩ F.entry_range_contains (F.args_range_contains_2 _ _) (rng_has a lo hi c i t1 t2 t3 k)
    ⟨ho, wpAny_truthy_bool (wpAny_pure ⟨.bl _, H, I, rfl, q⟩)⟩))
end
theorem rng_can {n : Int} : (Builtin.Range.rangePlace? 2 81 2 n).isSome = canBe n := by
  unfold Builtin.Range.rangePlace? canBe
  rw [Bool.eq_iff_iff]
  simp only [show (2 : Int) > 0 from by decide, if_true, Bool.and_eq_true, decide_eq_true_eq, beq_iff_eq]
  constructor
  · intro q
    split at q
    · omega
    · cases q
  · intro q
    rw [if_pos (by omega)]
    rfl
abbrev sLn : Stmt := top 32
abbrev sPl : Stmt := top 33
abbrev nLn : List Str := ["thing", "many", "end"]
abbrev nPl : List Str := ["thing", "met", "number", "line"]
theorem scLn : FnScope nLn ["thing", "many"] (defScope sLn) := ⟨rfl, rfl, rfl, by decide +kernel, rfl, by decide +kernel, by decide +kernel⟩
theorem scPl : FnScope nPl ["thing"] (defScope sPl) := ⟨rfl, rfl, rfl, by decide +kernel, rfl, by decide +kernel, by decide +kernel⟩
def spLn : Sp := fun vs H Q _ => ∃ (v : V) (n : Nat) (p l : Addr) (d : PyData), vs = [v, .int (n : Nat)] ∧ Da p l H v d ∧ ∀ H', Same H H' → Q (.bl (lineD n d).isSome) H'
section
variable {P : Program} {w : World} {K : PySem.W.Frag} {mg : Str → Option Value} {base : Heap}
theorem ok_ln {f : Addr} {fd : FuncData} (F : Fun K "_law_is_line" "_law_is_line" sLn f fd) (T : TB mg) : FnOk P w K mg base CX0 1 f fd ["thing", "many"] spLn := by
  refine F.ok scLn (fun vs H Q E h => ?_) (fun cdv A outer s H vs Q E hr h => ?_)
  · obtain ⟨v, n, p, l, d, rfl, _⟩ := h
    rfl
  · obtain ⟨v, n, p, l, d, rfl, hd, k⟩ := h
    have nd := scLn.nd
    refine ⟨_, pss_cons (ps_if (PW.pt (pw_or (pt_not (pt_val (pe_callB call_isi (by rfl) T.isinstance boot_isinstance (pa_cons (pv 0) (pa_cons (pe_bltn (v := .ty "tuple") (by rfl) T.tuple boot_tuple rfl) pa_nil))))) (pw_or1 (pt_cmpR op_ne (pe_callB call_len_seq (by rfl) T.len PySem.boot_len (pa_cons (pv 0) pa_nil)) pe_int (nomark _))))) (pss_one (ps_ret pe_bl)) pss_nil)
      (pss_cons (ps_for PassesOwn.never rfl (pi_tup (pv 0)) (pg_name (i := 2) nd rfl (Or.inl rfl))
        (pss_one (ps_if (PW.pt (pw_or (pt_not (pt_val (pe_callB call_isi (by rfl) T.isinstance boot_isinstance (pa_cons (pv 2) (pa_cons (pe_bltn (v := .ty "int") (by rfl) T.int PyProof.Rows.boot_int rfl) pa_nil))))) (pw_or (pt_val (pe_callB call_isi (by rfl) T.isinstance boot_isinstance (pa_cons (pv 2) (pa_cons (pe_bltn (v := .ty "bool") (by rfl) T.bool (by decide +kernel) rfl) pa_nil)))) (pw_or (pt_cmpR op_lt (pv 2) pe_int (nomark _)) (pw_or1 (pt_cmpR op_ge (pv 2) (pv 1) (nomark _))))))) (pss_one (ps_ret pe_bl)) pss_nil)))
      (pss_one (ps_ret (pe_cmpR op_lt (pe_ix ix_tup (pv 0) pe_int (fun _ _ => rfl)) (pe_ix ix_tup (pv 0) pe_int (fun _ _ => rfl)) (nomark _))))), ?_⟩
    have kind : (∃ (t : Addr) (xs : List V) (ds : List PyData), v = .ref t ∧ H t = some (.tup xs) ∧ d = .tuple ds ∧ DaAll p l H xs ds) ∨ ∃ Tt, TV H v Tt ∧ isTup Tt = false ∧ lineD n d = none := by
      cases hd with
      | non => exact .inr ⟨_, .non, by decide, rfl⟩
      | bl b => exact .inr ⟨_, .bl b, by decide, rfl⟩
      | int i => exact .inr ⟨_, .int i, by decide, rfl⟩
      | str x => exact .inr ⟨_, .str x, by decide, rfl⟩
      | lst a b c f g => exact .inr ⟨_, .lst f, by decide, rfl⟩
      | emp a b f => exact .inr ⟨_, .dct f, by decide, rfl⟩
      | tup a b f g => exact .inl ⟨_, _, _, rfl, f, rfl, g⟩
    rcases kind with ⟨t, xs, ds, rfl, ht, rfl, hds⟩ | ⟨Tt, hv, hT, hj⟩
    · refine ⟨_, rfl, _, _, _, _, _, rfl, .ty _, (TV.tup ht).tyx, (TV.tup ht).kTup, _, rfl, ?_⟩
      refine iteF ⟨_, rfl, t, _, rfl, .inr (SqT.of ht), rfl, _, rfl, ?_⟩
      have hle := hds.len
      by_cases h2 : xs.length = 2
      · match xs, ds, hds, h2, ht with
        | [x, y], [dx, dy], .cons hx (.cons hy .nil), _, ht =>
          refine iteF ?_
          have each : ∀ z dz, Da p l H z dz → (∃ i : Int, z = .int i ∧ dz = .int i) ∨ isI z = false := fun z dz hz => by
            cases hz with
            | int i => exact .inl ⟨i, rfl, rfl⟩
            | _ => exact .inr rfl
          have none_of : (∀ a b : Int, dx = .int a → dy = .int b → ¬ (0 ≤ a ∧ a < (n : Int) ∧ 0 ≤ b ∧ b < (n : Int) ∧ a < b)) → lineD n (.tuple [dx, dy]) = none := fun h => by
            show pairL n dx dy = none
            cases dx with
            | int a =>
              cases dy with
              | int b => exact if_neg (h a b rfl rfl)
              | _ => rfl
            | _ => rfl
          refine ⟨_, rfl, t, rfl, ⟨_, SqT.of ht⟩, for_it (walk_tup (K := K) (a := t) (xs := [x, y])) (fun j σ H' => ∃ v2 : Option V, σ = [some (.ref t), some (.int (n : Nat)), v2] ∧ Same H H' ∧ (0 < j → ∃ a : Int, x = .int a ∧ 0 ≤ a ∧ a < (n : Int)) ∧ (1 < j → ∃ b : Int, y = .int b ∧ 0 ≤ b ∧ b < (n : Int))) ⟨none, rfl, Same.refl H, fun h => by omega, fun h => by omega⟩ (fun j σ H' _ ⟨_, _, s', _⟩ => SqT.of (s' _ _ ht)) ?_ ?_⟩
          · rintro j z σ H2 H1 hj ⟨v2, rfl, s1, j0, j1⟩ ⟨rfl, hz⟩
            have hj : j < 2 := hj
            have hz : [x, y][j]? = some z := hz
            have no : lineD n (.tuple [dx, dy]) = none → Q (.bl false) H1 := fun e => by
              have := k H1 s1
              rw [e] at this
              exact this
            obtain ⟨dz, hdz, hnone, hnext⟩ : ∃ dz, Da p l H z dz ∧ ((∀ i : Int, dz = .int i → ¬ (0 ≤ i ∧ i < (n : Int))) → lineD n (.tuple [dx, dy]) = none) ∧ (∀ i : Int, z = .int i → 0 ≤ i → i < (n : Int) → (0 < j + 1 → ∃ a : Int, x = .int a ∧ 0 ≤ a ∧ a < (n : Int)) ∧ (1 < j + 1 → ∃ b : Int, y = .int b ∧ 0 ≤ b ∧ b < (n : Int))) := by
              rcases (by omega : j = 0 ∨ j = 1) with rfl | rfl
              · cases hz
                exact ⟨dx, hx, fun h => none_of fun a b ea _ c => h a ea ⟨c.1, c.2.1⟩, fun i e h0 h1 => ⟨fun _ => ⟨i, e, h0, h1⟩, fun q => by omega⟩⟩
              · cases hz
                exact ⟨dy, hy, fun h => none_of fun a b _ eb c => h b eb ⟨c.2.2.1, c.2.2.2.1⟩, fun i e h0 h1 => ⟨fun _ => j0 (by decide), fun _ => ⟨i, e, h0, h1⟩⟩⟩
            obtain ⟨Tz, hz1⟩ := (Da.extT (ExtT.ofS s1) _ _ hdz).tv
            obtain ⟨b, kb1, g1, g2⟩ := hz1.kInt (K := K)
            have notI : isI z = false → Q (.bl false) H1 := fun h => no (hnone fun i e => by
              subst e
              cases hdz
              cases h)
            refine ⟨_, rfl, _, _, _, _, _, rfl, .ty _, hz1.tyx, kb1, _, rfl, ?_⟩
            cases b with
            | false => exact iteT (iteT (notI (g2 rfl)))
            | true =>
              obtain ⟨b2, kb2, e2⟩ := g1 rfl
              refine iteF ⟨_, rfl, _, _, _, _, _, rfl, .ty _, hz1.tyx, kb2, _, rfl, ?_⟩
              cases b2 with
              | true => exact iteT (iteT (notI e2))
              | false =>
                obtain ⟨i, rfl⟩ : ∃ i, z = .int i := by
                  cases z with
                  | int i => exact ⟨i, rfl⟩
                  | _ => cases e2
                have out : ¬ (0 ≤ i ∧ i < (n : Int)) → Q (.bl false) H1 := fun h => no (hnone fun i' e => by
                  subst e
                  cases hdz
                  exact h)
                refine iteF ⟨_, rfl, _, _, rfl, rfl, _, rfl, ?_⟩
                refine ite2 (fun h1 => ?_) (fun h1 => ?_)
                · have h1 := of_decide_eq_true h1
                  exact iteT (out (by omega))
                · have h1 : ¬ i < 0 := fun h => h1 (decide_eq_true h)
                  refine ⟨_, rfl, _, rfl, _, _, rfl, rfl, _, rfl, ?_⟩
                  refine ite2 (fun h2 => ?_) (fun h2 => ?_)
                  · have h2 := of_decide_eq_true h2
                    exact out (by omega)
                  · have h2 : ¬ (n : Int) ≤ i := fun h => h2 (decide_eq_true h)
                    obtain ⟨n0, n1⟩ := hnext i rfl (by omega) (by omega)
                    exact ⟨_, rfl, s1, n0, n1⟩
          · rintro σ H1 ⟨v2, rfl, s1, j0, j1⟩
            obtain ⟨a, rfl, a0, a1⟩ := j0 (by show 0 < 2; decide)
            obtain ⟨b, rfl, b0, b1⟩ := j1 (by show 1 < 2; decide)
            cases hx
            cases hy
            have ht1 := s1 _ _ ht
            refine ⟨_, rfl, t, _, 0, V.int a, rfl, rfl, SqT.of ht1, rfl, _, rfl, t, _, 1, V.int b, rfl, rfl, SqT.of ht1, rfl, _, _, rfl, rfl, ?_⟩
            have kk := k H1 s1
            have e0 : lineD n (.tuple [.int a, .int b]) = if 0 ≤ a ∧ a < (n : Int) ∧ 0 ≤ b ∧ b < (n : Int) ∧ a < b then some (a.toNat, b.toNat) else none := rfl
            rw [e0] at kk
            show Q (.bl (decide (a < b))) H1
            by_cases c : a < b
            · rw [if_pos ⟨a0, a1, b0, b1, c⟩] at kk
              rw [decide_eq_true c]
              exact kk
            · rw [if_neg fun z => c z.2.2.2.2] at kk
              rw [decide_eq_false c]
              exact kk
      · have hn : lineD n (.tuple ds) = none := by
          rw [hle] at h2
          match ds, h2 with
          | [], _ => rfl
          | [_], _ => rfl
          | [_, _], h2 => exact absurd rfl h2
          | _ :: _ :: _ :: _, _ => rfl
        refine ite2 (fun _ => ?_) (fun hb => ?_)
        · have := k H (Same.refl H)
          rw [hn] at this
          exact this
        · exfalso
          refine hb ?_
          rw [decide_eq_false fun z => h2 (by have := V.int.inj z; omega)]
          rfl
    · refine ⟨_, rfl, _, _, _, _, _, rfl, .ty _, hv.tyx, hv.kTup, _, rfl, ?_⟩
      rw [hT]
      have := k H (Same.refl H)
      rw [hj] at this
      exact iteT (iteT this)
end
end One
end P_PB

section P_PC
set_option linter.all false
set_option maxRecDepth 100000
set_option maxHeartbeats 16000000
namespace One
open PySem PySem.Spec PyProof.Rows L2
/-! ### a tuple of pairs is less -/
def rLtD (K : PySem.W.Frag) : R2 := fun x y H Q => ∃ d e, Dp K H x d ∧ Dp K H y e ∧ PySem.W.alike d e = true ∧ d ≠ .none ∧ min d.depth e.depth ≤ 60 ∧ Q (.bl (PySem.W.dataLt d e)) H
theorem op_ltD {X : Cx} (hu : X.A.units + 64 < cLine) : OpR X (compareOp .Lt) (rLtD X.K) := by
  intro pins s σ H x y v u Q I rx ry h
  obtain ⟨d, e, hd, he, ha, hn, hm, q⟩ := h
  obtain ⟨as, r1⟩ := Dp.reads I d x v hd rx
  obtain ⟨bs, r2⟩ := Dp.reads I e y u he ry
  exact PySem.W.rcLt_alike d e X.A s v u as bs r1 r2 ha hn (by omega) _ _ _ _ ⟨.bl _, H, I, rfl, q⟩
theorem lt_pair {K : PySem.W.Frag} {H : Hp} {x y : Addr} {p q : Nat × Nat} {Q : VK} (h1 : PAt H x p) (h2 : PAt H y q) (k : Q (.bl (decide (p.1 < q.1 ∨ (p.1 = q.1 ∧ p.2 < q.2)))) H) : rLtD K (.ref x) (.ref y) H Q := by
  refine ⟨.tuple [.int (p.1 : Nat), .int (p.2 : Nat)], .tuple [.int (q.1 : Nat), .int (q.2 : Nat)], .tup (SqT.of h1) (.cons (.int _) (.cons (.int _) .nil)), .tup (SqT.of h2) (.cons (.int _) (.cons (.int _) .nil)), rfl, (fun z => by cases z), by show min 1 1 ≤ 60; decide, ?_⟩
  rw [PySem.W.dataLt_ii]
  have e : decide (((p.1 : Nat) : Int) < ((q.1 : Nat) : Int) ∨ ((p.1 : Nat) : Int) = ((q.1 : Nat) : Int) ∧ ((p.2 : Nat) : Int) < ((q.2 : Nat) : Int)) = decide (p.1 < q.1 ∨ (p.1 = q.1 ∧ p.2 < q.2)) := decide_eq_decide.mpr (by omega)
  rw [← e] at k
  exact k
theorem in_met (a : Nat) : ∀ met : List Nat, inV (V.int (a : Nat)) (nats met) = met.contains a
  | [] => rfl
  | b :: met => by
    have ih := in_met a met
    show (eqV (V.int ((b : Nat) : Int)) (V.int ((a : Nat) : Int)) || inV (V.int (a : Nat)) (nats met)) = _
    rw [ih, List.contains_cons]
    have e : eqV (V.int ((b : Nat) : Int)) (V.int ((a : Nat) : Int)) = (a == b) := by
      rw [Bool.eq_iff_iff, beq_iff_eq]
      unfold eqV
      simp
      omega
    rw [e]
theorem flat_nats (met : List Nat) : (nats met).all flatV = true := by
  induction met with
  | nil => rfl
  | cons b met ih => exact ih
def spPY (K : PySem.W.Frag) : Sp := fun vs H Q _ => ∃ (v : V) (p l : Addr) (d : PyData), vs = [v] ∧ Da p l H v d ∧ (placeY d = none → ∀ H', Same H H' → Q .non H') ∧ ∀ pl, placeY d = some pl → ∀ (H' : Hp) (q : Addr), Same H H' → H' q = some (.tup (nats pl)) → Q (.ref q) H'
theorem line_at {p l : Addr} {H : Hp} {v : V} {d : PyData} {N : Nat} {w : Nat × Nat} (h : Da p l H v d) (e : lineD N d = some w) : ∃ b, v = .ref b ∧ PAt H b w ∧ w.1 < w.2 ∧ w.2 < N := by
  cases h with
  | @tup t xs ds a1 a2 f g =>
    obtain ⟨t1, _⟩ := two_line (N := N) g
    obtain ⟨e1, e2, e3⟩ := t1 w e
    rw [e1] at f
    exact ⟨t, rfl, f, e2, e3⟩
  | _ => cases e
theorem lines_of {p l : Addr} {H : Hp} {N : Nat} : ∀ {ds : List PyData} {xs : List V} {ps : List (Nat × Nat)}, DaAll p l H xs ds → ds.map (lineD N) = ps.map some → ∃ as, xs = refs as ∧ PL H as ps ∧ ∀ q ∈ ps, q.1 < q.2 ∧ q.2 < N
  | [], _, [], h, _ => by cases h; exact ⟨[], rfl, .nil, fun q hq => absurd hq (by simp)⟩
  | [], _, _ :: _, _, e => by cases e
  | _ :: _, _, [], _, e => by cases e
  | d :: ds, _, w :: ps, h, e => by
    cases h with
    | cons a b =>
      rw [List.map_cons, List.map_cons] at e
      obtain ⟨e1, e2⟩ := List.cons.inj e
      obtain ⟨t, rfl, hb, h1, h2⟩ := line_at a e1
      obtain ⟨as, rfl, hP, hlt⟩ := lines_of b e2
      refine ⟨t :: as, rfl, .cons hb hP, fun q hq => ?_⟩
      rcases List.mem_cons.mp hq with rfl | hq
      · exact ⟨h1, h2⟩
      · exact hlt q hq
theorem place_tup {ds : List PyData} {Q : VK} {H : Hp} (kg : placeY (.tuple ds) = none → ∀ H', Same H H' → Q .non H') (kb : ∀ pl, placeY (.tuple ds) = some pl → ∀ (H' : Hp) (q : Addr), Same H H' → H' q = some (.tup (nats pl)) → Q (.ref q) H') :
    (canBe (ds.length : Nat) = false → ∀ (H' : Hp) (q : Addr), Same H H' → H' q = some (.tup []) → Q (.ref q) H') ∧
    (canBe (ds.length : Nat) = true → ∀ k, goF 0 [] none (ds.map (lineD (2 * ds.length))) = some k → ∀ (H' : Hp) (q : Addr), Same H H' → H' q = some (.tup (nats [k])) → Q (.ref q) H') ∧
    (canBe (ds.length : Nat) = true → goF 0 [] none (ds.map (lineD (2 * ds.length))) = none → (Whole (ds.length / 2) ((ds.map (lineD (2 * ds.length))).filterMap id) → ∀ H', Same H H' → Q .non H') ∧ (¬ Whole (ds.length / 2) ((ds.map (lineD (2 * ds.length))).filterMap id) → ∀ (H' : Hp) (q : Addr), Same H H' → H' q = some (.tup (nats [ds.length])) → Q (.ref q) H')) := by
  have e : placeY (.tuple ds) = if canBe (ds.length : Nat) then
      match goF 0 [] none (ds.map (lineD (2 * ds.length))) with
      | some k => some [k]
      | none => open Classical in if Whole (ds.length / 2) ((ds.map (lineD (2 * ds.length))).filterMap id) then none else some [ds.length]
      else some [] := rfl
  refine ⟨fun hc => kb [] (by rw [e, hc]; rfl), fun hc k hk => kb [k] (by rw [e, hc, if_pos rfl, hk]), fun hc hn => ⟨fun hw => kg (by rw [e, hc, if_pos rfl, hn]; exact if_pos hw), fun hw => kb [ds.length] (by rw [e, hc, if_pos rfl, hn]; exact if_neg hw)⟩⟩
section
variable {P : Program} {w : World} {K : PySem.W.Frag} {mg : Str → Option Value} {base : Heap}
theorem ok_py {f fL fW : Addr} {fd dL dW : FuncData} (F : Fun K "_law_place" "_law_place" sPl f fd) (T : TB mg) (L : Cal K mg "_law_is_line" fL dL ["thing", "many"]) (GL : FnOk P w K mg base CX0 1 fL dL ["thing", "many"] spLn)
    (W : Cal K mg "_law_is_whole" fW dW ["lines"]) (GW : FnOk P w K mg base CX0 1 fW dW ["lines"] (spLWhole K)) : FnOk P w K mg base CX0 2 f fd ["thing"] (spPY K) := by
  refine F.ok scPl (fun vs H Q E h => ?_) (fun cdv A outer s H vs Q E hr h => ?_)
  · obtain ⟨v, p, l, d, rfl, _⟩ := h
    rfl
  · obtain ⟨v, p, l, d, rfl, hda, kg, kb⟩ := h
    have nd := scPl.nd
    have hr1 : Room 1 _ := hr
    have hu : (A.deeper (envOfC "_law_place" (defScope sPl) s.heap.objs.size f cdv)).units + 64 < cLine := hr.units
    refine ⟨_, pss_cons (ps_if (PW.pt (pw_or (pt_not (pt_val (pe_callB call_isi (by rfl) T.isinstance boot_isinstance (pa_cons (pv 0) (pa_cons (pe_bltn (v := .ty "tuple") (by rfl) T.tuple boot_tuple rfl) pa_nil))))) (pw_or1 (pt_cmpR op_notIn_rngC (pe_callB call_len_seq (by rfl) T.len PySem.boot_len (pa_cons (pv 0) pa_nil)) (pe_callTy cr_range3 (by rfl) T.range boot_range (pa_cons pe_int (pa_cons pe_int (pa_cons pe_int pa_nil)))) (by rfl))))) (pss_one (ps_ret (pe_tup pa_nil))) pss_nil)
      (pss_cons (ps_set (i := 1) nd rfl (Or.inl rfl) (pe_lst pa_nil))
      (pss_cons (ps_for PassesOwn.never rfl (pi_enumT (by rfl) T.enumerate (pa_cons (pv 0) pa_nil)) (pg_tup rfl (pgs_cons (pg_name (i := 2) nd rfl (Or.inl rfl)) (pgs_cons (pg_name (i := 3) nd rfl (Or.inl rfl)) pgs_nil)))
        (C8.pss_cut (ps_if (PW.pt (pw_or (pt_not (pt_val (pe_call GL hr1 rfl L.g L.kp L.b .nil pass0 (pa_cons (pv 3) (pa_cons (pe_op op_mul pe_int (pe_callB call_len_seq (by rfl) T.len PySem.boot_len (pa_cons (pv 0) pa_nil))) pa_nil))))) (pw_or1 (PW.pt (pw_and (pt_cmpR op_gt (pv 2) pe_int (nomark _)) (pw_and1 (pt_not (pt_cmpR (op_ltD (by exact hu)) (pe_ix ix_tup (pv 0) (pe_op op_sub (pv 2) pe_int) (fun _ _ => rfl)) (pv 3) (nomark _))))))))) (pss_one (ps_ret (pe_tup (pa_cons (pv 2) pa_nil)))) pss_nil)
      (pss_cons (ps_if (PW.pt (pw_or (pt_cmpR op_in_seq (pe_ix ix_tup (pv 3) pe_int (fun _ _ => rfl)) (pv 1) (by rfl)) (pw_or1 (pt_cmpR op_in_seq (pe_ix ix_tup (pv 3) pe_int (fun _ _ => rfl)) (pv 1) (by rfl))))) (pss_one (ps_ret (pe_tup (pa_cons (pv 2) pa_nil)))) pss_nil)
      (pss_one (ps_set (i := 1) nd rfl (Or.inl rfl) (pe_op op_catS (pv 1) (pe_lst (pa_cons (pe_ix ix_tup (pv 3) pe_int (fun _ _ => rfl)) (pa_cons (pe_ix ix_tup (pv 3) pe_int (fun _ _ => rfl)) pa_nil)))))))))
      (pss_one (ps_ret (pe_ifExp (pt_val (pe_call GW hr1 rfl W.g W.kp W.b .nil pass0 (pa_cons (pv 0) pa_nil))) pe_non (pe_tup (pa_cons (pe_callB call_len_seq (by rfl) T.len PySem.boot_len (pa_cons (pv 0) pa_nil)) pa_nil))))))), ?_⟩
    obtain ⟨Tt, hv⟩ := hda.tv
    have kind : (∃ (t : Addr) (xs : List V) (ds : List PyData), v = .ref t ∧ H t = some (.tup xs) ∧ d = .tuple ds ∧ DaAll p l H xs ds) ∨ ∃ Tt, TV H v Tt ∧ isTup Tt = false ∧ placeY d = some [] := by
      cases hda with
      | non => exact .inr ⟨_, .non, by decide, rfl⟩
      | bl b => exact .inr ⟨_, .bl b, by decide, rfl⟩
      | int i => exact .inr ⟨_, .int i, by decide, rfl⟩
      | str x => exact .inr ⟨_, .str x, by decide, rfl⟩
      | lst a b c f g => exact .inr ⟨_, .lst f, by decide, rfl⟩
      | emp a b f => exact .inr ⟨_, .dct f, by decide, rfl⟩
      | tup a b f g => exact .inl ⟨_, _, _, rfl, f, rfl, g⟩
    rcases kind with ⟨t, xs, ds, rfl, ht, rfl, hds⟩ | ⟨Tt, hv, hT, hj⟩
    · have hle := hds.len
      obtain ⟨k0, k1, k2⟩ := place_tup kg kb
      rw [← hle] at k0 k1 k2
      generalize hos : ds.map (lineD (2 * xs.length)) = os at k0 k1 k2
      refine ⟨_, rfl, _, _, _, _, _, rfl, .ty _, (TV.tup ht).tyx, (TV.tup ht).kTup, _, rfl, ?_⟩
      refine iteF ⟨_, rfl, t, _, rfl, .inr (SqT.of ht), _, _, _, rfl, ⟨by decide, by decide⟩, fun r hr' => ?_⟩
      have s0 := Same.new (o := RngO r 2 81 2) hr'
      refine ⟨_, _, _, _, _, rfl, rfl, upd_same, ?_⟩
      rw [rng_can]
      refine ⟨_, rfl, ?_⟩
      generalize upd H r (RngO r 2 81 2) = H0 at s0
      cases hc : canBe (xs.length : Nat) with
      | false => exact iteT ⟨Nat.zero_le _, fun q hq => k0 hc _ q (s0.trans (Same.new hq)) upd_same⟩
      | true =>
        refine iteF ⟨Nat.zero_le _, fun Lm hLm => ?_⟩
        have s1 := s0.trans (Same.new (o := .lst []) hLm)
        have hpos : 2 ≤ xs.length ∧ xs.length ≤ 80 ∧ xs.length % 2 = 0 := by
          unfold canBe at hc
          simp only [Bool.and_eq_true, decide_eq_true_eq] at hc
          omega
        have nn : (2 : Int) * ((xs.length : Nat) : Int) = ((2 * xs.length : Nat) : Int) := by omega
        refine ⟨_, rfl, t, _, rfl, SqT.of (s1 _ _ ht), for_it (walk_enumT (K := K) (a := t) (xs := xs)) (fun i σ H2 => ∃ (Lm : Addr) (met : List Nat) (o : Option (Nat × Nat)) (v2 v3 : Option V), σ = [some (.ref t), some (.ref Lm), v2, v3] ∧ Same H H2 ∧ H2 Lm = some (.lst (nats met)) ∧ met.length = 2 * i ∧
          goF i met o (os.drop i) = goF 0 [] none os ∧ (i = 0 → o = none) ∧ ∀ j, i = j + 1 → ∃ (q : Nat × Nat) (a : Addr), o = some q ∧ xs[j]? = some (.ref a) ∧ PAt H a q)
          ⟨Lm, [], none, none, none, rfl, s1, upd_same, rfl, rfl, fun _ => rfl, fun j h => by omega⟩ (fun i σ H2 _ ⟨_, _, _, _, _, _, s', _⟩ => SqT.of (s' _ _ ht)) ?_ ?_⟩
        · rintro i x σ H2 H3 hi ⟨Lm, met, o, v2, v3, rfl, s2, hL, hml, hgo, ho0, hoj⟩ ⟨q, x', y', rfl, hq, rfl, ex, ey⟩
          cases ex
          have hi : i < xs.length := hi
          have ey : xs[i]? = some y' := ey
          have s3 := Same.new (o := .tup [V.int (i : Nat), y']) hq
          obtain ⟨di, hdi, hda1⟩ := hds.get ey
          have hoi : os[i]? = some (lineD (2 * xs.length) di) := by rw [← hos, List.getElem?_map, hdi]; rfl
          have hdrop : os.drop i = lineD (2 * xs.length) di :: os.drop (i + 1) := by
            obtain ⟨hlt, e⟩ := List.getElem?_eq_some_iff.mp hoi
            rw [List.drop_eq_getElem_cons hlt, e]
          rw [hdrop] at hgo
          refine ⟨q, _, rfl, SqT.of upd_same, rfl, _, _, rfl, _, _, rfl, rfl, ?_⟩
          have hL4 := s3 _ _ hL
          generalize upd H2 q (.tup [V.int (i : Nat), y']) = H4 at s3 hL4
          have s4 := s2.trans s3
          have bad : goF 0 [] none os = some i → ∀ H5, Same H H5 → 1 ≤ sizeLine ∧ ∀ p, H5 p = none → Q (.ref p) (upd H5 p (.tup [V.int (i : Nat)])) := fun hb H5 s5 => ⟨by decide, fun p hp => k1 hc i hb _ p (s5.trans (Same.new hp)) upd_same⟩
          refine ⟨fun σ H' => ∃ (b : Addr) (lw : Nat × Nat), σ = [some (.ref t), some (.ref Lm), some (.int (i : Nat)), some (.ref b)] ∧ y' = .ref b ∧ Same H4 H' ∧ lineD (2 * xs.length) di = some lw ∧ PAt H b lw ∧ notUp lw o = false, ?_, ?_⟩
          · refine ⟨_, rfl, _, rfl, t, _, rfl, .inr (SqT.of (s4 _ _ ht)), _, _, rfl, rfl, .inl ⟨by decide, by decide⟩, y', 2 * xs.length, p, l, di, ?_, Da.extT (ExtT.ofS s4) _ _ hda1, fun H5 s5 => ⟨_, rfl, ?_⟩⟩
            · show [y', V.int (2 * ((xs.length : Nat) : Int))] ++ [] = _
              rw [nn]
              rfl
            have s05 := s4.trans s5
            cases e : lineD (2 * xs.length) di with
            | none =>
              rw [e] at hgo
              exact iteT (iteT ⟨_, rfl, bad hgo.symm H5 s05⟩)
            | some lw =>
              rw [e] at hgo
              obtain ⟨b, rfl, hb, hw1, hw2⟩ := line_at hda1 e
              have hgo : (if notUp lw o || met.contains lw.1 || met.contains lw.2 then some i else goF (i + 1) (met ++ [lw.1, lw.2]) (some lw) (os.drop (i + 1))) = goF 0 [] none os := hgo
              refine iteF ⟨_, rfl, _, _, rfl, rfl, _, rfl, ?_⟩
              refine ite2 (fun h0 => ?_) (fun h0 => ?_)
              · have h0 := of_decide_eq_true h0
                obtain ⟨j, rfl⟩ : ∃ j, i = j + 1 := ⟨i - 1, by omega⟩
                obtain ⟨qo, a, rfl, hxa, hpa⟩ := hoj j rfl
                refine ⟨_, rfl, _, rfl, _, _, rfl, rfl, t, _, _, .ref a, rfl, rfl, SqT.of (s05 _ _ ht), at_of (j := j) (by omega) hxa, _, rfl, lt_pair (s05 _ _ hpa) (s05 _ _ hb) ?_⟩
                refine ⟨_, rfl, ?_⟩
                have eu : notUp lw (some qo) = !decide (qo.1 < lw.1 ∨ (qo.1 = lw.1 ∧ qo.2 < lw.2)) := by
                  show (decide (lw.1 < qo.1) || (decide (lw.1 = qo.1) && decide (lw.2 ≤ qo.2))) = _
                  rw [Bool.eq_iff_iff]
                  simp only [Bool.or_eq_true, Bool.and_eq_true, Bool.not_eq_true', decide_eq_true_eq, decide_eq_false_iff_not]
                  omega
                cases hd : decide (qo.1 < lw.1 ∨ (qo.1 = lw.1 ∧ qo.2 < lw.2)) with
                | true => exact iteF ⟨b, lw, rfl, rfl, s5, rfl, hb, by rw [eu, hd]; rfl⟩
                | false =>
                  rw [eu, hd, if_pos (by rfl)] at hgo
                  exact iteT ⟨_, rfl, bad hgo.symm H5 s05⟩
              · have h0 : i = 0 := by
                  have : ¬ (0 : Int) < (i : Nat) := fun z => h0 (decide_eq_true z)
                  omega
                exact ⟨b, lw, rfl, rfl, s5, rfl, hb, by rw [ho0 h0]; rfl⟩
          · rintro σ H5 ⟨b, lw, rfl, rfl, s5, e, hb, hup⟩
            rw [e] at hgo
            have s05 := s4.trans s5
            have hL5 := s5 _ _ hL4
            have hgo : (if notUp lw o || met.contains lw.1 || met.contains lw.2 then some i else goF (i + 1) (met ++ [lw.1, lw.2]) (some lw) (os.drop (i + 1))) = goF 0 [] none os := hgo
            rw [hup, Bool.false_or] at hgo
            have hb5 := s05 _ _ hb
            refine ⟨_, rfl, b, _, 0, _, rfl, rfl, SqT.of hb5, rfl, _, rfl, Lm, _, rfl, .inl (SqL.of hL5), rfl, flat_nats met, _, rfl, ?_⟩
            have small : ∀ H7, Same H5 H7 → 1 ≤ sizeLine ∧ ∀ p, H7 p = none → Q (.ref p) (upd H7 p (.tup [V.int (i : Nat)])) ∨ True := fun _ _ => ⟨by decide, fun _ _ => .inr trivial⟩
            clear small
            refine ite2 (fun c1 => ?_) (fun c1 => ?_)
            · have c1 : inV (V.int ((lw.1 : Nat) : Int)) (nats met) = true := c1
              rw [in_met] at c1
              rw [c1, Bool.true_or, if_pos rfl] at hgo
              exact iteT ⟨_, rfl, bad hgo.symm H5 s05⟩
            have c1 : ¬ inV (V.int ((lw.1 : Nat) : Int)) (nats met) = true := c1
            rw [in_met, Bool.not_eq_true] at c1
            rw [c1, Bool.false_or] at hgo
            refine ⟨_, rfl, b, _, 1, _, rfl, rfl, SqT.of hb5, rfl, _, rfl, Lm, _, rfl, .inl (SqL.of hL5), rfl, flat_nats met, _, rfl, ?_⟩
            refine ite2 (fun c2 => ?_) (fun c2 => ?_)
            · have c2 : inV (V.int ((lw.2 : Nat) : Int)) (nats met) = true := c2
              rw [in_met] at c2
              rw [c2, if_pos rfl] at hgo
              exact ⟨_, rfl, bad hgo.symm H5 s05⟩
            have c2 : ¬ inV (V.int ((lw.2 : Nat) : Int)) (nats met) = true := c2
            rw [in_met, Bool.not_eq_true] at c2
            rw [c2, if_neg (by decide)] at hgo
            refine ⟨_, rfl, _, rfl, b, _, 0, _, rfl, rfl, SqT.of hb5, rfl, _, rfl, b, _, 1, _, rfl, rfl, SqT.of hb5, rfl, two_le, fun l2 hl2 => ?_⟩
            have s6 := Same.new (o := .lst [V.int ((lw.1 : Nat) : Int), V.int ((lw.2 : Nat) : Int)]) hl2
            have nl : (nats met).length = 2 * i := (List.length_map _).trans hml
            refine ⟨Lm, l2, _, _, rfl, rfl, SqL.of (s6 _ _ hL5), upd_same, Nat.le_of_lt (small1000 (by rw [nl]; show 2 * i + 2 ≤ 1000; omega)), fun L3 hL3 => ?_⟩
            refine ⟨L3, met ++ [lw.1, lw.2], some lw, _, _, rfl, s05.trans (s6.trans (Same.new hL3)), ?_, ?_, hgo, fun h => by omega, fun j hj => ⟨lw, b, rfl, ?_, hb⟩⟩
            · rw [upd_same, show nats (met ++ [lw.1, lw.2]) = nats met ++ nats [lw.1, lw.2] from List.map_append]
              rfl
            · rw [List.length_append, hml]
              show 2 * i + 2 = _
              omega
            · rw [show j = i by omega]
              exact ey
        · rintro σ H2 ⟨Lm, met, o, v2, v3, rfl, s2, hL, hml, hgo, ho0, hoj⟩
          have lo : os.length = xs.length := by rw [← hos, List.length_map, hle]
          have hn : goF 0 [] none os = none := by
            rw [← hgo, show os.drop xs.length = [] from List.drop_of_length_le (by omega)]
            rfl
          have hpr := goF_pairs os 0 [] none hn
          obtain ⟨as, has, hP, hlt⟩ := lines_of hds (by rw [hos]; exact hpr)
          obtain ⟨kw, kn⟩ := k2 hc hn
          generalize os.filterMap id = ps at hpr hP hlt kw kn
          have lp : ps.length = xs.length := by rw [← lo, hpr, List.length_map]
          refine ⟨_, rfl, t, xs.length / 2, as, ps, rfl, by rw [← has]; exact s2 _ _ ht, hP.mono (sameT s2), by omega, by omega, fun p hp => ?_, by omega, fun H' b s' hb => ⟨_, rfl, ?_⟩⟩
          · have := hlt p hp
            omega
          · cases b with
            | true => exact iteT (kw (hb.mp rfl) H' (s2.trans s'))
            | false =>
              refine iteF ⟨_, rfl, t, _, rfl, .inr (SqT.of (s' _ _ (s2 _ _ ht))), by show 1 ≤ sizeLine; decide, fun q hq => kn (fun z => ?_) _ q ((s2.trans s').trans (Same.new hq)) upd_same⟩
              cases hb.mpr z
    · refine ⟨_, rfl, _, _, _, _, _, rfl, .ty _, hv.tyx, hv.kTup, _, rfl, ?_⟩
      rw [hT]
      exact iteT (iteT ⟨Nat.zero_le _, fun q hq => kb [] hj _ q (Same.new hq) upd_same⟩)
end
end One
end P_PC

section P_PD
set_option linter.all false
set_option maxRecDepth 100000
set_option maxHeartbeats 16000000
namespace One
open PySem PySem.Spec PyProof.Rows L2
abbrev sRi : Stmt := top 39
abbrev nRi : List Str := ["thing", "place"]
theorem scRi : FnScope nRi ["thing"] (defScope sRi) := ⟨rfl, rfl, rfl, by decide +kernel, rfl, by decide +kernel, by decide +kernel⟩
/-! ### a tuple of small numbers, as data -/
def nsD (rs : List Nat) : PyData := .tuple (rs.map fun x => PyData.int (x : Nat))
theorem dp_ns {K : PySem.W.Frag} {H : Hp} : ∀ rs : List Nat, DpAll K H (nats rs) (rs.map fun x => PyData.int (x : Nat))
  | [] => .nil
  | _ :: r => .cons (.int _) (dp_ns r)
theorem dp_nsD {K : PySem.W.Frag} {H : Hp} {u : Addr} {rs : List Nat} (h : H u = some (.tup (nats rs))) : Dp K H (.ref u) (nsD rs) := .tup (SqT.of h) (dp_ns rs)
theorem ns_all : ∀ rs : List Nat, (∀ x ∈ rs, x < 1000) → PyData.showableAll (rs.map fun x => PyData.int (x : Nat)) = true ∧ PyData.hasDictAll (rs.map fun x => PyData.int (x : Nat)) = false ∧ PyData.depthAll (rs.map fun x => PyData.int (x : Nat)) ≤ 1 ∧ PyData.leavesShortAll 8 (rs.map fun x => PyData.int (x : Nat)) = true ∧ PyData.bulkAll (rs.map fun x => PyData.int (x : Nat)) = rs.length
  | [], _ => ⟨rfl, rfl, Nat.zero_le _, rfl, rfl⟩
  | x :: r, h => by
    obtain ⟨h1, h2, h3, h4, h5⟩ := ns_all r fun q m => h q (List.mem_cons_of_mem _ m)
    have q1 := h x (List.mem_cons_self ..)
    have a1 : PyData.showable (.int (x : Nat)) = true := by
      show decide (((x : Nat) : Int).natAbs.log2 < 1920) = true
      simp only [Int.natAbs_natCast, decide_eq_true_eq]
      exact log_small q1
    have a4 : PyData.leavesShort 8 (.int (x : Nat)) = true := by
      show decide (_ ≤ 8) = true
      simp only [decide_eq_true_eq]
      exact int_short _ q1
    refine ⟨?_, ?_, ?_, ?_, ?_⟩
    · show (PyData.showable (.int (x : Nat)) && PyData.showableAll _) = true
      rw [a1, h1]; rfl
    · show (false || PyData.hasDictAll _) = false
      rw [h2]; rfl
    · show max 0 (PyData.depthAll _) ≤ 1
      exact Nat.max_le.mpr ⟨Nat.zero_le 1, h3⟩
    · show (PyData.leavesShort 8 (.int (x : Nat)) && PyData.leavesShortAll 8 _) = true
      rw [a4, h4]; rfl
    · show 0 + 1 + PyData.bulkAll _ = _
      rw [h5]
      show 0 + 1 + r.length = r.length + 1
      omega
theorem ns_fine {rs : List Nat} (h : ∀ x ∈ rs, x < 1000) (hl : rs.length ≤ 1000) : (nsD rs).showable = true ∧ (nsD rs).hasDict = false ∧ (nsD rs).depth ≤ 16 ∧ (nsD rs).shown.length ≤ sizeLine := by
  obtain ⟨h1, h2, h3, h4, h5⟩ := ns_all rs h
  refine ⟨h1, h2, ?_, ?_⟩
  · show PyData.depthAll _ + 1 ≤ 16
    omega
  · have q := PyData.shown_le_bulk 8 (Nat.le_refl _) (nsD rs) h4
    have e : (nsD rs).bulk = rs.length := h5
    rw [e] at q
    have : (40000 : Nat) ≤ sizeLine := by decide
    omega
theorem goF_lt : ∀ (os : List (Option (Nat × Nat))) (k : Nat) (met : List Nat) (ah : Option (Nat × Nat)) (r : Nat), goF k met ah os = some r → r < k + os.length
  | [], _, _, _, _, h => by cases h
  | none :: os, k, met, ah, r, h => by
    have : k = r := Option.some.inj h
    rw [List.length_cons]
    omega
  | some p :: os, k, met, ah, r, h => by
    have h : (if notUp p ah || met.contains p.1 || met.contains p.2 then some k else goF (k + 1) (met ++ [p.1, p.2]) (some p) os) = some r := h
    rw [List.length_cons]
    split at h
    · have := Option.some.inj h
      omega
    · have := goF_lt os _ _ _ _ h
      omega
theorem placeY_small {d : PyData} {pl : List Nat} (h : placeY d = some pl) : pl.length ≤ 1 ∧ ∀ x ∈ pl, x < 1000 := by
  have nil : pl = [] → pl.length ≤ 1 ∧ ∀ x ∈ pl, x < 1000 := fun e => by
    subst e
    exact ⟨Nat.zero_le _, fun x hx => absurd hx (by simp)⟩
  have one : ∀ k, pl = [k] → k < 1000 → pl.length ≤ 1 ∧ ∀ x ∈ pl, x < 1000 := fun k e hk => by
    subst e
    exact ⟨Nat.le_refl 1, fun x hx => by rw [List.mem_singleton.mp hx]; exact hk⟩
  cases d with
  | tuple ds =>
    have e : placeY (.tuple ds) = if canBe (ds.length : Nat) then
      match goF 0 [] none (ds.map (lineD (2 * ds.length))) with
      | some k => some [k]
      | none => open Classical in if Whole (ds.length / 2) ((ds.map (lineD (2 * ds.length))).filterMap id) then none else some [ds.length]
      else some [] := rfl
    rw [e] at h
    cases hc : canBe (ds.length : Nat) with
    | false =>
      rw [hc, if_neg (by decide)] at h
      exact nil (Option.some.inj h).symm
    | true =>
      rw [hc, if_pos rfl] at h
      unfold canBe at hc
      simp only [Bool.and_eq_true, decide_eq_true_eq] at hc
      cases hg : goF 0 [] none (ds.map (lineD (2 * ds.length))) with
      | some k =>
        rw [hg] at h
        have := goF_lt _ _ _ _ _ hg
        rw [List.length_map] at this
        exact one k (Option.some.inj h).symm (by omega)
      | none =>
        rw [hg] at h
        have h : (open Classical in if Whole (ds.length / 2) ((ds.map (lineD (2 * ds.length))).filterMap id) then none else some [ds.length]) = some pl := h
        split at h
        · cases h
        · exact one ds.length (Option.some.inj h).symm (by omega)
  | _ => exact nil (Option.some.inj h).symm
theorem rq_bl {K : PySem.W.Frag} {H : Hp} {b : Bool} {Q : VK} (q : Q (.str (PyData.bool b).shown) H) : rReprQ K [.bl b] H Q :=
  rq_da (p := 0) (l := 0) (d := .bool b) (.bl b) (k := 0) (n := 0) (by cases b <;> exact ⟨by decide +kernel, by decide +kernel, by decide +kernel, by decide +kernel⟩) (by decide) (by decide) q
theorem rq_ns {K : PySem.W.Frag} {H : Hp} {z : Addr} {pl : List Nat} {Q : VK} (hz : H z = some (.tup (nats pl))) (h : pl.length ≤ 1 ∧ ∀ x ∈ pl, x < 1000) (q : Q (.str (nsD pl).shown) H) : rReprQ K [.ref z] H Q := by
  obtain ⟨f1, f2, f3, f4⟩ := ns_fine h.2 (Nat.le_trans h.1 (by decide))
  exact ⟨.ref z, nsD pl, rfl, .inl ⟨dp_nsD hz, f2⟩, f1, f3, f4, q⟩
theorem told_yard (t : Str) : toldOf 0 t = ("yard " : Str) ++ t := by
  show (("yard" : Str) ++ (" " : Str)) ++ t = _
  rw [show (("yard" : Str) ++ (" " : Str)) = ("yard " : Str) by decide +kernel]
/-- a def whose code object stands at c -/
structure FunC (K : PySem.W.Frag) (x qual : Str) (st : Stmt) (f : Addr) (fd : FuncData) (c : Addr) : Prop where
  ex : ∃ (oc : Value) (od : Option Addr) (kV doc pm : Value) (an : Option Addr) (ct : Value) (osl : Array (Option Value)),
    fd = PySem.W.fnOf x qual (defArgs st) (defBody st) (defScope st) .none kV doc pm an (.ref c) ct ∧ K.lookup f = some ⟨oc, od, .func fd, osl⟩ ∧ PySem.W.codeIn K (.ref c) qual = true
section
variable {P : Program} {w : World} {K : PySem.W.Frag} {mg : Str → Option Value} {base : Heap}
theorem okGC {x qual : Str} {st : Stmt} {f c : Addr} {fd : FuncData} {N ps : List Str} {k : Nat} {sp : Sp} (F : FunC K x qual st f fd c) (S : FnScope N ps (defScope st)) (len : ∀ vs H Q E, sp vs H Q E → vs.length = ps.length)
    (body : ∀ (A : Around) (outer : List Env) (s : Shared) (H : Hp) (vs : List V) (Q : VK) (E : XK), A.guards = some [] → Room k (A.deeper (envOfC qual (defScope st) s.heap.objs.size f (.ref c))) → sp vs H Q E →
      ∃ t, PSs (cxOf CX0 P w K mg base N qual (defScope st) f (.ref c) A outer s H E).nox (defBody st) t ∧ t { nx := fun _ H' => Q .non H', rt := Q } (start N vs) H) : FnG P w K mg base CX0 (k + 1) f fd ps sp := by
  obtain ⟨oc, od, kV, doc, pm, an, ct, osl, rfl, lk, hcd⟩ := F.ex
  exact ⟨len, fun A outer s H args us vs Q E hg hr e0 hb r hs => LamX.run_ofS lk hcd S hr e0 hb r (len _ _ _ _ hs) fun hr1 => let ⟨t, h, q⟩ := body A outer s H vs Q E hg hr1 hs; ⟨t, h.nox, q⟩⟩
end
def qualR : Str := (envOfC "_law_right" (defScope sRi) 0 0 .none).qual ++ "<lambda>"
/-- how it stands since -/
structure Since (T : List (Addr × Str)) (p c : Addr) (n : Nat) (H H' : Hp) : Prop where
  e : ExtT p p H H'
  M : MS H' p c n
  t : LamX.Tabs T H'
section
variable {T : List (Addr × Str)} {p c : Addr} {n : Nat} {H H1 H2 : Hp}
theorem MS.keepN {H H' : Hp} {p c : Addr} {n : Nat} (M : MS H p c n) (k : LamX.ExtN H H') : MS H' p c n := by
  obtain ⟨cells, a, l, x, h1, h2, r⟩ := M.ex
  exact ⟨⟨cells, a, l, x, k _ _ h1 (fun _ z => nomatch z), k _ _ h2 (fun _ z => nomatch z), r⟩, M.nn⟩
theorem Since.refl (M : MS H p c n) (t : LamX.Tabs T H) : Since T p c n H H := ⟨fun _ _ _ _ _ e => e, M, t⟩
theorem Since.same (S : Since T p c n H H1) (s : Same H1 H2) : Since T p c n H H2 := ⟨S.e.trans (ExtT.ofS s), S.M.keep s, S.t.ext s⟩
theorem Since.extn (S : Since T p c n H H1) (k : LamX.ExtN H1 H2) (t : LamX.Tabs T H2) : Since T p c n H H2 := ⟨S.e.trans (ExtT.ofN k), S.M.keepN k, t⟩
theorem Since.tup (M0 : MS H p c n) (S : Since T p c n H H1) : ∀ b xs, H b = some (.tup xs) → H1 b = some (.tup xs) := fun b xs h => by
  have q1 := tup_off M0 h
  exact S.e _ _ q1 q1 (fun _ z => nomatch z) h
end
def spRi (TT : List (Addr × Str)) : Sp := fun vs H Q _ => ∃ (v : V) (p c : Addr) (n : Nat) (d : PyData), vs = [v] ∧ MS H p c n ∧ Da p p H v d ∧ Fx d 8 9500 ∧ LamX.Tabs TT H ∧ ∀ H', MS H' p c n → ExtT p p H H' → LamX.Tabs TT H' → Q (.bl true) H'
section
variable {P : Program} {w : World} {K : PySem.W.Frag} {mg : Str → Option Value} {base : Heap}
theorem ok_ri {CL : Nat → Addr} {RE f c Pt g fP fI fN : Addr} {fd dg dP dI dN : FuncData} {TT : List (Addr × Str)} (F : FunC K "_law_right" "_law_right" sRi f fd c) (T : TB mg) (TBl : LamX.TabB base mg c Pt) (hmem : (Pt, qualR) ∈ TT) (hone : ∀ q ∈ TT, q.1 = Pt → q.2 = qualR) (Nm : ErrN mg CL RE) (R0 : ErrC K CL RE 0) (G : Fun K "_law_refused" "_law_refused" sRef g dg) (cG : Cal K mg "_law_refused" g dg ["deed"])
    (cP : Cal K mg "_law_place" fP dP ["thing"]) (gP : FnOk P w K mg base CX0 2 fP dP ["thing"] (spPY K)) (cI : Cal K mg "is_yard" fI dI ["thing"]) (gI : FnOk P w K mg base CX0 5 fI dI ["thing"] spIsYard) (cN : Cal K mg "need_yard" fN dN ["thing"]) (gN : FnOk P w K mg base (L2.CX P w) 5 fN dN ["thing"] (spNeed (CL 0))) :
    FnG P w K mg base CX0 10 f fd ["thing"] (spRi TT) := by
  refine okGC F scRi (fun vs H Q E h => ?_) (fun A outer s H vs Q E hgd hr h => ?_)
  · obtain ⟨v, p, c', n, d, rfl, _⟩ := h
    rfl
  · obtain ⟨v, p, c', n, d, rfl, M, hda, hfx, tb, k⟩ := h
    have nd := scRi.nd
    have hu : (A.deeper (envOfC "_law_right" (defScope sRi) s.heap.objs.size f (.ref c))).units + 64 < cLine := hr.units
    have rm : ∀ {j : Nat}, j ≤ 9 → Room j (A.deeper (envOfC "_law_right" (defScope sRi) s.heap.objs.size f (.ref c))) := fun h => hr.mono h
    obtain ⟨oc, od, kV, doc, pm, an, cdg, ctg, osl, rfl, lkg, hcg⟩ := G.ex
    let X : Cx := (cxOf CX0 P w K mg base nRi "_law_right" (defScope sRi) f (.ref c) A outer s H E).nox
    have rp : ∀ {X' : Cx}, X'.A = A.deeper (envOfC "_law_right" (defScope sRi) s.heap.objs.size f (.ref c)) → CallR X' (.builtin "repr") (rReprQ X'.K) := fun e => cr_reprQ (by rw [e]; exact hgd) (by rw [e]; exact hu)
    have lam : ∀ {body : Expr} {scope : Scope} {t : XK → TE} {p lpos pos : Pos} (LS : LamX.LamS (defScope sRi) scope) (hbody : ∀ (A' : Around) (outer : List Env) (s : Shared) (H : Hp) (E : XK) (f' c' : Addr), Room 7 (A'.deeper (LamX.lamEnv X scope s.heap.objs.size f' c')) → PE (LamX.lamCx X A' outer s H E scope f' c') body (t E)),
        PE X (.Call (.Name "_law_refused" p) [.Lambda { posonlyargs := [], args := [], vararg := none, kwonlyargs := [], kw_defaults := [], kwarg := none, defaults := [] } body scope lpos] [] pos) (LamX.tLam TT (TTref K CL RE) t) := fun LS hbody =>
      LamX.pe_lamcall (X := X) (k := 7) rfl cG.g cG.kp lkg hcg cG.b scRef rfl (.inl rfl) (ref_gives (X := X) T Nm hgd hr) TBl rfl hmem hone hr LS rfl (fun _ _ _ _ _ => rfl) hbody
    have cnd : ∀ {A' : Around} {outer : List Env} {s : Shared} {H : Hp} {E : XK} {scope : Scope} {f' c' : Addr} {a : Expr} {ta : TE} {tr : TA} {p pos : Pos} (hr8 : Room 7 (A'.deeper (LamX.lamEnv X scope s.heap.objs.size f' c'))) (hg : scope.names.lookup ("need_yard" : Str) = some .globalImplicit)
        (ha : PA (LamX.lamCx X A' outer s H E scope f' c') [a] (tCons ta tr)) (he : starEach [a] (LamX.lamEnv X scope s.heap.objs.size f' c') = (false, eval a (LamX.lamEnv X scope s.heap.objs.size f' c')) :: starEach [] (LamX.lamEnv X scope s.heap.objs.size f' c'))
        (hpl : (backTo pos (starEach [] (LamX.lamEnv X scope s.heap.objs.size f' c'))).any (·.1) = false), PE (LamX.lamCx X A' outer s H E scope f' c') (.Call (.Name "need_yard" p) [a] [] pos) (tCall (spNeed (CL 0)) [] E (tCons ta tr)) := fun hr8 hg ha he hpl =>
      pe_call gN (hr8.mono (by decide)) hg cN.g cN.kp cN.b .nil (passes_call (takes_of rfl rfl rfl rfl) (fun _ _ _ _ h => h)) ha (by decide) he hpl
    refine ⟨_, pss_cons (ps_set (i := 1) nd rfl (Or.inl rfl) (pe_call gP (rm (by decide)) rfl cP.g cP.kp cP.b .nil pass0 (pa_cons (pv 0) pa_nil)))
      (pss_cons (ps_if (pt_cmpR op_ne (pe_callB (rp rfl) (by rfl) T.repr boot_repr (pa_cons (pe_call gI (rm (by decide)) rfl cI.g cI.kp cI.b .nil pass0 (pa_cons (pv 0) pa_nil)) pa_nil)) (pe_callB (rp rfl) (by rfl) T.repr boot_repr (pa_cons (pe_cmpR op_isN (pv 1) pe_non (nomark _)) pa_nil)) (nomark _)) (pss_one (ps_ret pe_bl)) pss_nil)
      (pss_cons (ps_if (pt_cmpR op_notN (pv 1) pe_non (nomark _)) (pss_one (ps_ret (pe_cmpR op_eq (lam (LamX.lamS_by (by decide +kernel)) fun A' outer s H E f' c' hr7 => cnd hr7 (by decide +kernel) (pa_cons (pv 0) pa_nil) (by rfl) (by rfl)) (pe_op op_add_str pe_str (pe_callB (rp rfl) (by rfl) T.repr boot_repr (pa_cons (pv 1) pa_nil))) (nomark _)))) pss_nil)
      (pss_one (ps_ret (pe_cmpR op_eq (pe_callB (rp rfl) (by rfl) T.repr boot_repr (pa_cons (pe_call gN (rm (by decide)) rfl cN.g cN.kp cN.b .nil passL (pa_cons (pv 0) pa_nil)) pa_nil)) (pe_callB (rp rfl) (by rfl) T.repr boot_repr (pa_cons (pv 0) pa_nil)) (nomark _)))))), ?_⟩
    have same_ne : ∀ x : Str, (!decide (V.str x = V.str x)) = false := fun x => by rw [decide_eq_true rfl]; rfl
    have S0 := Since.refl M tb
    refine ⟨_, rfl, v, p, p, d, rfl, hda, fun hn H1 s1 => ?_, fun pl hp H1 z s1 hz => ?_⟩
    · have hda1 := Da.extT (ExtT.ofS s1) _ _ hda
      refine ⟨_, rfl, v, rfl, fault_da hda1 (fun _ H2 s2 => ?_) (fun pl hp => by rw [hn] at hp; cases hp)⟩
      have s02 := s1.trans s2
      have hda2 := Da.extT (ExtT.ofS s02) _ _ hda
      try unfold tNil
      refine rq_bl ?_
      refine ⟨_, rfl, rfl, ?_⟩
      try unfold tNil
      refine rq_bl ?_
      refine ⟨rfl, _, rfl, ?_⟩
      rw [same_ne]
      refine iteF ⟨_, rfl, rfl, _, rfl, ?_⟩
      have e0 : (!decide (V.non = V.non)) = false := by rw [decide_eq_true rfl]; rfl
      rw [e0]
      refine iteF ⟨_, rfl, v, rfl, fault_da hda2 (fun _ H3 s3 => .inl ⟨rfl, ?_⟩) (fun pl hp => by rw [hn] at hp; cases hp)⟩
      have S3 := S0.same (s02.trans s3)
      have hda3 := Da.extT S3.e _ _ hda
      try unfold tNil
      refine rq_da hda3 hfx (by decide) (by decide) ?_
      refine ⟨_, rfl, ?_⟩
      try unfold tNil
      refine rq_da hda3 hfx (by decide) (by decide) ?_
      refine ⟨rfl, ?_⟩
      have e1 : decide (V.str d.shown = V.str d.shown) = true := decide_eq_true rfl
      show Q (.bl (decide (V.str d.shown = V.str d.shown))) H3
      rw [e1]
      exact k _ S3.M S3.e S3.t
    · have sm := placeY_small hp
      have hsl : (nsD pl).shown.length ≤ 1000000 := by
        obtain ⟨h1, h2, h3, h4, h5⟩ := ns_all pl sm.2
        have q := PyData.shown_le_bulk 8 (Nat.le_refl _) (nsD pl) h4
        have e : (nsD pl).bulk = pl.length := h5
        rw [e] at q
        have := sm.1
        omega
      have hda1 := Da.extT (ExtT.ofS s1) _ _ hda
      refine ⟨_, rfl, v, rfl, fault_da hda1 (fun hn => by rw [hn] at hp; cases hp) (fun pl' hp' H2 q s2 hq => ?_)⟩
      have s02 := s1.trans s2
      have z2 := s2 _ _ hz
      try unfold tNil
      have eq0 : decide (V.ref q = V.non) = false := decide_eq_false (by intro h; cases h)
      have ez0 : decide (V.ref z = V.non) = false := decide_eq_false (by intro h; cases h)
      rw [eq0]
      refine rq_bl ?_
      refine ⟨_, rfl, rfl, ?_⟩
      try unfold tNil
      rw [ez0]
      refine rq_bl ?_
      refine ⟨rfl, _, rfl, ?_⟩
      rw [same_ne]
      refine iteF ⟨_, rfl, rfl, _, rfl, ?_⟩
      rw [ez0]
      refine iteT ?_
      have S2 := S0.same s02
      refine ⟨S2.t, fun Ha ea ta => ?_⟩
      have Sb := S2.extn ea ta
      have zb : Ha z = some (.tup (nats pl)) := ea _ _ z2 (by intro _ z; cases z)
      refine ⟨_, rfl, v, rfl, fault_da (Da.extT Sb.e _ _ hda) (fun hn => by rw [hn] at hp; cases hp) (fun pl2 hp2 H3 q3 s3 hq3 => .inr ⟨q3, pl, rfl, ?_, Nat.le_trans sm.1 (by decide), sm.2, fun dd hdd => ⟨0, dd, .ref q3, (nsD pl).shown, R0, rfl, rfl, upd_same, fun H4 s4 => ?_, ?_, fun H4 s4 => ?_⟩⟩)⟩
      · rw [hp] at hp2
        cases hp2
        exact hq3
      · rw [hp] at hp2
        cases hp2
        obtain ⟨f1, f2, f3, f4⟩ := ns_fine sm.2 (Nat.le_trans sm.1 (by decide))
        exact .data (dp_nsD (s4 _ _ ((Same.new hdd) _ _ hq3))) f1 f2 f3 f4
      · exact hsl
      · have SX := ((Sb.same s3).same (Same.new (o := .xd [("place", .ref q3)]) hdd)).same s4
        have zX : H4 z = some (.tup (nats pl)) := s4 _ _ ((Same.new hdd) _ _ (s3 _ _ zb))
        refine ⟨_, rfl, ?_⟩
        refine rq_ns zX sm ?_
        refine ⟨_, _, rfl, rfl, ?_, ?_⟩
        · have : ("yard " : Str).length = 5 := by decide +kernel
          have : (1000005 : Nat) ≤ sizeLine := by decide
          omega
        refine ⟨rfl, ?_⟩
        rw [told_yard]
        have e1 : decide (V.str (("yard " : Str) ++ (nsD pl).shown) = V.str (("yard " : Str) ++ (nsD pl).shown)) = true := decide_eq_true rfl
        show Q (.bl (decide (V.str (("yard " : Str) ++ (nsD pl).shown) = V.str (("yard " : Str) ++ (nsD pl).shown)))) H4
        rw [e1]
        exact k _ SX.M SX.e SX.t
end
end One
end P_PD

section P_PE
set_option linter.all false
set_option maxRecDepth 100000
set_option maxHeartbeats 16000000
namespace One
open PySem PySem.Spec PyProof.Rows L2
theorem cut_whole {xs : List V} {lo hi : Option Int} (h : HT.sIx xs.length 0 lo = 0 ∧ HT.sIx xs.length xs.length hi = xs.length) : cutV xs lo hi = xs := by
  unfold cutV
  rw [h.1, h.2, List.drop_zero, Nat.sub_zero, List.take_length]
theorem rd_slA {K : PySem.W.Frag} {H : Hp} {a : Addr} {xs : List V} {lo hi : Option Int} {Q : VK} (ha : H a = some (.tup xs)) (k : ∀ (H' : Hp) (p : Addr), Same H H' → H' p = some (.tup (cutV xs lo hi)) → Q (.ref p) H') : rSlA K (.ref a) lo hi H Q :=
  ⟨a, xs, rfl, SqT.of ha, fun h => k H a (Same.refl H) (by rw [cut_whole h]; exact ha), fun _ p hp => k _ p (Same.new hp) upd_same⟩
theorem rd_catA {K : PySem.W.Frag} {H : Hp} {a b : Addr} {xs ys : List V} {Q : VK} (ha : H a = some (.tup xs)) (hb : H b = some (.tup ys)) (hl : xs.length + ys.length ≤ sizeLine) (k : ∀ (H' : Hp) (p : Addr), Same H H' → H' p = some (.tup (xs ++ ys)) → Q (.ref p) H') : rCatA K (.ref a) (.ref b) H Q :=
  ⟨a, b, xs, ys, rfl, rfl, SqT.of ha, SqT.of hb, hl, fun e => k H b (Same.refl H) (by rw [e]; exact hb), fun _ e => k H a (Same.refl H) (by rw [e, List.append_nil]; exact ha), fun _ _ p hp => k _ p (Same.new hp) upd_same⟩
theorem cut_take {xs : List V} {i : Nat} (h : i ≤ xs.length) : cutV xs none (some (i : Nat)) = xs.take i := by
  unfold cutV
  rw [HT.sIx_none, HT.sIx_nat, List.drop_zero, Nat.sub_zero, Nat.min_eq_left h]
theorem cut_drop {xs : List V} {i : Nat} (h : i ≤ xs.length) : cutV xs (some (i : Nat)) none = xs.drop i := by
  unfold cutV
  rw [HT.sIx_none, HT.sIx_nat, Nat.min_eq_left h]
  exact List.take_of_length_le (by rw [List.length_drop]; omega)
theorem cut_init {xs : List V} : cutV xs none (some (-1)) = xs.take (xs.length - 1) := by
  unfold cutV
  have e : HT.sIx xs.length xs.length (some (-1)) = xs.length - 1 := by
    show (if (-1 : Int) < 0 then ((-1 : Int) + (xs.length : Int)).toNat else min (-1 : Int).toNat xs.length) = xs.length - 1
    rw [if_pos (by decide)]
    omega
  rw [HT.sIx_none, e, List.drop_zero, Nat.sub_zero]
def shift (k : Nat) (ps : List (Nat × Nat)) : List (Nat × Nat) := ps.map fun p => (p.1 + k, p.2 + k)
abbrev sBs : Stmt := top 37
abbrev nBs : List Str := ["one", "other", "wide", "begin", "end"]
theorem scBs : FnScope nBs ["one", "other"] (defScope sBs) := ⟨rfl, rfl, rfl, by decide +kernel, rfl, by decide +kernel, by decide +kernel⟩
def spBs : Sp := fun vs H Q _ => ∃ (t u : Addr) (as bs : List Addr) (ps qs : List (Nat × Nat)), vs = [.ref t, .ref u] ∧ H t = some (.tup (refs as)) ∧ PL H as ps ∧ H u = some (.tup (refs bs)) ∧ PL H bs qs ∧ ps.length ≤ 200 ∧ qs.length ≤ 200 ∧
  ∀ (H' : Hp) (q : Addr) (cs : List Addr), Same H H' → H' q = some (.tup (refs (as ++ cs))) → PL H' cs (shift (2 * ps.length) qs) → Q (.ref q) H'
section
variable {P : Program} {w : World} {K : PySem.W.Frag} {mg : Str → Option Value} {base : Heap}
theorem ok_bs {f : Addr} {fd : FuncData} (F : Fun K "_law_beside" "_law_beside" sBs f fd) (T : TB mg) : FnOk P w K mg base CX0 1 f fd ["one", "other"] spBs := by
  refine F.ok scBs (fun vs H Q E h => ?_) (fun cdv A outer s H vs Q E hr h => ?_)
  · obtain ⟨t, u, as, bs, ps, qs, rfl, _⟩ := h
    rfl
  · obtain ⟨t, u, as, bs, ps, qs, rfl, ht, hP, hu, hB, lp, lq, k⟩ := h
    have nd := scBs.nd
    refine ⟨_, pss_cons (ps_set (i := 2) nd rfl (Or.inr rfl) (pe_op op_mul pe_int (pe_callB call_len_seq (by rfl) T.len PySem.boot_len (pa_cons (pv 0) pa_nil))))
      (pss_one (ps_ret (pe_op op_catA (pv 0) (pe_tupleOf (by rfl) T.tuple (pe_lc (own := [("begin", 3), ("end", 4)]) (g := (gTup K 2 (gCons (gName 3) (gCons (gName 4) gNil)))) (tt := tYes) (te := (tTup (tCons (tOp (rI0 fun i j => .int (i + j)) (tVar 3) (tVar 2)) (tCons (tOp (rI0 fun i j => .int (i + j)) (tVar 4) (tVar 2)) tNil)))) rfl nd (pi_tup (pv 1)) (blkOk_by (N := nBs) (sc := defScope sBs) (by decide +kernel)) (fun _ _ _ _ _ => pg_tup rfl (pgs_cons (pg_name (i := 3) nd rfl (Or.inl rfl)) (pgs_cons (pg_name (i := 4) nd rfl (Or.inl rfl)) pgs_nil))) (fun _ _ _ _ _ => pts_nil) (fun _ _ _ _ _ => by exact (pe_tup (pa_cons (pe_op op_add (pv 3) (pv 2)) (pa_cons (pe_op op_add (pv 4) (pv 2)) pa_nil))))))))), ?_⟩
    have la : (refs as).length = ps.length := by rw [show (refs as).length = as.length from List.length_map _, hP.len]
    have lb : (refs bs).length = qs.length := by rw [show (refs bs).length = bs.length from List.length_map _, hB.len]
    refine ⟨_, rfl, t, _, rfl, .inr (SqT.of ht), _, _, rfl, rfl, .inl ⟨by decide, by decide⟩, ?_⟩
    rw [la]
    generalize hwd : (fun i j : Int => V.int (i * j)) 2 ((ps.length : Nat) : Int) = wd
    have hwd : wd = V.int ((2 * ps.length : Nat) : Int) := hwd.symm.trans (congrArg V.int (by omega))
    subst hwd
    refine ⟨_, rfl, _, rfl, u, rfl, ⟨_, SqT.of hu⟩, fun Dl hDl => ?_⟩
    have sD := Same.new (o := .lst []) hDl
    refine lc_it (walk_tup (K := K) (a := u) (xs := refs bs)) (fun j H' => (∃ cs : List Addr, H' Dl = some (.lst (refs cs)) ∧ PL H' cs (shift (2 * ps.length) (qs.take j))) ∧ Same H H') ⟨⟨[], upd_same, .nil⟩, sD⟩ (fun j H' _ h => SqT.of (h.2 _ _ hu)) ?_ ?_
    · rintro j x H2 H1 hj ⟨⟨cs, hl, hC⟩, s1⟩ ⟨rfl, hx⟩
      have hx : (refs bs)[j]? = some x := hx
      rw [lb] at hj
      obtain ⟨q, hq⟩ : ∃ q, qs[j]? = some q := ⟨_, List.getElem?_eq_getElem hj⟩
      obtain ⟨b, hb, hqa⟩ := hB.get hq
      rw [show (refs bs)[j]? = bs[j]?.map V.ref from List.getElem?_map, hb] at hx
      cases hx
      have hDb : H Dl = none := hDl
      refine ⟨b, _, rfl, SqT.of (s1 _ _ hqa), rfl, _, _, rfl, _, _, rfl, rfl, ?_⟩
      refine ⟨rfl, yes ⟨_, rfl, _, rfl, _, _, rfl, rfl, _, rfl, _, rfl, _, _, rfl, rfl, two_le, fun c hc => ?_⟩⟩
      have e1 : (fun i j : Int => V.int (i + j)) ((q.1 : Nat) : Int) ((2 * ps.length : Nat) : Int) = V.int ((q.1 + 2 * ps.length : Nat) : Int) := congrArg V.int (by omega)
      have e2 : (fun i j : Int => V.int (i + j)) ((q.2 : Nat) : Int) ((2 * ps.length : Nat) : Int) = V.int ((q.2 + 2 * ps.length : Nat) : Int) := congrArg V.int (by omega)
      have sc := Same.new (o := .tup [(fun i j : Int => V.int (i + j)) ((q.1 : Nat) : Int) ((2 * ps.length : Nat) : Int), (fun i j : Int => V.int (i + j)) ((q.2 : Nat) : Int) ((2 * ps.length : Nat) : Int)]) hc
      have gc : (upd H1 c (.tup [(fun i j : Int => V.int (i + j)) ((q.1 : Nat) : Int) ((2 * ps.length : Nat) : Int), (fun i j : Int => V.int (i + j)) ((q.2 : Nat) : Int) ((2 * ps.length : Nat) : Int)])) c = some (.tup [V.int ((q.1 + 2 * ps.length : Nat) : Int), V.int ((q.2 + 2 * ps.length : Nat) : Int)]) := by rw [upd_same, e1, e2]
      generalize upd H1 c (.tup [(fun i j : Int => V.int (i + j)) ((q.1 : Nat) : Int) ((2 * ps.length : Nat) : Int), (fun i j : Int => V.int (i + j)) ((q.2 : Nat) : Int) ((2 * ps.length : Nat) : Int)]) = HC at sc gc
      have hl3 := sc _ _ hl
      have hC3 := hC.mono (sameT sc)
      have s3 := s1.trans sc
      refine ⟨_, hl3, ?_, ⟨cs ++ [c], ?_, ?_⟩, fun b' o eo => (upd_ne (ne_of_none eo hDb)).trans (s3 _ _ eo)⟩
      · rw [show (refs cs).length = cs.length from List.length_map _, hC.len, show (shift (2 * ps.length) (qs.take j)).length = (qs.take j).length from List.length_map _]
        exact small1000 (by rw [List.length_take]; omega)
      · rw [upd_same, refs_app]
        rfl
      · have k9 : ∀ b xs, HC b = some (.tup xs) → (upd HC Dl (.lst (refs cs ++ [V.ref c]))) b = some (.tup xs) := fun b xs h => (upd_ne (ne_of h hl3 (by intro z; cases z))).trans h
        rw [List.take_succ, hq, Option.toList_some, show shift (2 * ps.length) (qs.take j ++ [q]) = shift (2 * ps.length) (qs.take j) ++ [(q.1 + 2 * ps.length, q.2 + 2 * ps.length)] from List.map_append]
        exact (hC3.mono k9).app (.cons (p := (q.1 + 2 * ps.length, q.2 + 2 * ps.length)) (k9 _ _ gc) .nil)
    · rintro H1 ⟨⟨cs, hl, hC⟩, s1⟩
      rw [lb, show qs.take qs.length = qs from List.take_length] at hC
      refine .inl ⟨Dl, _, rfl, SqL.of hl, fun tb htb => ?_⟩
      have sb := Same.new (o := .tup (refs cs)) htb
      have gb := upd_same (H := H1) (a := tb) (o := .tup (refs cs))
      have lc : (refs cs).length = qs.length := by rw [show (refs cs).length = cs.length from List.length_map _, hC.len, show (shift (2 * ps.length) qs).length = qs.length from List.length_map _]
      have hC := hC.mono (sameT sb)
      generalize upd H1 tb (.tup (refs cs)) = H2 at sb gb hC
      refine rd_catA ((s1.trans sb) _ _ ht) gb (by rw [la, lc]; exact Nat.le_trans (by omega : _ ≤ 400) (by decide)) fun H3 ta s3 ga => ?_
      exact k H3 ta cs (s1.trans (sb.trans s3)) (by rw [refs_app]; exact ga) (hC.mono (sameT s3))
end
end One
end P_PE

section P_PF
set_option linter.all false
set_option maxRecDepth 100000
set_option maxHeartbeats 16000000
namespace One
open PySem PySem.Spec PyProof.Rows L2
/-! ### str(x) of anything -/
def strD : PyData → Str
  | .str x => x
  | d => d.shown
section
variable {X : Cx}
theorem call_strD (hgd : X.A.guards = some []) (hu : X.A.units + 64 < cLine) : CallR X (.type "str") (fun xs H Q => ∃ (v : V) (d : PyData), xs = [v] ∧ Dq H v d ∧ d.showable = true ∧ d.depth ≤ 16 ∧ d.shown.length ≤ sizeLine ∧ Q (.str (strD d)) H) := by
  intro pins s σ H xs us Q I r h
  obtain ⟨v, d, rfl, hd, h1, h3, h4, q⟩ := h
  obtain ⟨u, rfl, e⟩ := vals1 r
  have big : ∀ {a : Addr}, u = .ref a → strD d = d.shown → wpAny (model X.prog X.w) X.A (call (.type "str") [u]) (EP X pins σ Q) X.xe s := fun {a} ea es => by
    obtain ⟨as, hR, hn⟩ := Dq.reads I d _ _ hd e
    subst ea
    exact str_of_reads hR h1 (fun _ => hn) hgd (by omega) (fun _ _ e => e) (fun h' u tk hk => ⟨.str d.shown, H, I.kept hk, ⟨_, rfl⟩, by rw [← es]; exact q⟩) h4
  cases hd with
  | non =>
    cases e
    exact P.str_of_none ⟨.str _, H, I.tok _, ⟨_, rfl⟩, q⟩
  | bl b =>
    cases e
    exact P.str_of_bool ⟨.str _, H, I.tok _, ⟨_, rfl⟩, q⟩
  | int i =>
    obtain ⟨t, rfl⟩ := e
    exact P.str_of_int (of_decide_eq_true h1) ⟨.str _, H, I.tok _, ⟨_, rfl⟩, q⟩
  | str x =>
    obtain ⟨t, rfl⟩ := e
    exact P.str_of_str ⟨.str _, H, I, ⟨_, rfl⟩, q⟩
  | lst a b c =>
    cases e
    exact big rfl rfl
  | tup a b =>
    cases e
    exact big rfl rfl
  | emp a =>
    cases e
    exact big rfl rfl
end
/-- its text is short -/
def OkS (d : PyData) : Prop := Fx (.str (strD d)) 0 60
theorem okS_of {d : PyData} (h : ((strD d).cps.toList.all fun c => decide (c < 16 ^ 8)) = true ∧ (strD d).cps.size ≤ 60) : OkS d := ⟨rfl, Nat.le_refl _, h.1, h.2⟩
theorem okS_int : ∀ i : Int, 0 ≤ i → i < 2000 → OkS (.int i) := by
  have h : ∀ n : Fin 2000, ((strD (.int ((n : Nat) : Int))).cps.toList.all fun c => decide (c < 16 ^ 8)) = true ∧ (strD (.int ((n : Nat) : Int))).cps.size ≤ 60 := by decide +kernel
  intro i h0 h1
  have := h ⟨i.toNat, by omega⟩
  rw [show (((⟨i.toNat, by omega⟩ : Fin 2000) : Nat) : Int) = i by
    show ((i.toNat : Nat) : Int) = i
    omega] at this
  exact okS_of this
theorem okS_one : OkS (.int (-1)) := okS_of (by decide +kernel)
theorem okS_big : OkS (.int (10 ^ 40)) := okS_of (by decide +kernel)
theorem okS_bl (b : Bool) : OkS (.bool b) := okS_of (by cases b <;> decide +kernel)
theorem okS_non : OkS .none := okS_of (by decide +kernel)
theorem okS_str {d : PyData} (h : OkS d) : OkS (.str (strD d)) := h
theorem okS_four : ∀ a b : Nat, a < 4 → b < 4 → OkS (.tuple [.int (a : Nat), .int (b : Nat)]) := by
  have h : ∀ a b : Fin 4, ((strD (.tuple [.int ((a : Nat) : Int), .int ((b : Nat) : Int)])).cps.toList.all fun c => decide (c < 16 ^ 8)) = true ∧ (strD (.tuple [.int ((a : Nat) : Int), .int ((b : Nat) : Int)])).cps.size ≤ 60 := by decide +kernel
  exact fun a b ha hb => okS_of (h ⟨a, ha⟩ ⟨b, hb⟩)
/-! ### sizes, all in all -/
theorem bulk_sub {es ds : List PyData} (h : es.Sublist ds) : PyData.bulkAll es ≤ PyData.bulkAll ds := by
  induction h with
  | slnil => exact Nat.le_refl _
  | cons a _ ih =>
    show _ ≤ a.bulk + 1 + PyData.bulkAll _
    omega
  | cons_cons a _ ih =>
    show a.bulk + 1 + PyData.bulkAll _ ≤ a.bulk + 1 + PyData.bulkAll _
    omega
theorem bulk_perm {es ds : List PyData} (h : es.Perm ds) : PyData.bulkAll es = PyData.bulkAll ds := by
  induction h with
  | nil => rfl
  | cons a _ ih =>
    show a.bulk + 1 + PyData.bulkAll _ = a.bulk + 1 + PyData.bulkAll _
    omega
  | swap a b l =>
    show b.bulk + 1 + (a.bulk + 1 + PyData.bulkAll l) = a.bulk + 1 + (b.bulk + 1 + PyData.bulkAll l)
    omega
  | trans _ _ i1 i2 => exact i1.trans i2
theorem bulk_app : ∀ (ds es : List PyData), PyData.bulkAll (ds ++ es) = PyData.bulkAll ds + PyData.bulkAll es
  | [], es => (Nat.zero_add _).symm
  | d :: ds, es => by
    show d.bulk + 1 + PyData.bulkAll (ds ++ es) = d.bulk + 1 + PyData.bulkAll ds + PyData.bulkAll es
    rw [bulk_app ds es]
    omega
theorem bulk_len : ∀ ds : List PyData, ds.length ≤ PyData.bulkAll ds
  | [] => Nat.le_refl _
  | d :: ds => by
    show ds.length + 1 ≤ d.bulk + 1 + PyData.bulkAll ds
    have := bulk_len ds
    omega
theorem bulk_mem : ∀ {ds : List PyData} {d : PyData}, d ∈ ds → d.bulk + 1 ≤ PyData.bulkAll ds
  | e :: ds, d, h => by
    show _ ≤ e.bulk + 1 + PyData.bulkAll ds
    rcases List.mem_cons.mp h with rfl | h
    · omega
    · have := bulk_mem h
      omega
theorem FxA.all : ∀ {ds : List PyData} {k n : Nat}, FxA ds k n → ∀ d ∈ ds, d.showable = true ∧ d.depth ≤ k ∧ d.leavesShort 48 = true
  | [], _, _, _, d, h => absurd h (by simp)
  | e :: ds, k, n, a, d, h => by
    obtain ⟨h1, h2, h3, h4⟩ := a
    have h1 : (e.showable && PyData.showableAll ds) = true := h1
    have h2 : max e.depth (PyData.depthAll ds) ≤ k := h2
    have h3 : (e.leavesShort 48 && PyData.leavesShortAll 48 ds) = true := h3
    rw [Bool.and_eq_true] at h1 h3
    rcases List.mem_cons.mp h with rfl | h
    · exact ⟨h1.1, by omega, h3.1⟩
    · exact FxA.all (ds := ds) (k := k) (n := PyData.bulkAll ds) ⟨h1.2, by omega, h3.2, Nat.le_refl _⟩ d h
theorem FxA.of : ∀ {ds : List PyData} {k n : Nat}, (∀ d ∈ ds, d.showable = true ∧ d.depth ≤ k ∧ d.leavesShort 48 = true) → PyData.bulkAll ds ≤ n → FxA ds k n
  | [], _, _, _, _ => FxA.nil
  | e :: ds, k, n, h, hb => by
    have hb : e.bulk + 1 + PyData.bulkAll ds ≤ n := hb
    obtain ⟨h1, h2, h3⟩ := h e (List.mem_cons_self ..)
    have a := FxA.cons (d := e) (k := k) (n := e.bulk) ⟨h1, h2, h3, Nat.le_refl _⟩ (FxA.of (ds := ds) (k := k) (n := PyData.bulkAll ds) (fun d hd => h d (List.mem_cons_of_mem _ hd)) (Nat.le_refl _))
    exact ⟨a.sh, a.dp, a.lf, Nat.le_trans a.bk hb⟩
theorem FxA.mem {ds : List PyData} {k n : Nat} (a : FxA ds k n) {d : PyData} (h : d ∈ ds) : Fx d k n := by
  obtain ⟨h1, h2, h3⟩ := a.all d h
  have := bulk_mem h
  have := a.bk
  exact ⟨h1, h2, h3, by omega⟩
theorem FxA.app {ds es : List PyData} {k n m : Nat} (a : FxA ds k n) (b : FxA es k m) : FxA (ds ++ es) k (n + m) := by
  refine FxA.of (fun d hd => (List.mem_append.mp hd).elim (a.all d) (b.all d)) ?_
  have := a.bk
  have := b.bk
  rw [bulk_app]
  omega
theorem FxA.sub {ds es : List PyData} {k n : Nat} (a : FxA ds k n) (h : es.Sublist ds) : FxA es k n := FxA.of (fun d hd => a.all d (h.subset hd)) (Nat.le_trans (bulk_sub h) a.bk)
theorem FxA.perm {ds es : List PyData} {k n : Nat} (a : FxA ds k n) (h : es.Perm ds) : FxA es k n := FxA.of (fun d hd => a.all d (h.mem_iff.mp hd)) (by rw [bulk_perm h]; exact a.bk)
theorem FxA.up {ds : List PyData} {k j n m : Nat} (a : FxA ds k n) (h : k ≤ j) (h2 : n ≤ m) : FxA ds j m := ⟨a.sh, Nat.le_trans a.dp h, a.lf, Nat.le_trans a.bk h2⟩
theorem FxA.len {ds : List PyData} {k n : Nat} (a : FxA ds k n) : ds.length ≤ n := Nat.le_trans (bulk_len ds) a.bk
theorem Fx.items {ds : List PyData} {k n : Nat} (a : Fx (.tuple ds) (k + 1) n) : FxA ds k n := ⟨a.sh, Nat.le_of_succ_le_succ a.dp, a.lf, a.bk⟩
/-! ### pairs whose parts have short texts -/
def Sec (d : PyData) : Prop := ∀ x y, d = .tuple [x, y] → OkS y
def Two (d : PyData) : Prop := ∀ x y, d = .tuple [x, y] → OkS x ∧ OkS y
theorem Two.sec {d : PyData} (h : Two d) : Sec d := fun x y e => (h x y e).2
/-- rows of data -/
def Rw (G : PyData → Prop) (p : Addr) (H : Hp) (xs : List V) (k n : Nat) : Prop := ∃ ds, DaAll p p H xs ds ∧ FxA ds k n ∧ ∀ d ∈ ds, G d
section
variable {G G' : PyData → Prop} {p : Addr} {H H' : Hp} {xs ys : List V} {k n m : Nat}
theorem Rw.extT (h : Rw G p H xs k n) (e : ExtT p p H H') : Rw G p H' xs k n := by
  obtain ⟨ds, a, b, c⟩ := h
  exact ⟨ds, DaAll.extT e _ _ a, b, c⟩
theorem Rw.same (h : Rw G p H xs k n) (e : Same H H') : Rw G p H' xs k n := h.extT (ExtT.ofS e)
theorem Rw.cut (h : Rw G p H xs k n) (lo hi : Option Int) : Rw G p H (cutV xs lo hi) k n := by
  obtain ⟨ds, a, b, c⟩ := h
  unfold cutV
  have sb := (List.take_sublist (HT.sIx xs.length xs.length hi - HT.sIx xs.length 0 lo) (ds.drop (HT.sIx xs.length 0 lo))).trans (List.drop_sublist _ _)
  exact ⟨_, (a.drop _).take _, b.sub sb, fun d hd => c d (sb.subset hd)⟩
theorem Rw.app (h : Rw G p H xs k n) (g : Rw G p H ys k m) : Rw G p H (xs ++ ys) k (n + m) := by
  obtain ⟨ds, a, b, c⟩ := h
  obtain ⟨es, a', b', c'⟩ := g
  exact ⟨_, DaAll.app a' a, b.app b', fun d hd => (List.mem_append.mp hd).elim (c d) (c' d)⟩
theorem Rw.rev (h : Rw G p H xs k n) : Rw G p H xs.reverse k n := by
  obtain ⟨ds, a, b, c⟩ := h
  exact ⟨_, a.rev, b.perm (List.reverse_perm _), fun d hd => c d (List.mem_reverse.mp hd)⟩
theorem Rw.one {v : V} {d : PyData} (h : Da p p H v d) (f : Fx d k n) (g : G d) : Rw G p H [v] k (n + 1) := ⟨[d], .cons h .nil, (FxA.cons f (FxA.nil (n := 0))).up (Nat.le_refl _) (by omega), fun e he => by rw [List.mem_singleton.mp he]; exact g⟩
theorem Rw.len (h : Rw G p H xs k n) : xs.length ≤ n := by
  obtain ⟨ds, a, b, c⟩ := h
  rw [a.len]
  exact b.len
theorem Rw.up {j : Nat} (h : Rw G p H xs k n) (h1 : k ≤ j) (h2 : n ≤ m) : Rw G p H xs j m := by
  obtain ⟨ds, a, b, c⟩ := h
  exact ⟨ds, a, b.up h1 h2, c⟩
theorem Rw.imp (h : Rw G p H xs k n) (f : ∀ d, G d → G' d) : Rw G' p H xs k n := by
  obtain ⟨ds, a, b, c⟩ := h
  exact ⟨ds, a, b, fun d hd => f d (c d hd)⟩
end
end One
end P_PF

section P_PO
set_option linter.all false
set_option maxRecDepth 100000
set_option maxHeartbeats 16000000
namespace One
open PySem PySem.Spec PyProof.Rows L2
def CPowB (i j : Int) : Prop := 0 ≤ j ∧ (Builtin.Int.intBits i : Int) * j ≤ 2 ^ 27
theorem op_powB {X : Cx} : OpR X (binaryOp .Pow) (rI CPowB fun i j => .int (i ^ j.toNat)) := opI fun _ _ _ _ _ _ _ hc q => pow_int hc.1 hc.2 q
theorem powB_40 : CPowB 10 40 := ⟨by decide, by decide +kernel⟩
theorem powB_6 : CPowB 10 6 := ⟨by decide, by decide +kernel⟩
theorem da_new {p c q : Addr} {H : Hp} {n : Nat} {xs : List V} {ds : List PyData} (M : MS H p c n) (hq : H q = none) (h : DaAll p p H xs ds) : Da p p (upd H q (.tup xs)) (.ref q) (.tuple ds) :=
  .tup (M.apart hq) (M.apart hq) upd_same (DaAll.extT (ExtT.ofS (Same.new hq)) _ _ h)
theorem sec2 {a b : PyData} (h : OkS b) : Sec (.tuple [a, b]) := fun x y e => by
  cases e
  exact h
theorem al_cons {R : PyData → Prop} {d : PyData} {ds : List PyData} (a : R d) (b : ∀ e ∈ ds, R e) : ∀ e ∈ d :: ds, R e := fun e he => by
  rcases List.mem_cons.mp he with rfl | he
  · exact a
  · exact b e he
abbrev sOd : Stmt := top 35
abbrev nOd : List Str := ["m", "line", "one", "other", "some"]
theorem scOd : FnScope nOd ["m", "line"] (defScope sOd) := ⟨rfl, rfl, rfl, by decide +kernel, rfl, by decide +kernel, by decide +kernel⟩
def spOd : Sp := fun vs H Q _ => ∃ (p c : Addr) (n : Nat) (v : V) (d : PyData) (k m : Nat), vs = [.ref p, v] ∧ MS H p c n ∧ n ≤ 900000 ∧ Da p p H v d ∧ Fx d (k + 1) m ∧ Sec d ∧ k ≤ 6 ∧ m ≤ 1000 ∧
  ∀ (H' : Hp) (v' : V) (e : PyData), MS H' p c (n + 1) → Ext p H H' → Da p p H' v' e → Fx e (k + 3) (3 * m + 70) → (Two d → Sec e) → Q v' H'
section
variable {P : Program} {w : World} {K : PySem.W.Frag} {mg : Str → Option Value} {base : Heap}
theorem ok_od {f fD : Addr} {fd fdD : FuncData} (F : Fun K "_law_odd" "_law_odd" sOd f fd) (T : TB mg) (hstr : mg "str" = none) (D : Cal K mg "_law_draw" fD fdD ["m", "many"]) (GD : FnOk P w K mg base CX0 1 fD fdD ["m", "many"] spDraw) : FnG P w K mg base CX0 2 f fd ["m", "line"] spOd := by
  refine okG0 F scOd (fun vs H Q E h => ?_) (fun cdv A outer s H vs Q E hgd hr h => ?_)
  · obtain ⟨p, c, n, v, d, k, m, rfl, _⟩ := h
    rfl
  · obtain ⟨p, c, n, v, d, k, m, rfl, M, hn, hda, hfx, hse, hk, hm, kk⟩ := h
    have nd := scOd.nd
    have hr1 : Room 1 _ := hr
    have hu : (A.deeper (envOfC "_law_odd" (defScope sOd) s.heap.objs.size f cdv)).units + 64 < cLine := hr.units
    refine ⟨_, C8.pss_cut (ps_asg (pe_ifExp (PW.pt (pw_and (pt_val (pe_callB call_isi (by rfl) T.isinstance boot_isinstance (pa_cons (pv 1) (pa_cons (pe_bltn (v := .ty "tuple") (by rfl) T.tuple boot_tuple rfl) pa_nil)))) (pw_and1 (pt_cmpR op_eq (pe_callB call_len_seq (by rfl) T.len PySem.boot_len (pa_cons (pv 1) pa_nil)) pe_int (nomark _))))) (pv 1) (pe_tup (pa_cons pe_int (pa_cons pe_int pa_nil)))) (pg_tup rfl (pgs_cons (pg_name (i := 2) nd rfl (Or.inl rfl)) (pgs_cons (pg_name (i := 3) nd rfl (Or.inl rfl)) pgs_nil))))
      (pss_cons (ps_set (i := 4) nd rfl (Or.inl rfl) (pe_lst (pa_cons (pe_tup (pa_cons (pv 3) (pa_cons (pv 2) pa_nil))) (pa_cons (pe_tup (pa_cons (pv 2) (pa_cons (pv 2) pa_nil))) (pa_cons (pe_tup (pa_cons (pv 2) (pa_cons (pv 3) (pa_cons (pv 2) pa_nil)))) (pa_cons (pe_tup (pa_cons (pv 2) pa_nil)) (pa_cons (pe_lstN (pa_cons (pv 2) (pa_cons (pv 3) pa_nil))) (pa_cons pe_non (pa_cons pe_int (pa_cons pe_str (pa_cons (pe_tup pa_nil) (pa_cons (pe_tup (pa_cons (pv 2) (pa_cons pe_bl pa_nil))) pa_nil))))))))))))
      (pss_cons (ps_set (i := 4) nd rfl (Or.inl rfl) (pe_op op_catS (pv 4) (pe_lst (pa_cons (pe_tup (pa_cons pe_bl (pa_cons (pv 3) pa_nil))) (pa_cons (pe_tup (pa_cons (pv 2) (pa_cons pe_non pa_nil))) (pa_cons (pe_tup (pa_cons (pv 2) (pa_cons (pe_callTy (call_strD (by exact hgd) (by exact hu)) (by rfl) hstr (by decide +kernel) (pa_cons (pv 3) pa_nil) (by decide)) pa_nil))) (pa_cons (pe_tup (pa_cons (pv 2) (pa_cons pe_int pa_nil))) (pa_cons (pe_tup (pa_cons (pe_un un_neg pe_int) (pa_cons (pv 3) pa_nil))) (pa_cons (pe_tup (pa_cons (pv 2) (pa_cons (pe_op op_powB pe_int pe_int) pa_nil))) pa_nil)))))))))
      (pss_one (ps_ret (pe_ix ix_list (pe_op op_catS (pv 4) (pe_lst (pa_cons (pe_tup (pa_cons (pe_tup (pa_cons (pv 2) pa_nil)) (pa_cons (pv 3) pa_nil))) (pa_cons pe_dnewK pa_nil)))) (pe_call GD hr1 rfl D.g D.kp D.b .nil pass0 (pa_cons (pv 0) (pa_cons pe_int pa_nil))) (fun _ _ => rfl)))))), ?_⟩
    refine ⟨fun σ H1 => ∃ (x y : V) (dx dy : PyData), σ = [some (.ref p), some v, some x, some y, none] ∧ Same H H1 ∧ Da p p H1 x dx ∧ Da p p H1 y dy ∧ Fx dx k m ∧ Fx dy k m ∧ OkS dy ∧ (Two d → OkS dx), ?_, ?_⟩
    · have kind : (∃ (t : Addr) (xs : List V) (ds : List PyData), v = .ref t ∧ H t = some (.tup xs) ∧ d = .tuple ds ∧ DaAll p p H xs ds) ∨ ∃ Tt, TV H v Tt ∧ isTup Tt = false ∧ (Two d → True) := by
        cases hda with
        | non => exact .inr ⟨_, .non, by decide, fun _ => trivial⟩
        | bl b => exact .inr ⟨_, .bl b, by decide, fun _ => trivial⟩
        | int i => exact .inr ⟨_, .int i, by decide, fun _ => trivial⟩
        | str x => exact .inr ⟨_, .str x, by decide, fun _ => trivial⟩
        | lst a b c f g => exact .inr ⟨_, .lst f, by decide, fun _ => trivial⟩
        | emp a b f => exact .inr ⟨_, .dct f, by decide, fun _ => trivial⟩
        | tup a b f g => exact .inl ⟨_, _, _, rfl, f, rfl, g⟩
      have fk : ∀ b : Int, 0 ≤ b → b < 2 → Fx (.int b) k m := fun b h0 h1 => by
        rcases (by omega : b = 0 ∨ b = 1) with rfl | rfl
        · exact (⟨by decide +kernel, by decide +kernel, by decide +kernel, by decide +kernel⟩ : Fx (.int 0) 0 0).up (Nat.zero_le _) (Nat.zero_le _)
        · exact (⟨by decide +kernel, by decide +kernel, by decide +kernel, by decide +kernel⟩ : Fx (.int 1) 0 0).up (Nat.zero_le _) (Nat.zero_le _)
      rcases kind with ⟨t, xs, ds, rfl, ht, rfl, hds⟩ | ⟨Tt, hv, hT, _⟩
      · refine ⟨_, rfl, _, _, _, _, _, rfl, .ty _, (TV.tup ht).tyx, (TV.tup ht).kTup, _, rfl, ?_⟩
        refine iteT ⟨_, rfl, t, _, rfl, .inr (SqT.of ht), rfl, ?_⟩
        have hle := hds.len
        by_cases h2 : xs.length = 2
        · match xs, ds, hds, h2, ht with
          | [x, y], [dx, dy], .cons hx (.cons hy .nil), _, ht =>
            refine ⟨_, rfl, iteT ⟨_, rfl, t, _, rfl, SqT.of ht, rfl, _, _, rfl, _, _, rfl, rfl, ?_⟩⟩
            have fi := hfx.items
            exact ⟨x, y, dx, dy, rfl, Same.refl H, hx, hy, fi.mem (List.mem_cons_self ..), fi.mem (List.mem_cons_of_mem _ (List.mem_cons_self ..)), hse _ _ rfl, fun h => (h _ _ rfl).1⟩
        · have e2 : decide (V.int ((xs.length : Nat) : Int) = V.int 2) = false := decide_eq_false fun z => h2 (by have := V.int.inj z; omega)
          refine ⟨_, rfl, ?_⟩
          rw [e2]
          refine iteF ⟨two_le, fun z hz => ⟨z, _, rfl, SqT.of upd_same, rfl, _, _, rfl, _, _, rfl, rfl, ?_⟩⟩
          exact ⟨_, _, .int 0, .int 1, rfl, Same.new hz, .int _, .int _, fk _ (by decide) (by decide), fk _ (by decide) (by decide), okS_int _ (by decide) (by decide), fun _ => okS_int _ (by decide) (by decide)⟩
      · refine ⟨_, rfl, _, _, _, _, _, rfl, .ty _, hv.tyx, hv.kTup, _, rfl, ?_⟩
        rw [hT]
        refine iteF (iteF ⟨two_le, fun z hz => ⟨z, _, rfl, SqT.of upd_same, rfl, _, _, rfl, _, _, rfl, rfl, ?_⟩⟩)
        exact ⟨_, _, .int 0, .int 1, rfl, Same.new hz, .int _, .int _, fk _ (by decide) (by decide), fk _ (by decide) (by decide), okS_int _ (by decide) (by decide), fun _ => okS_int _ (by decide) (by decide)⟩
    rintro σ H1 ⟨x, y, dx, dy, rfl, s01, hx, hy, fx, fy, oy, ox⟩
    have M1 := M.keep s01
    refine ⟨_, rfl, _, rfl, two_le, fun qA hA => ?_⟩
    have sA := Same.new (o := .tup [y, x]) hA
    have xA := da_new (ds := [dy, dx]) M1 hA (xs := [y, x]) (.cons (Da.extT (ExtT.ofS (Same.refl _)) _ _ hy) (.cons (Da.extT (ExtT.ofS (Same.refl _)) _ _ hx) .nil))
    generalize upd H1 qA (.tup [y, x]) = H_A at sA xA
    have M_A := M1.keep sA
    refine ⟨_, rfl, _, rfl, two_le, fun qB hB => ?_⟩
    have sB := Same.new (o := .tup [x, x]) hB
    have xB := da_new (ds := [dx, dx]) M_A hB (xs := [x, x]) (.cons (Da.extT (ExtT.ofS sA) _ _ hx) (.cons (Da.extT (ExtT.ofS sA) _ _ hx) .nil))
    generalize upd H_A qB (.tup [x, x]) = H_B at sB xB
    have M_B := M_A.keep sB
    refine ⟨_, rfl, _, rfl, _, rfl, (by show 3 ≤ sizeLine; decide), fun qC hC => ?_⟩
    have sC := Same.new (o := .tup [x, y, x]) hC
    have xC := da_new (ds := [dx, dy, dx]) M_B hC (xs := [x, y, x]) (.cons (Da.extT (ExtT.ofS (sA.trans sB)) _ _ hx) (.cons (Da.extT (ExtT.ofS (sA.trans sB)) _ _ hy) (.cons (Da.extT (ExtT.ofS (sA.trans sB)) _ _ hx) .nil)))
    generalize upd H_B qC (.tup [x, y, x]) = H_C at sC xC
    have M_C := M_B.keep sC
    refine ⟨_, rfl, (by show 1 ≤ sizeLine; decide), fun qD hD => ?_⟩
    have sD := Same.new (o := .tup [x]) hD
    have xD := da_new (ds := [dx]) M_C hD (xs := [x]) (.cons (Da.extT (ExtT.ofS (sA.trans (sB.trans sC))) _ _ hx) .nil)
    generalize upd H_C qD (.tup [x]) = H_D at sD xD
    have M_D := M_C.keep sD
    refine ⟨_, rfl, _, rfl, two_le, fun qE nE hE => ?_⟩
    have sE := Same.new (o := .lst [x, y]) hE
    have xE : Da p p (upd H_D qE (.lst [x, y])) (.ref qE) (.list [dx, dy]) := .lst (M_D.apart hE) (M_D.apart hE) nE upd_same (DaAll.extT (ExtT.ofS sE) _ _ (.cons (Da.extT (ExtT.ofS (sA.trans (sB.trans (sC.trans sD)))) _ _ hx) (.cons (Da.extT (ExtT.ofS (sA.trans (sB.trans (sC.trans sD)))) _ _ hy) .nil)))
    generalize upd H_D qE (.lst [x, y]) = H_E at sE xE
    have M_E := M_D.keep sE
    refine ⟨Nat.zero_le _, fun qI hI => ?_⟩
    have sI := Same.new (o := .tup []) hI
    have xI := da_new (ds := []) M_E hI (xs := []) .nil
    generalize upd H_E qI (.tup []) = H_I at sI xI
    have M_I := M_E.keep sI
    refine ⟨_, rfl, two_le, fun qJ hJ => ?_⟩
    have sJ := Same.new (o := .tup [x, V.bl true]) hJ
    have xJ := da_new (ds := [dx, .bool true]) M_I hJ (xs := [x, V.bl true]) (.cons (Da.extT (ExtT.ofS (sA.trans (sB.trans (sC.trans (sD.trans (sE.trans sI)))))) _ _ hx) (.cons (.bl true) .nil))
    generalize upd H_I qJ (.tup [x, V.bl true]) = H_J at sJ xJ
    have M_J := M_I.keep sJ
    refine ⟨(by show 10 ≤ sizeLine; decide), fun qL1 hL1 => ?_⟩
    have sL1 := Same.new (o := .lst [V.ref qA, V.ref qB, V.ref qC, V.ref qD, V.ref qE, V.non, V.int 5, V.str "0a-0b", V.ref qI, V.ref qJ]) hL1
    have gL1 := upd_same (H := H_J) (a := qL1) (o := .lst [V.ref qA, V.ref qB, V.ref qC, V.ref qD, V.ref qE, V.non, V.int 5, V.str "0a-0b", V.ref qI, V.ref qJ])
    have oL1 := M_J.apart hL1
    generalize upd H_J qL1 (.lst [V.ref qA, V.ref qB, V.ref qC, V.ref qD, V.ref qE, V.non, V.int 5, V.str "0a-0b", V.ref qI, V.ref qJ]) = H_L1 at sL1 gL1
    have M_L1 := M_J.keep sL1
    refine ⟨_, rfl, _, rfl, two_le, fun qK2 hK2 => ?_⟩
    have sK2 := Same.new (o := .tup [V.bl false, y]) hK2
    have xK2 := da_new (ds := [.bool false, dy]) M_L1 hK2 (xs := [V.bl false, y]) (.cons (.bl false) (.cons (Da.extT (ExtT.ofS (sA.trans (sB.trans (sC.trans (sD.trans (sE.trans (sI.trans (sJ.trans sL1)))))))) _ _ hy) .nil))
    generalize upd H_L1 qK2 (.tup [V.bl false, y]) = H_K2 at sK2 xK2
    have M_K2 := M_L1.keep sK2
    refine ⟨_, rfl, two_le, fun qL hL => ?_⟩
    have sL := Same.new (o := .tup [x, V.non]) hL
    have xL := da_new (ds := [dx, .none]) M_K2 hL (xs := [x, V.non]) (.cons (Da.extT (ExtT.ofS (sA.trans (sB.trans (sC.trans (sD.trans (sE.trans (sI.trans (sJ.trans (sL1.trans sK2))))))))) _ _ hx) (.cons (.non) .nil))
    generalize upd H_K2 qL (.tup [x, V.non]) = H_L at sL xL
    have M_L := M_K2.keep sL
    refine ⟨_, rfl, _, rfl, y, dy, rfl, Da.q _ _ (Da.extT (ExtT.ofS (sA.trans (sB.trans (sC.trans (sD.trans (sE.trans (sI.trans (sJ.trans (sL1.trans (sK2.trans sL)))))))))) _ _ hy), fy.sh, Nat.le_trans fy.dp (by omega), Nat.le_trans (fy.short (by omega)) (by decide), ?_⟩
    refine ⟨two_le, fun qS hS => ?_⟩
    have sS := Same.new (o := .tup [x, V.str (strD dy)]) hS
    have xS := da_new (ds := [dx, .str (strD dy)]) M_L hS (xs := [x, V.str (strD dy)]) (.cons (Da.extT (ExtT.ofS (sA.trans (sB.trans (sC.trans (sD.trans (sE.trans (sI.trans (sJ.trans (sL1.trans (sK2.trans sL)))))))))) _ _ hx) (.cons (.str _) .nil))
    generalize upd H_L qS (.tup [x, V.str (strD dy)]) = H_S at sS xS
    have M_S := M_L.keep sS
    refine ⟨_, rfl, two_le, fun qT hT => ?_⟩
    have sT := Same.new (o := .tup [x, V.int 160]) hT
    have xT := da_new (ds := [dx, .int 160]) M_S hT (xs := [x, V.int 160]) (.cons (Da.extT (ExtT.ofS (sA.trans (sB.trans (sC.trans (sD.trans (sE.trans (sI.trans (sJ.trans (sL1.trans (sK2.trans (sL.trans sS))))))))))) _ _ hx) (.cons (.int 160) .nil))
    generalize upd H_S qT (.tup [x, V.int 160]) = H_T at sT xT
    have M_T := M_S.keep sT
    refine ⟨_, rfl, _, rfl, two_le, fun qU hU => ?_⟩
    have sU := Same.new (o := .tup [V.int (-1), y]) hU
    have xU := da_new (ds := [.int (-1), dy]) M_T hU (xs := [V.int (-1), y]) (.cons (.int (-1)) (.cons (Da.extT (ExtT.ofS (sA.trans (sB.trans (sC.trans (sD.trans (sE.trans (sI.trans (sJ.trans (sL1.trans (sK2.trans (sL.trans (sS.trans sT)))))))))))) _ _ hy) .nil))
    generalize upd H_T qU (.tup [V.int (-1), y]) = H_U at sU xU
    have M_U := M_T.keep sU
    refine ⟨_, rfl, _, _, rfl, rfl, powB_40, two_le, fun qW hW => ?_⟩
    have sW := Same.new (o := .tup [x, (fun i j : Int => V.int (i ^ j.toNat)) 10 40]) hW
    have xW := da_new (ds := [dx, .int (10 ^ 40)]) M_U hW (xs := [x, (fun i j : Int => V.int (i ^ j.toNat)) 10 40]) (.cons (Da.extT (ExtT.ofS (sA.trans (sB.trans (sC.trans (sD.trans (sE.trans (sI.trans (sJ.trans (sL1.trans (sK2.trans (sL.trans (sS.trans (sT.trans sU))))))))))))) _ _ hx) (.cons (.int (10 ^ 40)) .nil))
    generalize upd H_U qW (.tup [x, (fun i j : Int => V.int (i ^ j.toNat)) 10 40]) = H_W at sW xW
    have M_W := M_U.keep sW
    refine ⟨(by show 6 ≤ sizeLine; decide), fun qL2 hL2 => ?_⟩
    have sL2 := Same.new (o := .lst [V.ref qK2, V.ref qL, V.ref qS, V.ref qT, V.ref qU, V.ref qW]) hL2
    have gL2 := upd_same (H := H_W) (a := qL2) (o := .lst [V.ref qK2, V.ref qL, V.ref qS, V.ref qT, V.ref qU, V.ref qW])
    have oL2 := M_W.apart hL2
    generalize upd H_W qL2 (.lst [V.ref qK2, V.ref qL, V.ref qS, V.ref qT, V.ref qU, V.ref qW]) = H_L2 at sL2 gL2
    have M_L2 := M_W.keep sL2
    refine ⟨qL1, qL2, _, _, rfl, rfl, SqL.of ((sK2.trans (sL.trans (sS.trans (sT.trans (sU.trans (sW.trans sL2)))))) _ _ gL1), gL2, Nat.le_of_lt (small1000 (by show 16 ≤ 1000; decide)), fun qL3 hL3 => ?_⟩
    have sL3 := Same.new (o := .lst ([V.ref qA, V.ref qB, V.ref qC, V.ref qD, V.ref qE, V.non, V.int 5, V.str "0a-0b", V.ref qI, V.ref qJ] ++ [V.ref qK2, V.ref qL, V.ref qS, V.ref qT, V.ref qU, V.ref qW])) hL3
    have gL3 := upd_same (H := H_L2) (a := qL3) (o := .lst ([V.ref qA, V.ref qB, V.ref qC, V.ref qD, V.ref qE, V.non, V.int 5, V.str "0a-0b", V.ref qI, V.ref qJ] ++ [V.ref qK2, V.ref qL, V.ref qS, V.ref qT, V.ref qU, V.ref qW]))
    have oL3 := M_L2.apart hL3
    have M_L3 := M_L2.keep sL3
    generalize upd H_L2 qL3 (.lst ([V.ref qA, V.ref qB, V.ref qC, V.ref qD, V.ref qE, V.non, V.int 5, V.str "0a-0b", V.ref qI, V.ref qJ] ++ [V.ref qK2, V.ref qL, V.ref qS, V.ref qT, V.ref qU, V.ref qW])) = H_L3 at sL3 gL3 M_L3
    have gL3 : H_L3 qL3 = some (.lst [V.ref qA, V.ref qB, V.ref qC, V.ref qD, V.ref qE, V.non, V.int 5, V.str "0a-0b", V.ref qI, V.ref qJ, V.ref qK2, V.ref qL, V.ref qS, V.ref qT, V.ref qU, V.ref qW]) := gL3
    refine ⟨_, rfl, _, rfl, (by show 1 ≤ sizeLine; decide), fun qO1 hO1 => ?_⟩
    have sO1 := Same.new (o := .tup [x]) hO1
    have xO1 := da_new (ds := [dx]) M_L3 hO1 (xs := [x]) (.cons (Da.extT (ExtT.ofS (sA.trans (sB.trans (sC.trans (sD.trans (sE.trans (sI.trans (sJ.trans (sL1.trans (sK2.trans (sL.trans (sS.trans (sT.trans (sU.trans (sW.trans (sL2.trans sL3)))))))))))))))) _ _ hx) .nil)
    generalize upd H_L3 qO1 (.tup [x]) = H_O1 at sO1 xO1
    have M_O1 := M_L3.keep sO1
    have xO1' := xO1
    refine ⟨_, rfl, two_le, fun qO hO => ?_⟩
    have sO := Same.new (o := .tup [V.ref qO1, y]) hO
    have xO := da_new (ds := [.tuple [dx], dy]) M_O1 hO (xs := [V.ref qO1, y]) (.cons xO1 (.cons (Da.extT (ExtT.ofS (sA.trans (sB.trans (sC.trans (sD.trans (sE.trans (sI.trans (sJ.trans (sL1.trans (sK2.trans (sL.trans (sS.trans (sT.trans (sU.trans (sW.trans (sL2.trans (sL3.trans sO1))))))))))))))))) _ _ hy) .nil))
    generalize upd H_O1 qO (.tup [V.ref qO1, y]) = H_O at sO xO
    have M_O := M_O1.keep sO
    refine fun qN hN => ?_
    have sN := Same.new (o := .dK []) hN
    have xN : Da p p (upd H_O qN (.dK [])) (.ref qN) (.dict []) := .emp (M_O.apart hN) (M_O.apart hN) upd_same
    generalize upd H_O qN (.dK []) = H_N at sN xN
    have M_N := M_O.keep sN
    refine ⟨two_le, fun qL4 hL4 => ?_⟩
    have sL4 := Same.new (o := .lst [V.ref qO, V.ref qN]) hL4
    have gL4 := upd_same (H := H_N) (a := qL4) (o := .lst [V.ref qO, V.ref qN])
    have oL4 := M_N.apart hL4
    generalize upd H_N qL4 (.lst [V.ref qO, V.ref qN]) = H_L4 at sL4 gL4
    have M_L4 := M_N.keep sL4
    refine ⟨qL3, qL4, _, _, rfl, rfl, SqL.of ((sO1.trans (sO.trans (sN.trans sL4))) _ _ gL3), gL4, Nat.le_of_lt (small1000 (by show 18 ≤ 1000; decide)), fun qL5 hL5 => ?_⟩
    have sL5 := Same.new (o := .lst ([V.ref qA, V.ref qB, V.ref qC, V.ref qD, V.ref qE, V.non, V.int 5, V.str "0a-0b", V.ref qI, V.ref qJ, V.ref qK2, V.ref qL, V.ref qS, V.ref qT, V.ref qU, V.ref qW] ++ [V.ref qO, V.ref qN])) hL5
    have gL5 := upd_same (H := H_L4) (a := qL5) (o := .lst ([V.ref qA, V.ref qB, V.ref qC, V.ref qD, V.ref qE, V.non, V.int 5, V.str "0a-0b", V.ref qI, V.ref qJ, V.ref qK2, V.ref qL, V.ref qS, V.ref qT, V.ref qU, V.ref qW] ++ [V.ref qO, V.ref qN]))
    have oL5 := M_L4.apart hL5
    have M_L5 := M_L4.keep sL5
    generalize upd H_L4 qL5 (.lst ([V.ref qA, V.ref qB, V.ref qC, V.ref qD, V.ref qE, V.non, V.int 5, V.str "0a-0b", V.ref qI, V.ref qJ, V.ref qK2, V.ref qL, V.ref qS, V.ref qT, V.ref qU, V.ref qW] ++ [V.ref qO, V.ref qN])) = H_L5 at sL5 gL5 M_L5
    have gL5 : H_L5 qL5 = some (.lst [V.ref qA, V.ref qB, V.ref qC, V.ref qD, V.ref qE, V.non, V.int 5, V.str "0a-0b", V.ref qI, V.ref qJ, V.ref qK2, V.ref qL, V.ref qS, V.ref qT, V.ref qU, V.ref qW, V.ref qO, V.ref qN]) := gL5
    have yA := Da.extT (ExtT.ofS (sB.trans (sC.trans (sD.trans (sE.trans (sI.trans (sJ.trans (sL1.trans (sK2.trans (sL.trans (sS.trans (sT.trans (sU.trans (sW.trans (sL2.trans (sL3.trans (sO1.trans (sO.trans (sN.trans (sL4.trans sL5)))))))))))))))))))) _ _ xA
    have yB := Da.extT (ExtT.ofS (sC.trans (sD.trans (sE.trans (sI.trans (sJ.trans (sL1.trans (sK2.trans (sL.trans (sS.trans (sT.trans (sU.trans (sW.trans (sL2.trans (sL3.trans (sO1.trans (sO.trans (sN.trans (sL4.trans sL5))))))))))))))))))) _ _ xB
    have yC := Da.extT (ExtT.ofS (sD.trans (sE.trans (sI.trans (sJ.trans (sL1.trans (sK2.trans (sL.trans (sS.trans (sT.trans (sU.trans (sW.trans (sL2.trans (sL3.trans (sO1.trans (sO.trans (sN.trans (sL4.trans sL5)))))))))))))))))) _ _ xC
    have yD := Da.extT (ExtT.ofS (sE.trans (sI.trans (sJ.trans (sL1.trans (sK2.trans (sL.trans (sS.trans (sT.trans (sU.trans (sW.trans (sL2.trans (sL3.trans (sO1.trans (sO.trans (sN.trans (sL4.trans sL5))))))))))))))))) _ _ xD
    have yE := Da.extT (ExtT.ofS (sI.trans (sJ.trans (sL1.trans (sK2.trans (sL.trans (sS.trans (sT.trans (sU.trans (sW.trans (sL2.trans (sL3.trans (sO1.trans (sO.trans (sN.trans (sL4.trans sL5)))))))))))))))) _ _ xE
    have yI := Da.extT (ExtT.ofS (sJ.trans (sL1.trans (sK2.trans (sL.trans (sS.trans (sT.trans (sU.trans (sW.trans (sL2.trans (sL3.trans (sO1.trans (sO.trans (sN.trans (sL4.trans sL5))))))))))))))) _ _ xI
    have yJ := Da.extT (ExtT.ofS (sL1.trans (sK2.trans (sL.trans (sS.trans (sT.trans (sU.trans (sW.trans (sL2.trans (sL3.trans (sO1.trans (sO.trans (sN.trans (sL4.trans sL5)))))))))))))) _ _ xJ
    have yK2 := Da.extT (ExtT.ofS (sL.trans (sS.trans (sT.trans (sU.trans (sW.trans (sL2.trans (sL3.trans (sO1.trans (sO.trans (sN.trans (sL4.trans sL5)))))))))))) _ _ xK2
    have yL := Da.extT (ExtT.ofS (sS.trans (sT.trans (sU.trans (sW.trans (sL2.trans (sL3.trans (sO1.trans (sO.trans (sN.trans (sL4.trans sL5))))))))))) _ _ xL
    have yS := Da.extT (ExtT.ofS (sT.trans (sU.trans (sW.trans (sL2.trans (sL3.trans (sO1.trans (sO.trans (sN.trans (sL4.trans sL5)))))))))) _ _ xS
    have yT := Da.extT (ExtT.ofS (sU.trans (sW.trans (sL2.trans (sL3.trans (sO1.trans (sO.trans (sN.trans (sL4.trans sL5))))))))) _ _ xT
    have yU := Da.extT (ExtT.ofS (sW.trans (sL2.trans (sL3.trans (sO1.trans (sO.trans (sN.trans (sL4.trans sL5)))))))) _ _ xU
    have yW := Da.extT (ExtT.ofS (sL2.trans (sL3.trans (sO1.trans (sO.trans (sN.trans (sL4.trans sL5))))))) _ _ xW
    have yO := Da.extT (ExtT.ofS (sN.trans (sL4.trans sL5))) _ _ xO
    have yN := Da.extT (ExtT.ofS (sL4.trans sL5)) _ _ xN
    have all : DaAll p p H_L5 [V.ref qA, V.ref qB, V.ref qC, V.ref qD, V.ref qE, V.non, V.int 5, V.str "0a-0b", V.ref qI, V.ref qJ, V.ref qK2, V.ref qL, V.ref qS, V.ref qT, V.ref qU, V.ref qW, V.ref qO, V.ref qN] [.tuple [dy, dx], .tuple [dx, dx], .tuple [dx, dy, dx], .tuple [dx], .list [dx, dy], .none, .int 5, .str "0a-0b", .tuple [], .tuple [dx, .bool true], .tuple [.bool false, dy], .tuple [dx, .none], .tuple [dx, .str (strD dy)], .tuple [dx, .int 160], .tuple [.int (-1), dy], .tuple [dx, .int (10 ^ 40)], .tuple [.tuple [dx], dy], .dict []] := .cons yA (.cons yB (.cons yC (.cons yD (.cons yE (.cons .non (.cons (.int 5) (.cons (.str "0a-0b") (.cons yI (.cons yJ (.cons yK2 (.cons yL (.cons yS (.cons yT (.cons yU (.cons yW (.cons yO (.cons yN (.nil))))))))))))))))))
    have fit : ∀ e ∈ ([.tuple [dy, dx], .tuple [dx, dx], .tuple [dx, dy, dx], .tuple [dx], .list [dx, dy], .none, .int 5, .str "0a-0b", .tuple [], .tuple [dx, .bool true], .tuple [.bool false, dy], .tuple [dx, .none], .tuple [dx, .str (strD dy)], .tuple [dx, .int 160], .tuple [.int (-1), dy], .tuple [dx, .int (10 ^ 40)], .tuple [.tuple [dx], dy], .dict []] : List PyData), Fx e (k + 3) (3 * m + 70) ∧ (Two d → Sec e) := by
      refine al_cons ⟨(show Fx _ _ _ from ((FxA.cons fy (FxA.cons fx (FxA.nil (n := 0)))).tup).up (by omega) (by omega)), fun h => sec2 (ox h)⟩ ?_
      refine al_cons ⟨(show Fx _ _ _ from ((FxA.cons fx (FxA.cons fx (FxA.nil (n := 0)))).tup).up (by omega) (by omega)), fun h => sec2 (ox h)⟩ ?_
      refine al_cons ⟨(show Fx _ _ _ from ((FxA.cons fx (FxA.cons fy (FxA.cons fx (FxA.nil (n := 0))))).tup).up (by omega) (by omega)), fun _ a b e => by cases e⟩ ?_
      refine al_cons ⟨(show Fx _ _ _ from ((FxA.cons fx (FxA.nil (n := 0))).tup).up (by omega) (by omega)), fun _ a b e => by cases e⟩ ?_
      refine al_cons ⟨(show Fx _ _ _ from ((FxA.cons fx (FxA.cons fy (FxA.nil (n := 0)))).lst).up (by omega) (by omega)), fun _ a b e => by cases e⟩ ?_
      refine al_cons ⟨((⟨by decide +kernel, by decide +kernel, by decide +kernel, by decide +kernel⟩ : Fx (.none) 1 10).up (by omega) (by omega)), fun _ a b e => by cases e⟩ ?_
      refine al_cons ⟨((⟨by decide +kernel, by decide +kernel, by decide +kernel, by decide +kernel⟩ : Fx (.int 5) 1 10).up (by omega) (by omega)), fun _ a b e => by cases e⟩ ?_
      refine al_cons ⟨((⟨by decide +kernel, by decide +kernel, by decide +kernel, by decide +kernel⟩ : Fx (.str "0a-0b") 1 10).up (by omega) (by omega)), fun _ a b e => by cases e⟩ ?_
      refine al_cons ⟨((⟨by decide +kernel, by decide +kernel, by decide +kernel, by decide +kernel⟩ : Fx (.tuple []) 1 10).up (by omega) (by omega)), fun _ a b e => by cases e⟩ ?_
      refine al_cons ⟨(show Fx _ _ _ from ((FxA.cons fx (FxA.cons ((⟨by decide +kernel, by decide +kernel, by decide +kernel, by decide +kernel⟩ : Fx (.bool true) 0 0).up (Nat.zero_le _) (Nat.le_refl _)) (FxA.nil (n := 0)))).tup).up (by omega) (by omega)), fun _ => sec2 (okS_bl _)⟩ ?_
      refine al_cons ⟨(show Fx _ _ _ from ((FxA.cons ((⟨by decide +kernel, by decide +kernel, by decide +kernel, by decide +kernel⟩ : Fx (.bool false) 0 0).up (Nat.zero_le _) (Nat.le_refl _)) (FxA.cons fy (FxA.nil (n := 0)))).tup).up (by omega) (by omega)), fun _ => sec2 oy⟩ ?_
      refine al_cons ⟨(show Fx _ _ _ from ((FxA.cons fx (FxA.cons ((⟨by decide +kernel, by decide +kernel, by decide +kernel, by decide +kernel⟩ : Fx .none 0 0).up (Nat.zero_le _) (Nat.le_refl _)) (FxA.nil (n := 0)))).tup).up (by omega) (by omega)), fun _ => sec2 okS_non⟩ ?_
      refine al_cons ⟨(show Fx _ _ _ from ((FxA.cons fx (FxA.cons (oy.up (Nat.zero_le k) (Nat.le_refl 60)) (FxA.nil (n := 0)))).tup).up (by omega) (by omega)), fun _ => sec2 (okS_str oy)⟩ ?_
      refine al_cons ⟨(show Fx _ _ _ from ((FxA.cons fx (FxA.cons ((⟨by decide +kernel, by decide +kernel, by decide +kernel, by decide +kernel⟩ : Fx (.int 160) 0 0).up (Nat.zero_le _) (Nat.le_refl _)) (FxA.nil (n := 0)))).tup).up (by omega) (by omega)), fun _ => sec2 (okS_int _ (by decide) (by decide))⟩ ?_
      refine al_cons ⟨(show Fx _ _ _ from ((FxA.cons ((⟨by decide +kernel, by decide +kernel, by decide +kernel, by decide +kernel⟩ : Fx (.int (-1)) 0 0).up (Nat.zero_le _) (Nat.le_refl _)) (FxA.cons fy (FxA.nil (n := 0)))).tup).up (by omega) (by omega)), fun _ => sec2 oy⟩ ?_
      refine al_cons ⟨(show Fx _ _ _ from ((FxA.cons fx (FxA.cons ((⟨by decide +kernel, by decide +kernel, by decide +kernel, by decide +kernel⟩ : Fx (.int (10 ^ 40)) 0 0).up (Nat.zero_le _) (Nat.le_refl _)) (FxA.nil (n := 0)))).tup).up (by omega) (by omega)), fun _ => sec2 okS_big⟩ ?_
      refine al_cons ⟨(show Fx _ _ _ from ((FxA.cons (FxA.cons fx (FxA.nil (n := 0))).tup (FxA.cons (fy.up (Nat.le_succ _) (Nat.le_refl _)) (FxA.nil (n := 0)))).tup).up (by omega) (by omega)), fun _ => sec2 oy⟩ ?_
      refine al_cons ⟨((⟨by decide +kernel, by decide +kernel, by decide +kernel, by decide +kernel⟩ : Fx (.dict []) 1 10).up (by omega) (by omega)), fun _ a b e => by cases e⟩ ?_
      exact fun e h => absurd h (by simp)
    generalize hds : ([.tuple [dy, dx], .tuple [dx, dx], .tuple [dx, dy, dx], .tuple [dx], .list [dx, dy], .none, .int 5, .str "0a-0b", .tuple [], .tuple [dx, .bool true], .tuple [.bool false, dy], .tuple [dx, .none], .tuple [dx, .str (strD dy)], .tuple [dx, .int 160], .tuple [.int (-1), dy], .tuple [dx, .int (10 ^ 40)], .tuple [.tuple [dx], dy], .dict []] : List PyData) = ds at all fit
    have gL5 : H_L5 qL5 = some (.lst [V.ref qA, V.ref qB, V.ref qC, V.ref qD, V.ref qE, V.non, V.int 5, V.str "0a-0b", V.ref qI, V.ref qJ, V.ref qK2, V.ref qL, V.ref qS, V.ref qT, V.ref qU, V.ref qW, V.ref qO, V.ref qN]) := gL5
    have l18 : ([V.ref qA, V.ref qB, V.ref qC, V.ref qD, V.ref qE, V.non, V.int 5, V.str "0a-0b", V.ref qI, V.ref qJ, V.ref qK2, V.ref qL, V.ref qS, V.ref qT, V.ref qU, V.ref qW, V.ref qO, V.ref qN] : List V).length = 18 := rfl
    generalize ([V.ref qA, V.ref qB, V.ref qC, V.ref qD, V.ref qE, V.non, V.int 5, V.str "0a-0b", V.ref qI, V.ref qJ, V.ref qK2, V.ref qL, V.ref qS, V.ref qT, V.ref qU, V.ref qW, V.ref qO, V.ref qN] : List V) = xs at all gL5 l18
    refine ⟨_, rfl, p, c, _, 18, rfl, M_L5, by omega, by decide, by decide, fun HE r ME eE r0 rE => ?_⟩
    have hj : r.toNat < xs.length := by omega
    obtain ⟨e, he, hda⟩ := all.get (List.getElem?_eq_getElem hj)
    refine ⟨qL5, _, _, xs[r.toNat], rfl, rfl, SqL.of ((eE _ oL5).trans gL5), at_of (j := r.toNat) (by omega) (List.getElem?_eq_getElem hj), ?_⟩
    obtain ⟨f1, f2⟩ := fit e (List.mem_of_getElem? he)
    exact kk HE _ e (ME.lt (by omega) (by omega)) (Ext.trans (Ext.same (s01.trans (sA.trans (sB.trans (sC.trans (sD.trans (sE.trans (sI.trans (sJ.trans (sL1.trans (sK2.trans (sL.trans (sS.trans (sT.trans (sU.trans (sW.trans (sL2.trans (sL3.trans (sO1.trans (sO.trans (sN.trans (sL4.trans sL5)))))))))))))))))))))) eE.ext) (Da.extT (ExtT.ofE eE.ext) _ _ hda) f1 f2
end
end One
end P_PO

section P_V7
set_option linter.all false
set_option maxRecDepth 100000
set_option maxHeartbeats 4000000
namespace HT
open PySem PySem.Spec PyProof.Rows
section
variable {A : Around} {prog : Program} {w : World} {s : Shared} {E : Value → Shared → Prop}
theorem sliceApplied_rev {sl : Addr} {u : Tok} {n : Nat} {Q : Int × Int × Nat → Shared → Prop} (hs : s.heap.IsSliceOf sl .none .none (.int (-1) u)) (h : Q ((n : Int) - 1, -1, n) s) : wpAny (model prog w) A (Builtin.Slice.sliceApplied (.ref sl) (pure (n : Int))) Q E s := by
  have ⟨os, ho1, hc1, hd1⟩ := hs
  unfold Builtin.Slice.sliceApplied
  unfold Builtin.Slice.sliceFields
  refine wpAny_bind (wpAny_bind (wpAny_field ho1 hd1 (x := .none) rfl (wpAny_bind (wpAny_field ho1 hd1 (x := .none) rfl (wpAny_bind (wpAny_field ho1 hd1 (x := .int (-1) u) rfl (wpAny_pure ?_)))))))
  refine wpAny_bind (slicePart_ (.int (-1) u) ?_)
  show wpAny _ _ (if ((-1 : Int) == 0) = true then _ else _) _ _ s
  rw [if_neg (by decide)]
  refine wpAny_bind (slicePart_none (wpAny_bind (slicePart_none (wpAny_bind (wpAny_pure ?_)))))
  have e : Builtin.Slice.sliceAdjust none none (-1) (n : Int) = ((n : Int) - 1, -1) := rfl
  show wpAny _ _ (match Builtin.Slice.sliceAdjust none none (-1) (n : Int) with | (lo, hi) => pure (lo, (-1 : Int), Builtin.Slice.slicePlaces lo hi (-1))) _ _ s
  rw [e]
  have e2 : Builtin.Slice.slicePlaces ((n : Int) - 1) (-1) (-1) = n := by
    delta Builtin.Slice.slicePlaces
    rw [if_neg (by decide)]
    simp only [Int.neg_neg, Int.ediv_one]
    split <;> omega
  show wpAny _ _ (pure ((n : Int) - 1, (-1 : Int), Builtin.Slice.slicePlaces ((n : Int) - 1) (-1) (-1))) _ _ s
  rw [e2]
  exact wpAny_pure h
theorem fm_map {f : Nat → Option Value} {g : Nat → Value} : ∀ {l : List Nat}, (∀ m ∈ l, f m = some (g m)) → l.filterMap f = l.map g
  | [], _ => rfl
  | x :: l, h => by
    rw [List.filterMap_cons, h x (List.mem_cons_self ..), List.map_cons, fm_map fun m hm => h m (List.mem_cons_of_mem _ hm)]
theorem pick_rev (xs : Array Value) : ((List.range xs.size).filterMap fun (m : Nat) => xs[(((xs.size : Int) - 1) + (m : Int) * (-1)).toNat]?).toArray = xs.toList.reverse.toArray := by
  congr 1
  refine List.ext_getElem? fun i => ?_
  have e : (List.range xs.size).filterMap (fun (m : Nat) => xs[(((xs.size : Int) - 1) + (m : Int) * (-1)).toNat]?) = (List.range xs.size).map fun m => xs.toList.getD (xs.size - 1 - m) default := by
    refine fm_map fun m hm => ?_
    have hm := List.mem_range.mp hm
    rw [show (((xs.size : Int) - 1) + (m : Int) * (-1)).toNat = xs.size - 1 - m by omega]
    rw [List.getD_eq_getElem?_getD, Array.getElem?_toList, Array.getElem?_eq_getElem (by omega)]
    rfl
  rw [e, List.getElem?_map]
  rcases Nat.lt_or_ge i xs.size with h | h
  · rw [List.getElem?_range h, List.getElem?_reverse (by rw [Array.length_toList]; exact h), Array.length_toList]
    show some (xs.toList.getD (xs.size - 1 - i) default) = _
    rw [List.getD_eq_getElem?_getD, List.getElem?_eq_getElem (by rw [Array.length_toList]; omega)]
    rfl
  · rw [List.getElem?_eq_none (by rw [List.length_range]; exact h), List.getElem?_eq_none (by rw [List.length_reverse, Array.length_toList]; exact h)]
    rfl
theorem getItem_tuple_rev {t sl : Addr} {items : Array Value} {u : Tok} {Q : Value → Shared → Prop} (ht : IsTup s.heap t items) (hs : s.heap.IsSliceOf sl .none .none (.int (-1) u))
    (h : Q (.ref s.heap.objs.size) { s with heap := s.heap.push { cls := .type "tuple", data := .seq items.toList.reverse.toArray } })
    (short : items.size ≤ sizeLine) : wpAny (model prog w) A (getItem (Value.ref t) (Value.ref sl)) Q E s := by
  have fits : sizeOk (.seq items.toList.reverse.toArray) := by
    show items.toList.reverse.toArray.size ≤ sizeLine
    rw [List.size_toArray, List.length_reverse, Array.length_toList]
    omega
  have ⟨os, ho1, hc1, hd1⟩ := hs
  have tySl : s.TypeIs (Value.ref sl) "slice" := ⟨os, ho1, hc1⟩
  unfold getItem
  have slot := PyProof.Rows.slot_tuple_getitem
  have tyT := ht.typeIs
  try with_reducible (refine wpAny_holding ?_)
  first | (refine wpAny_bind (wpAny_pure ?_)) | skip
  refine wpAny_bind (wpAny_sequenceKey tyT (by decide) (wpAny_bind (wpAny_callSpecial?_slot (name := Str.ofString "__getitem__") tyT slot (wpAny_call_entry slot tyT entry_tuple_getitem ?_ (args_tuple_getitem _ _)))))
  show wpAny _ _ (Builtin.Tuple.tupleItemsOf (Value.ref t) >>= _) _ _ s
  refine wpAny_bind (tupleItemsOf_ ht (wpAny_bind (wpAny_typeOf tySl ?_)))
  rw [if_pos (by decide)]
  refine wpAny_bind (sliceApplied_rev hs ?_)
  have unlike : ¬ ((((items.size : Int) - 1) == 0 && (-1 : Int) == 1 && items.size == items.size) = true) := by
    intro q
    simp at q
  show wpAny _ _ (if (((items.size : Int) - 1) == 0 && (-1 : Int) == 1 && items.size == items.size) = true then _ else _) _ _ s
  rw [if_neg unlike, pick_rev]
  have told := wpAny_pure (M := model prog w) (A := A) (E := E) (s := { s with heap := s.heap.push { cls := .type "tuple", data := .seq items.toList.reverse.toArray } }) h
  first
    | exact wpAny_bind (m := Builtin.Tuple.tupleExact _) (wpAny_newObj_type (wpAny_pure ⟨_, rfl, told⟩) fits)
    | exact wpAny_bind (m := Builtin.Tuple.tupleExact _) (wpAny_newObj_type (wpAny_bind (wpAny_pure (wpAny_pure ⟨_, rfl, told⟩))) fits)
    | exact wpAny_bind (wpAny_bind (m := Builtin.Tuple.tupleExact _) (wpAny_newObj_type (wpAny_pure (wpAny_pure ⟨_, rfl, told⟩)) fits))
    | exact wpAny_bind (wpAny_bind (m := Builtin.Tuple.tupleExact _) (wpAny_newObj_type (wpAny_pure ⟨_, rfl, told⟩) fits))
end
end HT
namespace One
open PySem PySem.Spec PyProof.Rows L2
section
variable {X : Cx}
/-! ### t[::-1], t a tuple -/
def tRevT (K : PySem.W.Frag) (te : TE) : TE := fun σ H Q => te σ H fun x H1 => ∃ a xs, x = .ref a ∧ SqT K H1 a xs ∧ ∀ p, H1 p = none → Q (.ref p) (upd H1 p (.tup xs.reverse))
theorem pe_revT {e : Expr} {te : TE} {k : Nat} {p1 p2 p3 pos : Pos} (he : PE X e te) : PE X (.Subscript e (.Slice none none (some (.UnaryOp .USub (.Constant (.int 1) k p1) p2)) p3) pos) (tRevT X.K te) := by
  have hst : PO X (some (.UnaryOp .USub (.Constant (.int 1) k p1) p2)) (tPart (tUn (rU fun i => V.int (-i)) (tC (V.int 1)))) := po_some (pe_un un_neg pe_int)
  refine ⟨fun pins s σ H Q I w0 => Subscript_ (thn (he.run pins s σ H _ I w0) fun v s1 ⟨x, H1, I1, r1, a, xs, ex, hx, q⟩ => ?_)⟩
  subst ex
  cases r1
  have none1 := fun (z : Shared) (G : Hp) (J : Inv X pins σ G z) => (po_none (X := X)).run pins z σ G (fun o G' => o = none ∧ G' = G) J ⟨rfl, rfl⟩
  refine wpAny_Slice (thn (none1 s1 H1 I1) fun vl s2 ⟨l, H2, I2, pl, el, e2⟩ => ?_)
  subst el e2
  refine thn (none1 s2 H2 I2) fun vu s3 ⟨u, H3, I3, pu, eu, e3⟩ => ?_
  subst eu e3
  refine thn (hst.run pins s3 σ H3 (fun o G => o = some (-1) ∧ G = H3) I3 ⟨1, rfl, -1, rfl, rfl, rfl⟩) fun vs s4 ⟨o, H4, I4, ps, eo, e4⟩ => ?_
  subst eo e4
  cases pl
  cases pu
  cases ps with
  | int _ t =>
    have I5 : Inv X pins σ H4 { s4 with heap := s4.heap.push { cls := .type "slice", data := .fields #[.none, .none, .int (-1) t] } } := I4.kept (t' := s4.toks) fun b ob q => Heap.get?_push_of_some _ q
    obtain ⟨its, r, ht, hz⟩ := I5.tuple hx
    have hlen := r.length
    show wpAny (model X.prog X.w) X.A (subscriptTail e (.Slice none none (some (.UnaryOp .USub (.Constant (.int 1) k p1) p2)) p3) (.ref a) (.ref s4.heap.objs.size)) (EP X pins σ Q) X.xe { s4 with heap := s4.heap.push { cls := .type "slice", data := .fields #[.none, .none, .int (-1) t] } }
    refine tail_any (ops := [.ref a, .ref s4.heap.objs.size]) ht.typeIs (PyProof.Rows.slot_tuple_getitem.lookup) ?_ (by with_unfolding_all rfl)
    refine HT.getItem_tuple_rev ht (Heap.IsSliceOf.new _ .none .none (.int (-1) t)) ?_ (by rw [List.size_toArray]; omega)
    refine ⟨.ref _, _, I5.laid (t' := s4.toks) (o := .tup xs.reverse) (fun b ob q => Heap.get?_push_of_some _ q) (Nat.le_refl _) ?_, rfl, q _ (I5.hok.fresh (Nat.le_refl _))⟩
    exact ⟨by rw [List.length_reverse]; exact hz, _, r.reverse, IsTup.new _ _⟩
end
end One
end P_V7

section P_PQ
set_option linter.all false
set_option maxRecDepth 100000
set_option maxHeartbeats 16000000
namespace One
open PySem PySem.Spec PyProof.Rows L2
theorem tupE {H H' : Hp} {p c : Addr} {n : Nat} (M : MS H p c n) (e : Ext p H H') : ∀ b xs, H b = some (.tup xs) → H' b = some (.tup xs) := fun b xs h => e b _ (tup_off M h) h
theorem int_short2 : ∀ i : Int, 0 ≤ i → i < 2000 → (PyData.shown (.int i)).length ≤ 8 ∧ PyData.showable (.int i) = true := by
  have h : ∀ n : Fin 2000, (PyData.shown (.int ((n : Nat) : Int))).length ≤ 8 ∧ PyData.showable (.int ((n : Nat) : Int)) = true := by decide +kernel
  intro i h0 h1
  have := h ⟨i.toNat, by omega⟩
  rwa [show (((⟨i.toNat, by omega⟩ : Fin 2000) : Nat) : Int) = i by
    show ((i.toNat : Nat) : Int) = i
    omega] at this
theorem fxI {i : Int} (a : 0 ≤ i) (b : i < 2000) : Fx (.int i) 0 0 := by
  obtain ⟨s1, s2⟩ := int_short2 i a b
  refine ⟨s2, Nat.le_refl _, ?_, Nat.zero_le _⟩
  show decide (_ ≤ 48) = true
  exact decide_eq_true (Nat.le_trans s1 (by decide))
theorem line_prD {N : Nat} {d : PyData} {w : Nat × Nat} (h : lineD N d = some w) : d = prD w := by
  cases d with
  | tuple ds =>
    match ds, h with
    | [], h => cases h
    | [_], h => cases h
    | _ :: _ :: _ :: _, h => cases h
    | [x, y], h =>
      have h : pairL N x y = some w := h
      cases x with
      | int a =>
        cases y with
        | int b =>
          have h : (if 0 ≤ a ∧ a < (N : Int) ∧ 0 ≤ b ∧ b < (N : Int) ∧ a < b then some (a.toNat, b.toNat) else none) = some w := h
          by_cases q : 0 ≤ a ∧ a < (N : Int) ∧ 0 ≤ b ∧ b < (N : Int) ∧ a < b
          · rw [if_pos q] at h
            cases h
            show _ = PyData.tuple [.int ((a.toNat : Nat) : Int), .int ((b.toNat : Nat) : Int)]
            rw [show ((a.toNat : Nat) : Int) = a by omega, show ((b.toNat : Nat) : Int) = b by omega]
          · rw [if_neg q] at h
            cases h
        | _ => cases h
      | _ => cases h
  | _ => cases h
theorem da_pairs {p c : Addr} {H : Hp} {n : Nat} (M : MS H p c n) {as : List Addr} {ps : List (Nat × Nat)} (h : PL H as ps) : DaAll p p H (refs as) (ps.map prD) := by
  induction h with
  | nil => exact .nil
  | cons h1 _ ih => exact .cons (.tup (tup_off M h1) (tup_off M h1) h1 (.cons (.int _) (.cons (.int _) .nil))) ih
section
variable {K : PySem.W.Frag} {σ : L2.St} {i j : Nat} {q : Addr} {z : Int} {xs : List V} {H : Hp} {Q : VK}
theorem sl_to (hi : σ[i]? = some (some (V.ref q))) (hj : σ[j]? = some (some (V.int z))) (hq : H q = some (.tup xs)) (k : ∀ (H' : Hp) (t : Addr), Same H H' → H' t = some (.tup (cutV xs none (some z))) → Q (.ref t) H') : tSl (rSlA K) (tVar i) tNoPart (tPart (tVar j)) σ H Q :=
  ⟨_, hi, _, hj, _, rfl, rd_slA hq k⟩
theorem sl_toC {c : Int} (hi : σ[i]? = some (some (V.ref q))) (hq : H q = some (.tup xs)) (k : ∀ (H' : Hp) (t : Addr), Same H H' → H' t = some (.tup (cutV xs none (some c))) → Q (.ref t) H') : tSl (rSlA K) (tVar i) tNoPart (tPart (tC (V.int c))) σ H Q :=
  ⟨_, hi, _, rfl, rd_slA hq k⟩
theorem sl_from (hi : σ[i]? = some (some (V.ref q))) (hj : σ[j]? = some (some (V.int z))) (hq : H q = some (.tup xs)) (k : ∀ (H' : Hp) (t : Addr), Same H H' → H' t = some (.tup (cutV xs (some z) none)) → Q (.ref t) H') : tSl (rSlA K) (tVar i) (tPart (tVar j)) tNoPart σ H Q :=
  ⟨_, hi, _, hj, _, rfl, by unfold tNoPart; dsimp only; exact rd_slA hq k⟩
theorem sl_from1 {c : Int} (hi : σ[i]? = some (some (V.ref q))) (hj : σ[j]? = some (some (V.int z))) (hq : H q = some (.tup xs)) (k : ∀ (H' : Hp) (t : Addr), Same H H' → H' t = some (.tup (cutV xs (some (z + c)) none)) → Q (.ref t) H') :
    tSl (rSlA K) (tVar i) (tPart (tOp (rI0 fun i j => .int (i + j)) (tVar j) (tC (V.int c)))) tNoPart σ H Q :=
  ⟨_, hi, _, hj, _, _, rfl, rfl, _, rfl, by unfold tNoPart; dsimp only; exact rd_slA hq k⟩
theorem sl_one {c : Int} (hi : σ[i]? = some (some (V.ref q))) (hj : σ[j]? = some (some (V.int z))) (hq : H q = some (.tup xs)) (k : ∀ (H' : Hp) (t : Addr), Same H H' → H' t = some (.tup (cutV xs (some z) (some (z + c)))) → Q (.ref t) H') :
    tSl (rSlA K) (tVar i) (tPart (tVar j)) (tPart (tOp (rI0 fun i j => .int (i + j)) (tVar j) (tC (V.int c)))) σ H Q :=
  ⟨_, hi, _, hj, _, rfl, _, hj, _, _, rfl, rfl, _, rfl, rd_slA hq k⟩
end
abbrev sBe : Stmt := top 36
abbrev nBe : List Str := ["m", "thing", "at", "spot", "way", "line", "wide", "one"]
theorem scBe : FnScope nBe ["m", "thing"] (defScope sBe) := ⟨rfl, rfl, rfl, by decide +kernel, rfl, by decide +kernel, by decide +kernel⟩
/-- C: the things are lines, and of two of them the texts are short -/
def spBe : Sp := fun vs H Q _ => ∃ (p c q : Addr) (k n i : Nat) (xs : List V) (C : Prop), vs = [.ref p, .ref q] ∧ MS H p c i ∧ i ≤ 800000 ∧ H q = some (.tup xs) ∧ Rw (fun e => Sec e ∧ (C → Two e)) p H xs (k + 1) n ∧ k ≤ 4 ∧ n ≤ 900 ∧
  (C → ∀ a b, DaAll p p H xs [a, b] → OkS b) ∧
  ∀ (H' : Hp) (v : V) (d : PyData), MS H' p c (i + 8) → Ext p H H' → Da p p H' v d → Fx d (k + 4) (5 * n + 80) → (C → ∀ es, d = .tuple es → ∀ e ∈ es, Sec e) → Q v H'
section
variable {P : Program} {w : World} {K : PySem.W.Frag} {mg : Str → Option Value} {base : Heap}
theorem ok_be {f fD fO fL : Addr} {fd fdD fdO fdL : FuncData} (F : Fun K "_law_bent" "_law_bent" sBe f fd) (T : TB mg) (D : Cal K mg "_law_draw" fD fdD ["m", "many"]) (GD : FnOk P w K mg base CX0 1 fD fdD ["m", "many"] spDraw)
    (O : Cal K mg "_law_odd" fO fdO ["m", "line"]) (GO : FnG P w K mg base CX0 2 fO fdO ["m", "line"] spOd) (L : Cal K mg "_law_is_line" fL fdL ["thing", "many"]) (GL : FnOk P w K mg base CX0 1 fL fdL ["thing", "many"] spLn) : FnG P w K mg base CX0 3 f fd ["m", "thing"] spBe := by
  refine okG0 F scBe (fun vs H Q E h => ?_) (fun cdv A outer s H vs Q E hgd hr h => ?_)
  · obtain ⟨p, c, q, k, n, i, xs, C, rfl, _⟩ := h
    rfl
  · obtain ⟨p, c, q, k, n, i, xs, C, rfl, M, hi, hq, hR0, hk, hn, hsm, kk⟩ := h
    have nd := scBe.nd
    have hr2 : Room 2 _ := hr
    have hr1 : Room 1 _ := hr.mono (by decide)
    refine ⟨_, pss_cons (ps_par3 (i := 2) (j := 3) (l := 4) (by rfl) nd rfl rfl rfl (by decide) (by decide) (by decide) rfl rfl rfl (pa_cons (pe_call GD hr1 rfl D.g D.kp D.b .nil pass0 (pa_cons (pv 0) (pa_cons (pe_op op_add (pe_callB call_len_seq (by rfl) T.len PySem.boot_len (pa_cons (pv 1) pa_nil)) pe_int) pa_nil))) (pa_cons (pe_call GD hr1 rfl D.g D.kp D.b .nil pass0 (pa_cons (pv 0) (pa_cons (pe_op op_add (pe_callB call_len_seq (by rfl) T.len PySem.boot_len (pa_cons (pv 1) pa_nil)) pe_int) pa_nil))) (pa_cons (pe_call GD hr1 rfl D.g D.kp D.b .nil pass0 (pa_cons (pv 0) (pa_cons pe_int pa_nil))) pa_nil))) (by rfl))
      (pss_cons (ps_set (i := 5) nd rfl (Or.inl rfl) (pe_ix ix_tup (pe_op op_catA (pv 1) (pe_tup (pa_cons (pe_tup (pa_cons pe_int (pa_cons pe_int pa_nil))) pa_nil))) (pv 2) (fun _ _ => rfl)))
      (pss_cons (ps_if (pt_cmpR op_lt (pv 4) pe_int (nomark _)) (pss_one (ps_ret (pe_op op_catA (pe_op op_catA (pe_slice sl_tupA (pv 1) po_none (po_some (pv 2))) (pe_tup (pa_cons (pe_callG GO (by exact hgd) hr2 rfl O.g O.kp O.b .nil pass0 (pa_cons (pv 0) (pa_cons (pv 5) pa_nil))) pa_nil))) (pe_slice sl_tupA (pv 1) (po_some (pe_op op_add (pv 2) pe_int)) po_none)))) pss_nil)
      (pss_cons (ps_if (pt_cmpR op_eq (pv 4) pe_int (nomark _)) (pss_one (ps_ret (pe_op op_catA (pe_slice sl_tupA (pv 1) po_none (po_some (pv 2))) (pe_slice sl_tupA (pv 1) (po_some (pe_op op_add (pv 2) pe_int)) po_none)))) pss_nil)
      (pss_cons (ps_if (pt_cmpR op_eq (pv 4) pe_int (nomark _)) (pss_one (ps_ret (pe_op op_catA (pe_op op_catA (pe_slice sl_tupA (pv 1) po_none (po_some (pv 2))) (pe_slice sl_tupA (pv 1) (po_some (pv 3)) (po_some (pe_op op_add (pv 3) pe_int)))) (pe_slice sl_tupA (pv 1) (po_some (pv 2)) po_none)))) pss_nil)
      (pss_cons (ps_if (pt_cmpR op_eq (pv 4) pe_int (nomark _)) (pss_one (ps_ret (pe_op op_catA (pe_op op_catA (pe_slice sl_tupA (pv 1) po_none (po_some (pv 2))) (pe_revT (pe_slice sl_tupA (pv 1) (po_some (pv 2)) (po_some (pe_op op_add (pv 2) pe_int))))) (pe_slice sl_tupA (pv 1) (po_some (pe_op op_add (pv 2) pe_int)) po_none)))) pss_nil)
      (pss_cons (ps_if (pt_cmpR op_eq (pv 4) pe_int (nomark _)) (pss_cons (ps_set (i := 6) nd rfl (Or.inl rfl) (pe_op op_mul pe_int (pe_callB call_len_seq (by rfl) T.len PySem.boot_len (pa_cons (pv 1) pa_nil))))
      (pss_cons (ps_set (i := 5) nd rfl (Or.inl rfl) (pe_tupleOf (by rfl) T.tuple (pe_callB cr_sorted (by rfl) T.sorted boot_sorted (pa_cons (pe_lst (pa_cons (pe_call GD hr1 rfl D.g D.kp D.b .nil pass0 (pa_cons (pv 0) (pa_cons (pe_op op_add (pv 6) pe_int) pa_nil))) (pa_cons (pe_call GD hr1 rfl D.g D.kp D.b .nil pass0 (pa_cons (pv 0) (pa_cons (pe_op op_add (pv 6) pe_int) pa_nil))) pa_nil))) pa_nil))))
      (pss_one (ps_ret (pe_tupleOf (by rfl) T.tuple (pe_callB cr_sortedPO (by rfl) T.sorted boot_sorted (pa_cons (pe_lc (own := [("one", 7)]) (g := (gName 7)) (tt := (tB (tCall spLn [] E0 (tCons (tVar 7) (tCons (tOp (rI CPowB fun i j => .int (i ^ j.toNat)) (tC (.int 10)) (tC (.int 6))) tNil))))) (te := (tVar 7)) rfl nd (pi_tup (pe_op op_catA (pe_op op_catA (pe_slice sl_tupA (pv 1) po_none (po_some (pv 2))) (pe_tup (pa_cons (pv 5) pa_nil))) (pe_slice sl_tupA (pv 1) (po_some (pe_op op_add (pv 2) pe_int)) po_none))) (blkOk_by (N := nBe) (sc := defScope sBe) (by decide +kernel)) (fun _ _ _ _ _ => pg_name (i := 7) nd rfl (Or.inl rfl)) (fun _ _ _ _ _ => pts_one (pt_val (pe_call GL hr1 rfl L.g L.kp L.b .nil pass0 (pa_cons (pv 7) (pa_cons (pe_op op_powB pe_int pe_int) pa_nil))))) (fun _ _ _ _ _ => by exact (pv 7))) pa_nil))))))) pss_nil)
      (pss_one (ps_ret (pe_ix ix_list (pe_lst (pa_cons (pe_callTy call_listN (by rfl) T.list (by decide +kernel) (pa_cons (pv 1) pa_nil) (by decide)) (pa_cons (pe_op op_catA (pv 1) (pe_slice sl_tupA (pv 1) po_none (po_some pe_int))) (pa_cons pe_non (pa_cons (pe_slice sl_tupA (pv 1) po_none (po_some pe_int)) (pa_cons (pe_tup (pa_cons (pv 1) pa_nil)) (pa_cons (pe_tup pa_nil) (pa_cons pe_dnewK (pa_cons pe_str pa_nil))))))))) (pe_call GD hr1 rfl D.g D.kp D.b .nil pass0 (pa_cons (pv 0) (pa_cons pe_int pa_nil))) (fun _ _ => rfl)))))))))), ?_⟩
    have hlx := hR0.len
    have big : ∀ {i j : Nat}, i ≤ 8000 → j ≤ 8000 → i + j ≤ sizeLine := fun h1 h2 => Nat.le_trans (by omega : _ ≤ 16000) (by decide)
    have fin : ∀ {H' : Hp} {t : Addr} {ys : List V}, MS H' p c (i + 8) → Ext p H H' → H' t = some (.tup ys) → Rw (fun e => C → Sec e) p H' ys (k + 3) (5 * n + 80) → Q (.ref t) H' := fun {H' t ys} M' e ht hR => by
      obtain ⟨ds, g, f, cc⟩ := hR
      exact kk _ _ _ M' e (.tup (tup_off M' ht) (tup_off M' ht) ht g) f.tup (fun h es ee => by cases ee; exact fun e he => cc e he h)
    refine ⟨_, rfl, _, rfl, q, _, rfl, .inr (SqT.of hq), _, _, rfl, rfl, p, c, _, _, rfl, M, by omega, by omega, by omega, fun H1 u1 M1 B1 u10 u11 => ?_⟩
    have hq1 := tupE M B1.ext _ _ hq
    refine ⟨_, rfl, _, rfl, q, _, rfl, .inr (SqT.of hq1), _, _, rfl, rfl, p, c, _, _, rfl, M1, by omega, by omega, by omega, fun H2 u2 M2 B2 u20 u21 => ?_⟩
    have hq2 := tupE M1 B2.ext _ _ hq1
    refine ⟨_, rfl, p, c, _, 9, rfl, M2, by omega, by decide, by decide, fun H2' wy M2' B3 w0 w9 => ⟨_, _, _, rfl, ?_⟩⟩
    have hq2 := tupE M2 B3.ext _ _ hq2
    obtain ⟨a1, rfl⟩ : ∃ a1 : Nat, u1 = (a1 : Nat) := ⟨u1.toNat, by omega⟩
    obtain ⟨a2, rfl⟩ : ∃ a2 : Nat, u2 = (a2 : Nat) := ⟨u2.toNat, by omega⟩
    have e02 := B1.ext.trans (B2.ext.trans B3.ext)
    have hR2 := hR0.extT (ExtT.ofE e02)
    refine ⟨_, rfl, two_le, fun z1 hz1 => ?_⟩
    have sz1 := Same.new (o := .tup [V.int 0, V.int 1]) hz1
    have xz1 := da_new (ds := [.int 0, .int 1]) M2' hz1 (xs := [V.int 0, V.int 1]) (.cons (.int _) (.cons (.int _) .nil))
    generalize upd H2' z1 (.tup [V.int 0, V.int 1]) = Hz1 at sz1 xz1
    refine ⟨by show 1 ≤ sizeLine; decide, fun z2 hz2 => ?_⟩
    have sz2 := Same.new (o := .tup [V.ref z1]) hz2
    have gz2 := upd_same (H := Hz1) (a := z2) (o := .tup [V.ref z1])
    generalize upd Hz1 z2 (.tup [V.ref z1]) = Hz2 at sz2 gz2
    have sz12 := sz1.trans sz2
    refine rd_catA (sz12 _ _ hq2) gz2 (big (by omega) (show 1 ≤ 8000 by decide)) fun H3 z3 s3 g3 => ?_
    have s23 := sz12.trans s3
    have M3 := M2'.keep s23
    have e03 := e02.trans (Ext.same s23)
    have hq3 := s23 _ _ hq2
    have hRa := hR2.same s23
    have fz : Fx (.tuple [.int 0, .int 1]) (k + 1) 2 := (⟨by decide +kernel, by decide +kernel, by decide +kernel, by decide +kernel⟩ : Fx (.tuple [.int 0, .int 1]) 1 2).up (by omega) (Nat.le_refl _)
    have hRb := hRa.app (Rw.one (Da.extT (ExtT.ofS (sz2.trans s3)) _ _ xz1) fz ⟨sec2 (okS_int _ (by decide) (by decide)), fun _ a b e => by cases e; exact ⟨okS_int _ (by decide) (by decide), okS_int _ (by decide) (by decide)⟩⟩)
    obtain ⟨x, d, hxx, hdx, hfx, hsx, htx⟩ : ∃ (x : V) (d : PyData), (xs ++ [V.ref z1])[a1]? = some x ∧ Da p p H3 x d ∧ Fx d (k + 1) (n + 3) ∧ Sec d ∧ (C → Two d) := by
      obtain ⟨ds, g, f, cc⟩ := hRb
      have ha : a1 < (xs ++ [V.ref z1]).length := by
        rw [List.length_append]
        show a1 < xs.length + 1
        omega
      obtain ⟨d, he, hd⟩ := g.get (List.getElem?_eq_getElem ha)
      have hm := List.mem_of_getElem? he
      exact ⟨_, d, List.getElem?_eq_getElem ha, hd, f.mem hm, (cc d hm).1, (cc d hm).2⟩
    refine ⟨_, rfl, z3, _, _, x, rfl, rfl, SqT.of g3, at_of (j := a1) (by omega) hxx, ?_⟩
    have hR3 : Rw (fun e => C → Sec e) p H3 xs (k + 1) n := hRa.imp fun e h c => (h.2 c).sec
    obtain ⟨ds, gH, f0, cc0⟩ := id hR0
    have g0 := DaAll.extT (ExtT.ofE e03) _ _ gH
    have hsmall : C → ∀ a b, ds = [a, b] → OkS b := fun h a b e => hsm h a b (by rw [← e]; exact gH)
    refine ⟨_, rfl, _, _, rfl, rfl, _, rfl, ?_⟩
    refine ite2 (fun _ => ?_) (fun _ => ?_)
    · refine sl_to rfl rfl hq3 fun H101 t101 s101 g101 => ?_
      have h102 := s101 _ _ hq3
      have L102 := hR3.same s101
      have M103 := M3.keep s101
      have e103 := e03.trans (Ext.same s101)
      have K101 := L102.cut (none) (some (a1 : Nat))
      refine ⟨_, rfl, _, rfl, p, c, _, x, d, k, n + 3, rfl, M103, by omega, Da.extT (ExtT.ofS s101) _ _ hdx, hfx, hsx, by omega, by omega, fun H104 v104 d104 Mo104 eo104 hd104 fd104 sd104 => ?_⟩
      have h105 := tupE M103 eo104 _ _ h102
      have L105 := L102.extT (ExtT.ofE eo104)
      have h106 := tupE M103 eo104 _ _ g101
      have L106 := K101.extT (ExtT.ofE eo104)
      have e107 := e103.trans eo104
      refine ⟨by show 1 ≤ sizeLine; decide, fun t104 hn104 => ?_⟩
      have s104 := Same.new (o := .tup [v104]) hn104
      have g104 := upd_same (H := H104) (a := t104) (o := .tup [v104])
      have K104 := (Rw.one (G := fun e => C → Sec e) hd104 fd104 (fun h => sd104 (htx h))).same s104
      generalize upd H104 t104 (.tup [v104]) = Hx104 at s104 g104 K104
      have h108 := s104 _ _ h105
      have L108 := L105.same s104
      have h109 := s104 _ _ h106
      have L109 := L106.same s104
      have M110 := Mo104.keep s104
      have e110 := e107.trans (Ext.same s104)
      have U111 := L109.up (show k + 1 ≤ k + 3 by omega) (Nat.le_refl _)
      have U112 := L108.up (show k + 1 ≤ k + 3 by omega) (Nat.le_refl _)
      have bx113 := U111.len
      have by113 := K104.len
      refine rd_catA h109 g104 (big (by omega) (by omega)) fun H113 t113 s113 g113 => ?_
      have K113 := (U111.app K104).same s113
      have h114 := s113 _ _ h108
      have L114 := U112.same s113
      have h115 := s113 _ _ h109
      have L115 := U111.same s113
      have h116 := s113 _ _ g104
      have L116 := K104.same s113
      have M117 := M110.keep s113
      have e117 := e110.trans (Ext.same s113)
      refine sl_from1 rfl rfl h114 fun H118 t118 s118 g118 => ?_
      have h119 := s118 _ _ h114
      have L119 := L114.same s118
      have h120 := s118 _ _ g113
      have L120 := K113.same s118
      have M121 := M117.keep s118
      have e121 := e117.trans (Ext.same s118)
      have K118 := L119.cut (some ((a1 : Nat) + 1)) (none)
      have bx122 := L120.len
      have by122 := K118.len
      refine rd_catA h120 g118 (big (by omega) (by omega)) fun H122 t122 s122 g122 => ?_
      have K122 := (L120.app K118).same s122
      have h123 := s122 _ _ h119
      have L123 := L119.same s122
      have h124 := s122 _ _ h120
      have L124 := L120.same s122
      have h125 := s122 _ _ g118
      have L125 := K118.same s122
      have M126 := M121.keep s122
      have e126 := e121.trans (Ext.same s122)
      exact fin (M126.lt (by omega) (by omega)) e126 g122 (K122.up (by omega) (by omega))
    · skip
      refine ⟨_, rfl, rfl, _, rfl, ?_⟩
      refine ite2 (fun _ => ?_) (fun _ => ?_)
      · refine sl_to rfl rfl hq3 fun H127 t127 s127 g127 => ?_
        have h128 := s127 _ _ hq3
        have L128 := hR3.same s127
        have M129 := M3.keep s127
        have e129 := e03.trans (Ext.same s127)
        have K127 := L128.cut (none) (some (a1 : Nat))
        refine sl_from1 rfl rfl h128 fun H130 t130 s130 g130 => ?_
        have h131 := s130 _ _ h128
        have L131 := L128.same s130
        have h132 := s130 _ _ g127
        have L132 := K127.same s130
        have M133 := M129.keep s130
        have e133 := e129.trans (Ext.same s130)
        have K130 := L131.cut (some ((a1 : Nat) + 1)) (none)
        have bx134 := L132.len
        have by134 := K130.len
        refine rd_catA h132 g130 (big (by omega) (by omega)) fun H134 t134 s134 g134 => ?_
        have K134 := (L132.app K130).same s134
        have h135 := s134 _ _ h131
        have L135 := L131.same s134
        have h136 := s134 _ _ h132
        have L136 := L132.same s134
        have h137 := s134 _ _ g130
        have L137 := K130.same s134
        have M138 := M133.keep s134
        have e138 := e133.trans (Ext.same s134)
        exact fin (M138.lt (by omega) (by omega)) e138 g134 (K134.up (by omega) (by omega))
      · skip
        refine ⟨_, rfl, rfl, _, rfl, ?_⟩
        refine ite2 (fun _ => ?_) (fun _ => ?_)
        · refine sl_to rfl rfl hq3 fun H139 t139 s139 g139 => ?_
          have h140 := s139 _ _ hq3
          have L140 := hR3.same s139
          have M141 := M3.keep s139
          have e141 := e03.trans (Ext.same s139)
          have K139 := L140.cut (none) (some (a1 : Nat))
          refine sl_one rfl rfl h140 fun H142 t142 s142 g142 => ?_
          have h143 := s142 _ _ h140
          have L143 := L140.same s142
          have h144 := s142 _ _ g139
          have L144 := K139.same s142
          have M145 := M141.keep s142
          have e145 := e141.trans (Ext.same s142)
          have K142 := L143.cut (some (a2 : Nat)) (some ((a2 : Nat) + 1))
          have bx146 := L144.len
          have by146 := K142.len
          refine rd_catA h144 g142 (big (by omega) (by omega)) fun H146 t146 s146 g146 => ?_
          have K146 := (L144.app K142).same s146
          have h147 := s146 _ _ h143
          have L147 := L143.same s146
          have h148 := s146 _ _ h144
          have L148 := L144.same s146
          have h149 := s146 _ _ g142
          have L149 := K142.same s146
          have M150 := M145.keep s146
          have e150 := e145.trans (Ext.same s146)
          refine sl_from rfl rfl h147 fun H151 t151 s151 g151 => ?_
          have h152 := s151 _ _ h147
          have L152 := L147.same s151
          have h153 := s151 _ _ g146
          have L153 := K146.same s151
          have M154 := M150.keep s151
          have e154 := e150.trans (Ext.same s151)
          have K151 := L152.cut (some (a1 : Nat)) (none)
          have bx155 := L153.len
          have by155 := K151.len
          refine rd_catA h153 g151 (big (by omega) (by omega)) fun H155 t155 s155 g155 => ?_
          have K155 := (L153.app K151).same s155
          have h156 := s155 _ _ h152
          have L156 := L152.same s155
          have h157 := s155 _ _ h153
          have L157 := L153.same s155
          have h158 := s155 _ _ g151
          have L158 := K151.same s155
          have M159 := M154.keep s155
          have e159 := e154.trans (Ext.same s155)
          exact fin (M159.lt (by omega) (by omega)) e159 g155 (K155.up (by omega) (by omega))
        · skip
          refine ⟨_, rfl, rfl, _, rfl, ?_⟩
          refine ite2 (fun _ => ?_) (fun _ => ?_)
          · refine sl_to rfl rfl hq3 fun H160 t160 s160 g160 => ?_
            have h161 := s160 _ _ hq3
            have L161 := hR3.same s160
            have M162 := M3.keep s160
            have e162 := e03.trans (Ext.same s160)
            have K160 := L161.cut (none) (some (a1 : Nat))
            refine sl_one rfl rfl h161 fun H163 t163 s163 g163 => ?_
            have h164 := s163 _ _ h161
            have L164 := L161.same s163
            have h165 := s163 _ _ g160
            have L165 := K160.same s163
            have M166 := M162.keep s163
            have e166 := e162.trans (Ext.same s163)
            have K163 := L164.cut (some (a1 : Nat)) (some ((a1 : Nat) + 2))
            refine ⟨t163, _, rfl, SqT.of g163, fun t167 hn167 => ?_⟩
            have s167 := Same.new (o := .tup ((cutV xs (some (a1 : Nat)) (some ((a1 : Nat) + 2))).reverse)) hn167
            have g167 := upd_same (H := H163) (a := t167) (o := HO.tup ((cutV xs (some (a1 : Nat)) (some ((a1 : Nat) + 2))).reverse))
            have K167 := K163.rev.same s167
            generalize upd H163 t167 (.tup ((cutV xs (some (a1 : Nat)) (some ((a1 : Nat) + 2))).reverse)) = Hx167 at s167 g167 K167
            have h168 := s167 _ _ h164
            have L168 := L164.same s167
            have h169 := s167 _ _ h165
            have L169 := L165.same s167
            have h170 := s167 _ _ g163
            have L170 := K163.same s167
            have M171 := M166.keep s167
            have e171 := e166.trans (Ext.same s167)
            have bx172 := L169.len
            have by172 := K167.len
            refine rd_catA h169 g167 (big (by omega) (by omega)) fun H172 t172 s172 g172 => ?_
            have K172 := (L169.app K167).same s172
            have h173 := s172 _ _ h168
            have L173 := L168.same s172
            have h174 := s172 _ _ h169
            have L174 := L169.same s172
            have h175 := s172 _ _ g167
            have L175 := K167.same s172
            have M176 := M171.keep s172
            have e176 := e171.trans (Ext.same s172)
            refine sl_from1 rfl rfl h173 fun H177 t177 s177 g177 => ?_
            have h178 := s177 _ _ h173
            have L178 := L173.same s177
            have h179 := s177 _ _ g172
            have L179 := K172.same s177
            have M180 := M176.keep s177
            have e180 := e176.trans (Ext.same s177)
            have K177 := L178.cut (some ((a1 : Nat) + 2)) (none)
            have bx181 := L179.len
            have by181 := K177.len
            refine rd_catA h179 g177 (big (by omega) (by omega)) fun H181 t181 s181 g181 => ?_
            have K181 := (L179.app K177).same s181
            have h182 := s181 _ _ h178
            have L182 := L178.same s181
            have h183 := s181 _ _ h179
            have L183 := L179.same s181
            have h184 := s181 _ _ g177
            have L184 := K177.same s181
            have M185 := M180.keep s181
            have e185 := e180.trans (Ext.same s181)
            exact fin (M185.lt (by omega) (by omega)) e185 g181 (K181.up (by omega) (by omega))
          · skip
            refine ⟨_, rfl, rfl, _, rfl, ?_⟩
            refine ite2 (fun _ => ?_) (fun _ => ?_)
            · refine ⟨_, rfl, q, _, rfl, .inr (SqT.of hq3), _, _, rfl, rfl, .inl ⟨by decide, by decide⟩, ?_⟩
              generalize hwd : (fun i j : Int => V.int (i * j)) 2 ((xs.length : Nat) : Int) = wd
              have hwd : wd = V.int ((2 * xs.length : Nat) : Int) := hwd.symm.trans (congrArg V.int (by omega))
              subst hwd
              refine ⟨_, rfl, _, rfl, _, _, rfl, rfl, p, c, _, _, rfl, M3, by omega, by omega, by omega, fun H4 u1 M4 B4 u10 u11 => ?_⟩
              refine ⟨_, rfl, _, rfl, _, _, rfl, rfl, p, c, _, _, rfl, M4, by omega, by omega, by omega, fun H5 u2 M5 B5 u20 u21 => ?_⟩
              refine ⟨two_le, fun l5 hl5 => ?_⟩
              have s5 := Same.new (o := .lst [V.int u1, V.int u2]) hl5
              refine ⟨l5, [u1, u2], rfl, SqL.of upd_same, (by show 2 < 64; decide), fun ns l6 hp hs hl6 => ?_⟩
              have s6 := Same.new (o := .lst (ns.map V.int)) hl6
              obtain ⟨z1, z2, rfl⟩ : ∃ z1 z2, ns = [z1, z2] := by
                have := hp.length_eq
                match ns, this with
                | [z1, z2], _ => exact ⟨z1, z2, rfl⟩
              have hz : ∀ z ∈ [z1, z2], 0 ≤ z ∧ z < 2000 := fun z hz => by
                have hz := hp.mem_iff.mp hz
                simp only [List.mem_cons, List.not_mem_nil, or_false] at hz
                omega
              have hz1 := hz z1 (by simp)
              have hz2 := hz z2 (by simp)
              refine .inl ⟨l6, _, rfl, SqL.of upd_same, fun t7 ht7 => ?_⟩
              have s7 := Same.new (o := .tup ([z1, z2].map V.int)) ht7
              have s57 := s5.trans (s6.trans s7)
              have M57 := M5.keep (s5.trans s6)
              have x7 := da_new (ds := [.int z1, .int z2]) M57 ht7 (xs := [z1, z2].map V.int) (.cons (.int _) (.cons (.int _) .nil))
              have M7 := M57.keep s7
              generalize upd (upd (upd H5 l5 (HO.lst [V.int u1, V.int u2])) l6 (HO.lst (List.map V.int [z1, z2]))) t7 (HO.tup (List.map V.int [z1, z2])) = H7 at s7 s57 x7 M7
              have e37 : Ext p H3 H7 := B4.ext.trans (B5.ext.trans (Ext.same s57))
              have hq7 := tupE M3 e37 _ _ hq3
              have hR7 := hR3.extT (ExtT.ofE e37)
              have fl : Fx (.tuple [.int z1, .int z2]) 1 2 := (FxA.cons (fxI hz1.1 hz1.2) (FxA.cons (fxI hz2.1 hz2.2) (FxA.nil (n := 0)))).tup
              have Gl : C → Sec (.tuple [.int z1, .int z2]) := fun _ => sec2 (okS_int _ hz2.1 hz2.2)
              have e07 := e03.trans e37
              refine sl_to rfl rfl hq7 fun H186 t186 s186 g186 => ?_
              have h187 := s186 _ _ hq7
              have L187 := hR7.same s186
              have M188 := M7.keep s186
              have e188 := e07.trans (Ext.same s186)
              have K186 := L187.cut (none) (some (a1 : Nat))
              refine ⟨_, rfl, by show 1 ≤ sizeLine; decide, fun t8 ht8 => ?_⟩
              have s8 := Same.new (o := .tup [V.ref t7]) ht8
              have g8 := upd_same (H := H186) (a := t8) (o := .tup [V.ref t7])
              have K8 := (Rw.one (G := fun e => C → Sec e) (Da.extT (ExtT.ofS (s186.trans s8)) _ _ x7) fl Gl)
              generalize upd H186 t8 (.tup [V.ref t7]) = H8 at s8 g8 K8
              have h190 := s8 _ _ h187
              have L190 := L187.same s8
              have h191 := s8 _ _ g186
              have L191 := K186.same s8
              have M192 := M188.keep s8
              have e192 := e188.trans (Ext.same s8)
              have bx193 := L191.len
              have by193 := (K8.up (show 1 ≤ k + 1 by omega) (Nat.le_refl _)).len
              refine rd_catA h191 g8 (big (by omega) (by omega)) fun H193 t193 s193 g193 => ?_
              have K193 := (L191.app (K8.up (show 1 ≤ k + 1 by omega) (Nat.le_refl _))).same s193
              have h194 := s193 _ _ h190
              have L194 := L190.same s193
              have h195 := s193 _ _ h191
              have L195 := L191.same s193
              have h196 := s193 _ _ g8
              have L196 := (K8.up (show 1 ≤ k + 1 by omega) (Nat.le_refl _)).same s193
              have M197 := M192.keep s193
              have e197 := e192.trans (Ext.same s193)
              refine sl_from1 rfl rfl h194 fun H198 t198 s198 g198 => ?_
              have h199 := s198 _ _ h194
              have L199 := L194.same s198
              have h200 := s198 _ _ g193
              have L200 := K193.same s198
              have M201 := M197.keep s198
              have e201 := e197.trans (Ext.same s198)
              have K198 := L199.cut (some ((a1 : Nat) + 1)) (none)
              have bx202 := L200.len
              have by202 := K198.len
              refine rd_catA h200 g198 (big (by omega) (by omega)) fun H202 t202 s202 g202 => ?_
              have K202 := (L200.app K198).same s202
              have h203 := s202 _ _ h199
              have L203 := L199.same s202
              have h204 := s202 _ _ h200
              have L204 := L200.same s202
              have h205 := s202 _ _ g198
              have L205 := K198.same s202
              have M206 := M201.keep s202
              have e206 := e201.trans (Ext.same s202)
              obtain ⟨ds, hds, hfs, hgs⟩ := K202
              have hle := hds.len
              have hlen := hfs.len
              generalize cutV xs none (some (a1 : Nat)) ++ [V.ref t7] ++ cutV xs (some ((a1 : Nat) + 1)) none = ys at hds g202 hle
              generalize H202 = H9 at hds g202 M206 e206
              refine ⟨t202, rfl, ⟨_, SqT.of g202⟩, fun Dl hDl => ?_⟩
              have sD := Same.new (o := .lst []) hDl
              have good : PyData → Bool := fun e => (lineD 1000000 e).isSome
              refine lc_it (walk_tup (K := K) (a := t202) (xs := ys)) (fun j H' => (∃ (cs : List Addr) (ps : List (Nat × Nat)), H' Dl = some (.lst (refs cs)) ∧ PL H' cs ps ∧ (ps.map prD).Sublist (ds.take j) ∧ ps.length ≤ j) ∧ Same H9 H') ⟨⟨[], [], upd_same, .nil, List.nil_sublist _, Nat.zero_le _⟩, sD⟩ (fun j H' _ h => SqT.of (h.2 _ _ g202)) ?_ ?_
              · rintro j x' H11 H10 hj ⟨⟨cs, ps, hl, hC, hsub, hpl⟩, s1⟩ ⟨rfl, hx⟩
                have hx : ys[j]? = some x' := hx
                obtain ⟨e, he, hde⟩ := hds.get hx
                have htk : ds.take (j + 1) = ds.take j ++ [e] := by rw [List.take_succ, he]; rfl
                have hj' : j < 4000 := by omega
                refine ⟨rfl, ⟨_, rfl, _, _, rfl, rfl, powB_6, x', 1000000, p, p, e, rfl, Da.extT (ExtT.ofS s1) _ _ hde, fun H12 s2 => ?_⟩⟩
                have s12 := s1.trans s2
                have hl2 := s2 _ _ hl
                have hC2 := hC.mono (sameT s2)
                cases hb : lineD 1000000 e with
                | none =>
                  refine ⟨_, rfl, ?_⟩
                  refine iteF ⟨⟨cs, ps, hl2, hC2, ?_, by omega⟩, s12⟩
                  rw [htk]
                  exact hsub.trans (List.sublist_append_left _ _)
                | some lw =>
                  obtain ⟨b, rfl, hpb, _, _⟩ := line_at hde hb
                  have ee : e = prD lw := line_prD hb
                  refine ⟨_, rfl, ?_⟩
                  refine iteT ⟨_, rfl, refs cs, hl2, ?_, ⟨cs ++ [b], ps ++ [lw], ?_, ?_, ?_, ?_⟩, ?_⟩
                  · rw [show (refs cs).length = cs.length from List.length_map _, hC.len]
                    exact Nat.lt_of_lt_of_le (by omega : _ < 5000) (by decide)
                  · rw [upd_same, refs_app]
                    rfl
                  · have k9 : ∀ b' zs, H12 b' = some (.tup zs) → (upd H12 Dl (.lst (refs cs ++ [V.ref b]))) b' = some (.tup zs) := fun b' zs h => (upd_ne (ne_of h hl2 (by intro z; cases z))).trans h
                    exact (hC2.mono k9).app (.cons (k9 _ _ (s12 _ _ hpb)) .nil)
                  · rw [htk, List.map_append, ee]
                    exact hsub.append (List.Sublist.refl _)
                  · rw [List.length_append]
                    show ps.length + 1 ≤ j + 1
                    omega
                  · exact fun b' o eo => (upd_ne (ne_of_none eo hDl)).trans (s12 _ _ eo)
              · rintro H10 ⟨⟨cs, ps, hl, hC, hsub, hpl⟩, s1⟩
                rw [hle, List.take_length] at hsub
                show rSortedPO K [V.ref Dl] H10 (fun x H1 => kTup K x H1 Q)
                refine rd_sorted (SqL.of hl) hC fun bs qs l hC2 hperm _ hl2 => ?_
                have s2 := Same.new (o := .lst (refs bs)) hl2
                refine .inl ⟨l, _, rfl, SqL.of upd_same, fun tb htb => ?_⟩
                have s3 := Same.new (o := .tup (refs bs)) htb
                have s13 := s1.trans (s2.trans s3)
                have M13 := M206.keep s13
                have gb := upd_same (H := upd H10 l (.lst (refs bs))) (a := tb) (o := .tup (refs bs))
                refine fin (M13.lt (by omega) (by omega)) (e206.trans (Ext.same s13)) gb (Rw.up (k := k + 1) (n := ((n + 3) + n)) ⟨qs.map prD, ?_, (hfs.sub hsub).perm (hperm.map _), fun e he => hgs e (hsub.subset ((hperm.map _).mem_iff.mp he))⟩ (by omega) (by omega))
                exact da_pairs M13 (hC2.mono (sameT (s2.trans s3)))
            · skip
              have qp := tup_off M3 hq3
              have hl := g0.len
              refine ⟨_, rfl, q, _, rfl, SqT.of hq3, fun qa na ha => ?_⟩
              have sa := Same.new (o := .lst xs) ha
              have ga := upd_same (H := H3) (a := qa) (o := .lst xs)
              have ap := M3.apart ha
              generalize upd H3 qa (.lst xs) = Ha at sa ga
              have Ma := M3.keep sa
              have ha3 := sa _ _ hq3
              refine ⟨_, rfl, ?_⟩
              refine sl_toC rfl ha3 fun Hb tb sb gb => ?_
              have hb3 := sb _ _ ha3
              have hlb := hR3.len
              have hlc : (cutV xs none (some 1)).length ≤ n := (hR3.cut none (some 1)).len
              refine rd_catA hb3 gb (big (by omega) (by omega)) fun Hc tc sc gc => ?_
              have hc3 := sc _ _ hb3
              refine sl_toC rfl hc3 fun Hd td sd gd => ?_
              have hd3 := sd _ _ hc3
              have sad := sa.trans (sb.trans (sc.trans sd))
              have Md := M3.keep sad
              refine ⟨_, rfl, by show 1 ≤ sizeLine; decide, fun qe he => ?_⟩
              have se := Same.new (o := .tup [V.ref q]) he
              have ge := upd_same (H := Hd) (a := qe) (o := .tup [V.ref q])
              have ep := Md.apart he
              generalize upd Hd qe (.tup [V.ref q]) = He at se ge
              have Me := Md.keep se
              refine ⟨Nat.zero_le _, fun qf hf => ?_⟩
              have sf := Same.new (o := .tup []) hf
              have gf := upd_same (H := He) (a := qf) (o := .tup [])
              have fp := Me.apart hf
              generalize upd He qf (.tup []) = Hf at sf gf
              have Mf := Me.keep sf
              intro qg hg
              have sg := Same.new (o := .dK []) hg
              have gg := upd_same (H := Hf) (a := qg) (o := .dK [])
              have gp := Mf.apart hg
              generalize upd Hf qg (.dK []) = Hg at sg gg
              have Mg := Mf.keep sg
              refine ⟨by show 8 ≤ sizeLine; decide, fun Lz hLz => ?_⟩
              have sz := Same.new (o := .lst [V.ref qa, V.ref tc, V.non, V.ref td, V.ref qe, V.ref qf, V.ref qg, V.str "yard"]) hLz
              have gz := upd_same (H := Hg) (a := Lz) (o := .lst [V.ref qa, V.ref tc, V.non, V.ref td, V.ref qe, V.ref qf, V.ref qg, V.str "yard"])
              have zp := Mg.apart hLz
              generalize upd Hg Lz (.lst [V.ref qa, V.ref tc, V.non, V.ref td, V.ref qe, V.ref qf, V.ref qg, V.str "yard"]) = Hz at sz gz
              have Mz := Mg.keep sz
              have sfz := sf.trans (sg.trans sz)
              have sez := se.trans sfz
              have sdz := sd.trans sez
              have scz := sc.trans sdz
              have sbz := sb.trans scz
              have saz := sa.trans sbz
              refine ⟨_, rfl, p, c, _, 8, rfl, Mz, by omega, by decide, by decide, fun HE r ME eE r0 r8 => ?_⟩
              have Rz := hR3.same saz
              have Rc : Rw (fun e => C → Sec e) p Hz (cutV xs none (some 1)) (k + 1) n := Rz.cut _ _
              obtain ⟨dc, c1, c2, c3⟩ := id Rc
              obtain ⟨da, a1, a2, a3⟩ := Rz.app Rc
              have g2 := DaAll.extT (ExtT.ofS saz) _ _ g0
              have every : ∀ x ∈ [V.ref qa, V.ref tc, V.non, V.ref td, V.ref qe, V.ref qf, V.ref qg, V.str "yard"], ∃ d, Da p p Hz x d ∧ Fx d (k + 4) (5 * n + 80) ∧ (C → ∀ es, d = .tuple es → ∀ e ∈ es, Sec e) := fun x hx => by
                simp only [List.mem_cons, List.not_mem_nil, or_false] at hx
                rcases hx with rfl | rfl | rfl | rfl | rfl | rfl | rfl | rfl
                · exact ⟨_, .lst ap ap na (sbz _ _ ga) g2, f0.lst.up (by omega) (by omega), fun _ es e => by cases e⟩
                · exact ⟨_, .tup (tup_off Md (sd _ _ gc)) (tup_off Md (sd _ _ gc)) (sdz _ _ gc) a1, a2.tup.up (by omega) (by omega), fun h es e => by cases e; exact fun e he => a3 e he h⟩
                · exact ⟨_, .non, (⟨by decide +kernel, by decide +kernel, by decide +kernel, by decide +kernel⟩ : Fx .none 0 0).up (Nat.zero_le _) (Nat.zero_le _), fun _ es e => by cases e⟩
                · exact ⟨_, .tup (tup_off Md gd) (tup_off Md gd) (sez _ _ gd) c1, c2.tup.up (by omega) (by omega), fun h es e => by cases e; exact fun e he => c3 e he h⟩
                · refine ⟨.tuple [.tuple ds], .tup ep ep (sfz _ _ ge) (.cons (.tup qp qp (saz _ _ hq3) g2) .nil), ((FxA.cons f0.tup (FxA.nil (n := 0))).tup).up (by omega) (by omega), fun h es e => ?_⟩
                  cases e
                  intro e he
                  rw [List.mem_singleton.mp he]
                  intro a b e2
                  cases e2
                  exact hsmall h a b rfl
                · exact ⟨.tuple [], .tup fp fp ((sg.trans sz) _ _ gf) .nil, (⟨by decide +kernel, by decide +kernel, by decide +kernel, by decide +kernel⟩ : Fx (.tuple []) 1 0).up (by omega) (Nat.zero_le _), fun _ es e => by cases e; exact fun e he => absurd he (by simp)⟩
                · exact ⟨_, .emp gp gp (sz _ _ gg), (⟨by decide +kernel, by decide +kernel, by decide +kernel, by decide +kernel⟩ : Fx (.dict []) 1 0).up (by omega) (Nat.zero_le _), fun _ es e => by cases e⟩
                · exact ⟨_, .str "yard", (⟨by decide +kernel, by decide +kernel, by decide +kernel, by decide +kernel⟩ : Fx (.str "yard") 0 4).up (Nat.zero_le _) (by omega), fun _ es e => by cases e⟩
              have l8 : ([V.ref qa, V.ref tc, V.non, V.ref td, V.ref qe, V.ref qf, V.ref qg, V.str "yard"] : List V).length = 8 := rfl
              generalize ([V.ref qa, V.ref tc, V.non, V.ref td, V.ref qe, V.ref qf, V.ref qg, V.str "yard"] : List V) = zs at every gz l8
              have hj : r.toNat < zs.length := by omega
              obtain ⟨d', hda', hfx', hs'⟩ := every _ (List.getElem_mem hj)
              refine ⟨Lz, _, _, zs[r.toNat], rfl, rfl, SqL.of ((eE _ zp).trans gz), at_of (j := r.toNat) (by omega) (List.getElem?_eq_getElem hj), ?_⟩
              exact kk HE _ d' (ME.lt (by omega) (by omega)) ((e03.trans (Ext.same saz)).trans eE.ext) (Da.extT (ExtT.ofE eE.ext) _ _ hda') hfx' hs'
end
end One
end P_PQ

section P_M6
set_option linter.all false
namespace One
/-- what lies behind b, seen through crossing c sewn out at way w; k turns at most -/
def backK (F : Nat → Nat) (c w : Nat) : Nat → Nat → Option Nat
  | 0, b => if b / 4 = c then none else some b
  | k + 1, b => if b / 4 = c then backK F c w k (F (b ^^^ (w + 1))) else some b
theorem xor_two : ∀ n, n < 64 → (4 * n) ^^^ 2 = 4 * n + 2 ∧ (4 * n + 1) ^^^ 2 = 4 * n + 3 ∧ (4 * n + 2) ^^^ 2 = 4 * n ∧ (4 * n + 3) ^^^ 2 = 4 * n + 1 := by
  have h : ∀ n : Fin 64, (4 * (n : Nat)) ^^^ 2 = 4 * (n : Nat) + 2 ∧ (4 * (n : Nat) + 1) ^^^ 2 = 4 * (n : Nat) + 3 ∧ (4 * (n : Nat) + 2) ^^^ 2 = 4 * (n : Nat) ∧ (4 * (n : Nat) + 3) ^^^ 2 = 4 * (n : Nat) + 1 := by decide +kernel
  exact fun n hn => h ⟨n, hn⟩
theorem backK_out {F : Nat → Nat} {c w k b : Nat} (h : b / 4 ≠ c) : backK F c w k b = some b := by
  cases k <;> exact if_neg h
theorem backK_in {F : Nat → Nat} {c w k b : Nat} (h : b / 4 = c) : backK F c w (k + 1) b = backK F c w k (F (b ^^^ (w + 1))) := if_pos h
theorem put_yard {n : Nat} {ps T : List (Nat × Nat)} {i j : Nat} {a b : Nat × Nat} (y : Yard n ps) (ha : ps[i]? = some a) (hb : ps[j]? = some b) (hp : T.Perm (putOn n ps i j a b)) (hs : T.Pairwise leP) : Yard (n + 1) T := by
  refine yard_of_sorted (Nat.succ_pos _) (put_lines y.lines ha hb) (put_whole y.pos y.lines y.whole ha hb) (fun p m => ?_) hp hs
  have lt : ∀ q ∈ ps, q.1 < 4 * n ∧ q.2 < 4 * n := fun q hq => ⟨y.lines.lt _ (mem_ends.mpr ⟨q, hq, .inl rfl⟩), y.lines.lt _ (mem_ends.mpr ⟨q, hq, .inr rfl⟩)⟩
  obtain ⟨a1, a2⟩ := lt a (List.mem_of_getElem? ha)
  obtain ⟨b1, b2⟩ := lt b (List.mem_of_getElem? hb)
  rcases List.mem_append.mp m with m | m
  · exact Nat.le_of_lt (y.low p (mem_keep _ _ _ _ m))
  · unfold fresh at m
    split at m
    · simp only [List.mem_cons, List.not_mem_nil, or_false] at m
      rcases m with rfl | rfl | rfl <;> simp only <;> omega
    · simp only [List.mem_cons, List.not_mem_nil, or_false] at m
      rcases m with rfl | rfl | rfl | rfl <;> simp only <;> omega
theorem sew_back {n : Nat} {ps T : List (Nat × Nat)} {i j : Nat} {a b : Nat × Nat} (L : Lines n ps) (ha : ps[i]? = some a) (hb : ps[j]? = some b) (hp : T.Perm (putOn n ps i j a b)) (hn : n < 64) :
    (∀ e, e < 4 * n → backK (far T) n 1 2 (far T e) = some (far ps e)) ∧ (far T (4 * n) ≠ (4 * n) ^^^ 2 ∧ far T (4 * n + 1) ≠ (4 * n + 1) ^^^ 2 ∧ far T (4 * n + 2) ≠ (4 * n + 2) ^^^ 2 ∧ far T (4 * n + 3) ≠ (4 * n + 3) ^^^ 2) := by
  have LT : Lines (n + 1) T := (put_lines L ha hb).perm hp.symm
  obtain ⟨x0, x1, x2, x3⟩ := xor_two n hn
  have lt : ∀ q ∈ ps, q.1 < 4 * n ∧ q.2 < 4 * n := fun q hq => ⟨L.lt _ (mem_ends.mpr ⟨q, hq, .inl rfl⟩), L.lt _ (mem_ends.mpr ⟨q, hq, .inr rfl⟩)⟩
  have ma := List.mem_of_getElem? ha
  have mb := List.mem_of_getElem? hb
  obtain ⟨a1, a2⟩ := lt a ma
  obtain ⟨b1, b2⟩ := lt b mb
  have d0 : (4 * n) / 4 = n := by omega
  have d1 : (4 * n + 1) / 4 = n := by omega
  have d2 : (4 * n + 2) / 4 = n := by omega
  have d3 : (4 * n + 3) / 4 = n := by omega
  have out : ∀ {b k}, b < 4 * n → backK (far T) n 1 k b = some b := fun h => backK_out (by omega)
  have isT : ∀ {p}, p ∈ putOn n ps i j a b → far T p.1 = p.2 ∧ far T p.2 = p.1 := fun m => far_of LT.nd (hp.mem_iff.mpr m)
  have kept : ∀ p ∈ keepIx (notIJ i j) 0 ps, ∀ e, e = p.1 ∨ e = p.2 → backK (far T) n 1 2 (far T e) = some (far ps e) := fun p m e he => by
    have mp := mem_keep _ _ _ _ m
    obtain ⟨t1, t2⟩ := isT (p := p) (List.mem_append_left _ m)
    obtain ⟨o1, o2⟩ := far_of L.nd mp
    obtain ⟨l1, l2⟩ := lt p mp
    rcases he with rfl | rfl
    · rw [t1, o1]; exact out l2
    · rw [t2, o2]; exact out l1
  by_cases hij : i = j
  · subst hij
    have eab : b = a := Option.some.inj (hb.symm.trans ha)
    subst eab
    have fr : fresh n i i b b = [(b.1, 4 * n), (4 * n + 1, 4 * n + 2), (b.2, 4 * n + 3)] := if_pos rfl
    have mem : ∀ q ∈ fresh n i i b b, far T q.1 = q.2 ∧ far T q.2 = q.1 := fun q m => isT (List.mem_append_right _ m)
    rw [fr] at mem
    obtain ⟨p1, p2⟩ := mem (b.1, 4 * n) (by simp)
    obtain ⟨p3, p4⟩ := mem (4 * n + 1, 4 * n + 2) (by simp)
    obtain ⟨p5, p6⟩ := mem (b.2, 4 * n + 3) (by simp)
    simp only at p1 p2 p3 p4 p5 p6
    obtain ⟨g1, g2⟩ := far_of L.nd mb
    refine ⟨fun e he => ?_, ?_, ?_, ?_, ?_⟩
    · obtain ⟨p, m, z⟩ := mem_ends.mp (ends_full L he)
      rcases List.mem_cons.mp ((keep_one ha).mem_iff.mp m) with e1 | m
      · subst e1
        rcases z with rfl | rfl
        · rw [p1, g1, backK_in d0, x0, p4, backK_in d1, x1, p6]
          exact out b2
        · rw [p5, g2, backK_in d3, x3, p3, backK_in d2, x2, p2]
          exact out b1
      · exact kept p m e z
    · rw [p2, x0]; omega
    · rw [p3, x1]; omega
    · rw [p4, x2]; omega
    · rw [p6, x3]; omega
  · have fr : fresh n i j a b = [(a.1, 4 * n), (a.2, 4 * n + 2), (b.1, 4 * n + 1), (b.2, 4 * n + 3)] := if_neg hij
    have mem : ∀ q ∈ fresh n i j a b, far T q.1 = q.2 ∧ far T q.2 = q.1 := fun q m => isT (List.mem_append_right _ m)
    rw [fr] at mem
    obtain ⟨p1, p2⟩ := mem (a.1, 4 * n) (by simp)
    obtain ⟨p3, p4⟩ := mem (a.2, 4 * n + 2) (by simp)
    obtain ⟨p5, p6⟩ := mem (b.1, 4 * n + 1) (by simp)
    obtain ⟨p7, p8⟩ := mem (b.2, 4 * n + 3) (by simp)
    simp only at p1 p2 p3 p4 p5 p6 p7 p8
    obtain ⟨g1, g2⟩ := far_of L.nd ma
    obtain ⟨g3, g4⟩ := far_of L.nd mb
    refine ⟨fun e he => ?_, ?_, ?_, ?_, ?_⟩
    · obtain ⟨p, m, z⟩ := mem_ends.mp (ends_full L he)
      rcases List.mem_cons.mp ((keep_two hij ha hb).mem_iff.mp m) with e1 | m
      · subst e1
        rcases z with rfl | rfl
        · rw [p1, g1, backK_in d0, x0, p4]
          exact out a2
        · rw [p3, g2, backK_in d2, x2, p2]
          exact out a1
      · rcases List.mem_cons.mp m with e1 | m
        · subst e1
          rcases z with rfl | rfl
          · rw [p5, g3, backK_in d1, x1, p8]
            exact out b2
          · rw [p7, g4, backK_in d3, x3, p6]
            exact out b1
        · exact kept p m e z
    · rw [p2, x0]; omega
    · rw [p6, x1]; omega
    · rw [p4, x2]; omega
    · rw [p8, x3]; omega
end One
end P_M6

section P_M7
set_option linter.all false
set_option maxRecDepth 100000
namespace One
/-- the first i crossings' lines of a ring of n -/
def ringU (n i : Nat) : List (Nat × Nat) := (List.range i).flatMap fun k => [low (4 * k) (4 * ((k + 1) % n) + 2), low (4 * k + 1) (4 * ((k + 1) % n) + 3)]
theorem ringU_snoc (n i : Nat) : ringU n (i + 1) = ringU n i ++ [low (4 * i) (4 * ((i + 1) % n) + 2), low (4 * i + 1) (4 * ((i + 1) % n) + 3)] := by
  unfold ringU
  rw [List.range_succ, List.flatMap_append]
  simp
theorem ring_len (n : Nat) : ∀ i, (ringU n i).length = 2 * i
  | 0 => rfl
  | i + 1 => by
    rw [ringU_snoc, List.length_append, ring_len n i]
    show 2 * i + 2 = _
    omega
theorem ring_whole (n : Nat) : Whole n (ringU n n) := by
  intro P hP h0 c hc
  induction c with
  | zero => exact h0
  | succ c ih =>
    have hc' : c < n := by omega
    have m : low (4 * c) (4 * ((c + 1) % n) + 2) ∈ ringU n n := List.mem_flatMap.mpr ⟨c, List.mem_range.mpr hc', by simp⟩
    have e := hP _ m
    rw [Nat.mod_eq_of_lt hc] at e
    have el : low (4 * c) (4 * (c + 1) + 2) = (4 * c, 4 * (c + 1) + 2) := if_neg (by omega)
    rw [el] at e
    simp only at e
    rw [show 4 * c / 4 = c by omega, show (4 * (c + 1) + 2) / 4 = c + 1 by omega] at e
    exact e.mp (ih hc')
theorem ring_lines : ∀ n, n = 39 ∨ n = 40 → Lines n (ringU n n) := by
  have h39 : (ends (ringU 39 39)).Nodup ∧ ∀ e ∈ ends (ringU 39 39), e < 156 := by decide +kernel
  have h40 : (ends (ringU 40 40)).Nodup ∧ ∀ e ∈ ends (ringU 40 40), e < 160 := by decide +kernel
  rintro n (rfl | rfl)
  · exact ⟨ring_len 39 39, h39.1, h39.2⟩
  · exact ⟨ring_len 40 40, h40.1, h40.2⟩
theorem ring_le (n i : Nat) : ∀ p ∈ ringU n i, p.1 ≤ p.2 := fun p m => by
  obtain ⟨k, _, h⟩ := List.mem_flatMap.mp m
  simp only [List.mem_cons, List.not_mem_nil, or_false] at h
  rcases h with rfl | rfl <;> exact low_le _ _
theorem ring_yard {n : Nat} {M : List (Nat × Nat)} (h : n = 39 ∨ n = 40) (hp : M.Perm (ringU n n)) (hs : M.Pairwise leP) : Yard n M :=
  yard_of_sorted (by omega) (ring_lines n h) (ring_whole n) (ring_le n n) hp hs
end One
end P_M7

section P_PT
set_option linter.all false
set_option maxRecDepth 100000
set_option maxHeartbeats 8000000
namespace One
open PySem PySem.Spec PyProof.Rows L2
abbrev sRing : Stmt := top 38
abbrev nRing : List Str := ["many", "found", "k", "goal"]
theorem scRing : FnScope nRing ["many"] (defScope sRing) := ⟨rfl, rfl, rfl, by decide +kernel, rfl, by decide +kernel, by decide +kernel⟩
def spRg : Sp := fun vs H Q _ => ∃ n : Nat, vs = [.int (n : Nat)] ∧ 0 < n ∧ n ≤ 41 ∧ ∀ (H' : Hp) (t : Addr) (as : List Addr) (ps : List (Nat × Nat)), Same H H' → H' t = some (.tup (refs as)) → PL H' as ps → ps.Perm (ringU n n) → ps.Pairwise leP → Q (.ref t) H'
section
variable {P : Program} {w : World} {K : PySem.W.Frag} {mg : Str → Option Value} {base : Heap}
theorem ok_ring {f : Addr} {fd : FuncData} (F : Fun K "_law_ring" "_law_ring" sRing f fd) (T : TB mg) : FnOk P w K mg base CX0 1 f fd ["many"] spRg := by
  refine F.ok scRing (fun vs H Q E h => ?_) (fun cdv A outer s H vs Q E hr h => ?_)
  · obtain ⟨n, rfl, _⟩ := h
    rfl
  · obtain ⟨n, rfl, hn0, hn, hq⟩ := h
    have nd := scRing.nd
    refine ⟨_, pss_cons (ps_set (i := 1) nd rfl (Or.inl rfl) (pe_lst pa_nil))
      (pss_cons (ps_for PassesOwn.never rfl (pi_range1 (by rfl) T.range (pa_cons (pv 0) pa_nil)) (pg_name (i := 2) nd rfl (Or.inl rfl))
        (pss_cons (ps_set (i := 3) nd rfl (Or.inl rfl) (pe_op op_mul pe_int (pe_op op_mod (pe_op op_add (pv 2) pe_int) (pv 0))))
        (pss_one (ps_set (i := 1) nd rfl (Or.inl rfl) (pe_op op_catS (pv 1) (pe_lst (pa_cons (pe_tupleOf (by rfl) T.tuple (pe_callB cr_sorted (by rfl) T.sorted boot_sorted (pa_cons (pe_lst (pa_cons (pe_op op_mul pe_int (pv 2)) (pa_cons (pe_op op_add (pv 3) pe_int) pa_nil))) pa_nil)))
          (pa_cons (pe_tupleOf (by rfl) T.tuple (pe_callB cr_sorted (by rfl) T.sorted boot_sorted (pa_cons (pe_lst (pa_cons (pe_op op_add (pe_op op_mul pe_int (pv 2)) pe_int) (pa_cons (pe_op op_add (pv 3) pe_int) pa_nil))) pa_nil))) pa_nil))))))))
      (pss_one (ps_ret (pe_tupleOf (by rfl) T.tuple (pe_callB cr_sortedPO (by rfl) T.sorted boot_sorted (pa_cons (pv 1) pa_nil)))))), ?_⟩
    refine ⟨Nat.zero_le _, fun D0 hD0 => ?_⟩
    have s0 := Same.new (o := .lst []) hD0
    refine ⟨_, rfl, n, rfl, by omega, by omega, ?_⟩
    refine for_range (lo := 0) (n := ((n : Nat) : Int).toNat) (fun i σ H' => ∃ (D : Addr) (as : List Addr) (v2 v3 : Option V), σ = [some (.int (n : Nat)), some (.ref D), v2, v3] ∧ Same H H' ∧ H' D = some (.lst (refs as)) ∧ PL H' as (ringU n i)) ⟨D0, [], none, none, rfl, s0, upd_same, .nil⟩ ?_ ?_
    · rintro i σ H1 hi ⟨D, as, v2, v3, rfl, s1, hD, hP⟩
      have hi : i < n := by omega
      have lP : as.length = 2 * i := by rw [hP.len, ring_len]
      have em : ((0 : Int) + (i : Nat) + 1) % (n : Nat) = (((i + 1) % n : Nat) : Int) := by
        rw [show ((0 : Int) + (i : Nat) + 1) = ((i + 1 : Nat) : Int) by omega]
        rfl
      refine ⟨_, rfl, _, _, rfl, rfl, _, rfl, _, _, rfl, rfl, (by show (0 : Int) < (n : Nat); omega), _, _, rfl, rfl, .inl ⟨by decide, by decide⟩, ?_⟩
      have x1 : (4 : Int) * ((0 : Int) + (i : Nat)) = ((4 * i : Nat) : Int) := by omega
      have x2 : (4 : Int) * (((0 : Int) + (i : Nat) + 1) % (n : Nat)) + 2 = ((4 * ((i + 1) % n) + 2 : Nat) : Int) := by rw [em]; omega
      have x3 : (4 : Int) * ((0 : Int) + (i : Nat)) + 1 = ((4 * i + 1 : Nat) : Int) := by omega
      have x4 : (4 : Int) * (((0 : Int) + (i : Nat) + 1) % (n : Nat)) + 3 = ((4 * ((i + 1) % n) + 3 : Nat) : Int) := by rw [em]; omega
      refine ⟨_, rfl, ?_⟩
      refine ⟨_, rfl, _, _, rfl, rfl, .inl ⟨by decide, by decide⟩, _, rfl, _, _, rfl, rfl, two_le, fun l hl => ?_⟩
      have u1 := Same.new (o := .lst [V.int ((4 : Int) * ((0 : Int) + (i : Nat))), V.int ((4 : Int) * (((0 : Int) + (i : Nat) + 1) % (n : Nat)) + 2)]) hl
      refine ⟨l, [(4 : Int) * ((0 : Int) + (i : Nat)), (4 : Int) * (((0 : Int) + (i : Nat) + 1) % (n : Nat)) + 2], rfl, SqL.of upd_same, (by show 2 < 64; decide), fun ns l2 hp hs hl2 => ?_⟩
      have u2 := Same.new (o := .lst (ns.map V.int)) hl2
      rw [x1, x2] at hp
      have en := low_of hp hs
      subst en
      refine .inl ⟨l2, _, rfl, SqL.of upd_same, fun t1 ht1 => ?_⟩
      have u3 := Same.new (o := .tup [V.int ((low (4 * i) (4 * ((i + 1) % n) + 2)).1 : Nat), V.int ((low (4 * i) (4 * ((i + 1) % n) + 2)).2 : Nat)]) ht1
      have w1 := u1.trans (u2.trans u3)
      refine ⟨_, rfl, _, _, rfl, rfl, .inl ⟨by decide, by decide⟩, _, _, rfl, rfl, _, rfl, _, _, rfl, rfl, two_le, fun l3 hl3 => ?_⟩
      have u4 := Same.new (o := .lst [V.int ((4 : Int) * ((0 : Int) + (i : Nat)) + 1), V.int ((4 : Int) * (((0 : Int) + (i : Nat) + 1) % (n : Nat)) + 3)]) hl3
      refine ⟨l3, [(4 : Int) * ((0 : Int) + (i : Nat)) + 1, (4 : Int) * (((0 : Int) + (i : Nat) + 1) % (n : Nat)) + 3], rfl, SqL.of upd_same, (by show 2 < 64; decide), fun ns2 l4 hp2 hs2 hl4 => ?_⟩
      have u5 := Same.new (o := .lst (ns2.map V.int)) hl4
      rw [x3, x4] at hp2
      have en2 := low_of hp2 hs2
      subst en2
      refine .inl ⟨l4, _, rfl, SqL.of upd_same, fun t2 ht2 => ?_⟩
      have u6 := Same.new (o := .tup [V.int ((low (4 * i + 1) (4 * ((i + 1) % n) + 3)).1 : Nat), V.int ((low (4 * i + 1) (4 * ((i + 1) % n) + 3)).2 : Nat)]) ht2
      have w2 := u4.trans (u5.trans u6)
      refine ⟨two_le, fun l5 hl5 => ?_⟩
      have u7 := Same.new (o := .lst [V.ref t1, V.ref t2]) hl5
      have wA := w1.trans (w2.trans u7)
      refine ⟨D, l5, _, _, rfl, rfl, SqL.of (wA _ _ hD), upd_same, Nat.le_of_lt (small1000 (by rw [List.length_map]; show _ + 2 ≤ 1000; omega)), fun l6 hl6 => ?_⟩
      have u8 := Same.new (o := .lst (refs as ++ [V.ref t1, V.ref t2])) hl6
      have wB := wA.trans u8
      refine ⟨l6, as ++ [t1, t2], _, _, rfl, s1.trans wB, by rw [upd_same, refs_app]; rfl, ?_⟩
      rw [ringU_snoc]
      exact (hP.mono (sameT wB)).app (.cons (u8 _ _ (u7 _ _ (w2 _ _ upd_same))) (.cons (u8 _ _ (u7 _ _ upd_same)) .nil))
    · rintro σ H1 ⟨D, as, v2, v3, rfl, s1, hD, hP⟩
      refine ⟨_, rfl, ?_⟩
      show rSortedPO K [V.ref D] _ (fun x H1 => kTup K x H1 Q)
      refine rd_sorted (SqL.of hD) hP fun cs qs l2 hC hperm hle hl2 => ?_
      have s10 := Same.new (o := .lst (refs cs)) hl2
      refine .inl ⟨l2, _, rfl, SqL.of upd_same, fun u hu => ?_⟩
      have s11 := Same.new (o := .tup (refs cs)) hu
      have hperm : qs.Perm (ringU n n) := hperm
      exact hq _ u cs qs (s1.trans (s10.trans s11)) upd_same (hC.mono (sameT (s10.trans s11))) hperm hle
end
end One
end P_PT

section P_PX
set_option linter.all false
set_option maxRecDepth 100000
set_option maxHeartbeats 16000000
namespace One
open PySem PySem.Spec PyProof.Rows L2
abbrev sLaw : Stmt := top 40
abbrev nLaw : List Str := ["script", "m", "turn", "yard", "other", "bent", "again", "beside", "thing", "kept", "many"]
theorem scLaw : FnScope nLaw ["script"] (defScope sLaw) := ⟨rfl, rfl, rfl, by decide +kernel, rfl, by decide +kernel, by decide +kernel⟩
theorem fx_pr {q : Nat × Nat} (h1 : q.1 < 2000) (h2 : q.2 < 2000) : Fx (prD q) 1 2 := (FxA.cons (fxI (Int.natCast_nonneg _) (by omega)) (FxA.cons (fxI (Int.natCast_nonneg _) (by omega)) (FxA.nil (n := 0)))).tup
theorem fx_prs {ps : List (Nat × Nat)} (h : ∀ q ∈ ps, q.1 < 2000 ∧ q.2 < 2000) : FxA (ps.map prD) 1 (3 * ps.length) := by
  have a := fxA_all (k := 1) (n := 2) (ds := ps.map prD) fun d hd => by
    obtain ⟨q, hq, rfl⟩ := List.mem_map.mp hd
    exact fx_pr (h q hq).1 (h q hq).2
  rw [List.length_map] at a
  exact a
theorem two_pr {q : Nat × Nat} (h1 : q.1 < 2000) (h2 : q.2 < 2000) : Two (prD q) := fun x y e => by
  cases e
  exact ⟨okS_int _ (Int.natCast_nonneg _) (by omega), okS_int _ (Int.natCast_nonneg _) (by omega)⟩
theorem rw_prs {C : Prop} {p c : Addr} {H : Hp} {n : Nat} (M : MS H p c n) {as : List Addr} {ps : List (Nat × Nat)} (hP : PL H as ps) (h : ∀ q ∈ ps, q.1 < 2000 ∧ q.2 < 2000) (hl : 3 * ps.length ≤ 93) : Rw (fun e => Sec e ∧ (C → Two e)) p H (refs as) 1 93 :=
  ⟨ps.map prD, da_pairs M hP, (fx_prs h).up (Nat.le_refl _) hl, fun d hd => by
    obtain ⟨q, hq, rfl⟩ := List.mem_map.mp hd
    have t := two_pr (h q hq).1 (h q hq).2
    exact ⟨t.sec, fun _ => t⟩⟩
/-- what stands at a pair's address is that pair -/
theorem da_at {p : Addr} {H : Hp} {a : Addr} {q : Nat × Nat} {d : PyData} (h : Da p p H (.ref a) d) (hp : PAt H a q) : d = prD q := by
  have hp : H a = some (.tup [.int (q.1 : Nat), .int (q.2 : Nat)]) := hp
  cases h with
  | lst _ _ _ f _ => rw [hp] at f; cases f
  | emp _ _ f => rw [hp] at f; cases f
  | tup _ _ f g =>
    rw [hp] at f
    cases f
    cases g with
    | cons g1 g2 =>
      cases g1
      cases g2 with
      | cons g3 g4 =>
        cases g3
        cases g4
        rfl
theorem place_whole {ds : List PyData} (h : placeY (.tuple ds) = none) : Whole (ds.length / 2) ((ds.map (lineD (2 * ds.length))).filterMap id) := by
  have e : placeY (.tuple ds) = if canBe (ds.length : Nat) then
      match goF 0 [] none (ds.map (lineD (2 * ds.length))) with
      | some k => some [k]
      | none => open Classical in if Whole (ds.length / 2) ((ds.map (lineD (2 * ds.length))).filterMap id) then none else some [ds.length]
      else some [] := rfl
  rw [e] at h
  split at h
  · split at h
    · cases h
    · split at h
      · assumption
      · cases h
  · cases h
theorem line_pr {N : Nat} {q : Nat × Nat} (h : q.1 < q.2) (h2 : q.2 < N) : lineD N (prD q) = some q := by
  show (if 0 ≤ ((q.1 : Nat) : Int) ∧ ((q.1 : Nat) : Int) < (N : Int) ∧ 0 ≤ ((q.2 : Nat) : Int) ∧ ((q.2 : Nat) : Int) < (N : Int) ∧ ((q.1 : Nat) : Int) < ((q.2 : Nat) : Int) then some (((q.1 : Nat) : Int).toNat, ((q.2 : Nat) : Int).toNat) else none) = _
  rw [if_pos (by omega)]
  simp
theorem lines_pr {N : Nat} : ∀ {ps : List (Nat × Nat)}, (∀ q ∈ ps, q.1 < q.2 ∧ q.2 < N) → (ps.map prD).map (lineD N) = ps.map some
  | [], _ => rfl
  | q :: ps, h => by
    rw [List.map_cons, List.map_cons, List.map_cons, line_pr (h q (List.mem_cons_self ..)).1 (h q (List.mem_cons_self ..)).2, lines_pr fun r hr => h r (List.mem_cons_of_mem _ hr)]
/-- two yards side by side are none -/
theorem place_apart {n m : Nat} {ps qs : List (Nat × Nat)} (Y : Yard n ps) (Z : Yard m qs) : placeY (yd (ps ++ shift (2 * ps.length) qs)) ≠ none := fun h => by
  have lp := Y.lines.len
  have lq := Z.lines.len
  have ll : (ps ++ shift (2 * ps.length) qs).length = 2 * (n + m) := by
    rw [List.length_append, show (shift (2 * ps.length) qs).length = qs.length from List.length_map _]
    omega
  have sh : ∀ p ∈ shift (2 * ps.length) qs, ∃ p' ∈ qs, p = (p'.1 + 4 * n, p'.2 + 4 * n) := fun p hp => by
    obtain ⟨p', h1, rfl⟩ := List.mem_map.mp hp
    exact ⟨p', h1, by rw [lp]; congr 1 <;> omega⟩
  have hw := place_whole h
  have hlt : ∀ q ∈ ps ++ shift (2 * ps.length) qs, q.1 < q.2 ∧ q.2 < 2 * ((ps ++ shift (2 * ps.length) qs).map prD).length := fun q hq => by
    rw [List.length_map, ll]
    rcases List.mem_append.mp hq with hq | hq
    · have := Y.lt q hq
      omega
    · obtain ⟨p', m', rfl⟩ := sh q hq
      have := Z.lt p' m'
      constructor <;> show _ < _ <;> omega
  rw [lines_pr hlt, List.filterMap_map, List.length_map, ll] at hw
  have hw : Whole (2 * (n + m) / 2) (ps ++ shift (2 * ps.length) qs) := by simpa using hw
  have := Y.pos
  have := Z.pos
  have := hw (fun c => c < n) (fun p hp => ?_) Y.pos n (by omega)
  · omega
  · rcases List.mem_append.mp hp with hp | hp
    · have := Y.lt p hp
      show p.1 / 4 < n ↔ p.2 / 4 < n
      omega
    · obtain ⟨p', m', rfl⟩ := sh p hp
      show (p'.1 + 4 * n) / 4 < n ↔ (p'.2 + 4 * n) / 4 < n
      omega
theorem place_great {ps : List (Nat × Nat)} (h : 80 < ps.length) : placeY (yd ps) ≠ none := fun e => by
  have e2 : placeY (yd ps) = if canBe ((ps.map prD).length : Nat) then
      match goF 0 [] none ((ps.map prD).map (lineD (2 * (ps.map prD).length))) with
      | some k => some [k]
      | none => open Classical in if Whole ((ps.map prD).length / 2) (((ps.map prD).map (lineD (2 * (ps.map prD).length))).filterMap id) then none else some [(ps.map prD).length]
      else some [] := rfl
  have hc : canBe (((ps.map prD).length : Nat) : Int) = false := by
    unfold canBe
    rw [List.length_map, decide_eq_false (p := ((ps.length : Nat) : Int) ≤ 80) (by omega), Bool.and_false]
    rfl
  rw [e2, hc] at e
  cases e
theorem ring_lt {n : Nat} (hn : 0 < n) : ∀ p ∈ ringU n n, p.1 < 4 * n + 4 ∧ p.2 < 4 * n + 4 := fun p m => by
  obtain ⟨k, hk, h⟩ := List.mem_flatMap.mp m
  have hk := List.mem_range.mp hk
  have hm := Nat.mod_lt (k + 1) hn
  have lo : ∀ a b : Nat, a < 4 * n + 4 → b < 4 * n + 4 → (low a b).1 < 4 * n + 4 ∧ (low a b).2 < 4 * n + 4 := fun a b ha hb => by
    unfold low
    split <;> exact ⟨by assumption, by assumption⟩
  simp only [List.mem_cons, List.not_mem_nil, or_false] at h
  rcases h with rfl | rfl <;> exact lo _ _ (by omega) (by omega)
theorem tabs_soft {T : List (Addr × Str)} {H H' : Hp} (t : LamX.Tabs T H) (e : ∀ b o, (∀ xs, o ≠ .lst xs) → (∀ kvs, o ≠ .dK kvs) → H b = some o → H' b = some o) : LamX.Tabs T H' := fun q hq => by
  obtain ⟨ps, h1, h2, h3⟩ := t q hq
  refine ⟨ps, e _ _ (fun _ z => nomatch z) (fun _ z => nomatch z) h1, h2, fun pos cv hcv => ?_⟩
  obtain ⟨c', rfl, hc⟩ := h3 pos cv hcv
  exact ⟨c', rfl, e _ _ (fun _ z => nomatch z) (fun _ z => nomatch z) hc⟩
theorem tabs_ext {T : List (Addr × Str)} {H H' : Hp} {p c : Addr} {n : Nat} (t : LamX.Tabs T H) (M : MS H p c n) (e : Ext p H H') : LamX.Tabs T H' := tabs_soft t fun b o n1 n2 h => e b o (fun z => by
  subst z
  obtain ⟨_, _, _, _, h1, _⟩ := M.ex
  exact n2 _ (Option.some.inj (h.symm.trans h1))) h
theorem Since.wr {T : List (Addr × Str)} {p c : Addr} {n : Nat} {H H1 : Hp} {L : Addr} {xs ys : List V} (S : Since T p c n H H1) (M0 : MS H p c n) (h0 : H L = none) (h1 : H1 L = some (.lst xs)) : Since T p c n H (upd H1 L (.lst ys)) := by
  obtain ⟨oc, hoc⟩ := M0.cAt
  exact ⟨fun b o n1 n2 n3 e => (upd_ne (ne_of_none e h0)).trans (S.e b o n1 n2 n3 e), S.M.wr (M0.apart h0) (fun z => by rw [z, hoc] at h0; cases h0), tabs_soft S.t fun b o n1 n2 h => (upd_ne (fun z => by
    subst z
    exact n1 _ (Option.some.inj (h.symm.trans h1)))).trans h⟩
theorem all_true {n : Nat} : ∀ {K : PySem.W.Frag} {H : Hp}, DpAll K H (List.replicate n (V.bl true)) (List.replicate n (PyData.bool true)) := fun {K H} => by
  induction n with
  | zero => exact .nil
  | succ n ih => exact .cons (.bl true) ih
def spLaw (K : PySem.W.Frag) (Pt : Addr) : Sp := fun vs H Q _ => ∃ (a : Addr) (ns : List Int), vs = [.ref a] ∧ SqL K H a (ns.map V.int) ∧ ns.length ≤ 63 ∧ H Pt = some (.tbl #[]) ∧ ∀ H', Q (.bl true) H'
section
variable {P : Program} {w : World} {K : PySem.W.Frag} {mg : Str → Option Value} {base : Heap} {Pt : Addr}
theorem ok_law {f fB fY fBe fBs fR fI fG : Addr} {fd dB dY dBe dBs dR dI dG : FuncData} {TT : List (Addr × Str)} (hTT : TT = [(Pt, qualR)]) (F : Fun K "law" "law" sLaw f fd) (T : TB mg) (hMost : ∃ t, mg "MOST_CROSSINGS" = some (.int 40 t)) (cB : Cal K mg "_law_begun" fB dB ["script"]) (gB : FnOk P w K mg base CX0 1 fB dB ["script"] (spBegun K))
    (cY : Cal K mg "_law_yard" fY dY ["m", "most"]) (gY : FnOk P w K mg base CX0 3 fY dY ["m", "most"] spYard) (cBe : Cal K mg "_law_bent" fBe dBe ["m", "thing"]) (gBe : FnG P w K mg base CX0 3 fBe dBe ["m", "thing"] spBe)
    (cBs : Cal K mg "_law_beside" fBs dBs ["one", "other"]) (gBs : FnOk P w K mg base CX0 1 fBs dBs ["one", "other"] spBs) (cR : Cal K mg "_law_right" fR dR ["thing"]) (gR : FnG P w K mg base CX0 10 fR dR ["thing"] (spRi TT))
    (cI : Cal K mg "is_yard" fI dI ["thing"]) (gI : FnOk P w K mg base CX0 5 fI dI ["thing"] spIsYard) (cRg : Cal K mg "_law_ring" fG dG ["many"]) (gG : FnOk P w K mg base CX0 1 fG dG ["many"] spRg) :
    FnG P w K mg base CX0 11 f fd ["script"] (spLaw K Pt) := by
  refine okG0 F scLaw (fun vs H Q E h => ?_) (fun cdv A outer s H vs Q E hgd hr h => ?_)
  · obtain ⟨a, ns, rfl, _⟩ := h
    rfl
  · obtain ⟨a, ns, rfl, hS, hl, hPt, k⟩ := h
    have nd := scLaw.nd
    have hu : (A.deeper (envOfC "law" (defScope sLaw) s.heap.objs.size f cdv)).units + 64 < cLine := hr.units
    have rm : ∀ {j : Nat}, j ≤ 10 → Room j (A.deeper (envOfC "law" (defScope sLaw) s.heap.objs.size f cdv)) := fun h => hr.mono h
    have rp : ∀ {X' : Cx}, X'.A = A.deeper (envOfC "law" (defScope sLaw) s.heap.objs.size f cdv) → CallR X' (.builtin "repr") (rReprQ X'.K) := fun e => cr_reprQ (by rw [e]; exact hgd) (by rw [e]; exact hu)
    obtain ⟨tM, hMost⟩ := hMost
    refine ⟨_, pss_cons (ps_set (i := 1) nd rfl (Or.inl rfl) (pe_call gB (rm (by decide)) rfl cB.g cB.kp cB.b .nil pass0 (pa_cons (pv 0) pa_nil)))
      (pss_cons (ps_for PassesOwn.never rfl (pi_range1 (by rfl) T.range (pa_cons pe_int pa_nil)) (pg_name (i := 2) nd rfl (Or.inl rfl))
        (pss_cons (ps_par (i := 3) (j := 4) (by rfl) nd rfl rfl (by decide) rfl rfl (pa_cons (pe_call gY (rm (by decide)) rfl cY.g cY.kp cY.b .nil pass0 (pa_cons (pv 1) (pa_cons pe_int pa_nil))) (pa_cons (pe_call gY (rm (by decide)) rfl cY.g cY.kp cY.b .nil pass0 (pa_cons (pv 1) (pa_cons pe_int pa_nil))) pa_nil)) (by rfl))
      (pss_cons (ps_set (i := 5) nd rfl (Or.inl rfl) (pe_callG gBe (by exact hgd) (rm (by decide)) rfl cBe.g cBe.kp cBe.b .nil pass0 (pa_cons (pv 1) (pa_cons (pv 3) pa_nil))))
      (C8.pss_cut (ps_set (i := 6) nd rfl (Or.inl rfl) (pe_ifExp (pt_val (pe_callB call_isi (by rfl) T.isinstance boot_isinstance (pa_cons (pv 5) (pa_cons (pe_bltn (v := .ty "tuple") (by rfl) T.tuple boot_tuple rfl) pa_nil)))) (pe_callG gBe (by exact hgd) (rm (by decide)) rfl cBe.g cBe.kp cBe.b .nil pass0 (pa_cons (pv 1) (pa_cons (pv 5) pa_nil))) (pv 5)))
      (pss_cons (ps_set (i := 7) nd rfl (Or.inl rfl) (pe_call gBs (rm (by decide)) rfl cBs.g cBs.kp cBs.b .nil pass0 (pa_cons (pv 3) (pa_cons (pv 4) pa_nil))))
      (pss_cons (ps_for PassesOwn.never rfl (pi_tup (pe_tup (pa_cons (pv 3) (pa_cons (pv 5) (pa_cons (pv 6) (pa_cons (pv 3) (pa_cons (pv 7) (pa_cons (pe_callG gBe (by exact hgd) (rm (by decide)) rfl cBe.g cBe.kp cBe.b .nil pass0 (pa_cons (pv 1) (pa_cons (pv 7) pa_nil))) pa_nil)))))))) (pg_name (i := 8) nd rfl (Or.inl rfl))
        (pss_cons (ps_set (i := 9) nd rfl (Or.inl rfl) (pe_callB (rp rfl) (by rfl) T.repr boot_repr (pa_cons (pv 8) pa_nil)))
      (pss_one (ps_if (PW.pt (pw_or (pt_not (pt_val (pe_callG gR (by exact hgd) (rm (by decide)) rfl cR.g cR.kp cR.b .nil pass0 (pa_cons (pv 8) pa_nil)))) (pw_or1 (pt_cmpR op_ne (pe_callB (rp rfl) (by rfl) T.repr boot_repr (pa_cons (pv 8) pa_nil)) (pv 9) (nomark _))))) (pss_one (ps_ret pe_bl)) pss_nil))))
      (pss_one (ps_if (PW.pt (pw_or (pt_not (pt_val (pe_call gI (rm (by decide)) rfl cI.g cI.kp cI.b .nil pass0 (pa_cons (pv 3) pa_nil)))) (pw_or1 (pt_val (pe_call gI (rm (by decide)) rfl cI.g cI.kp cI.b .nil pass0 (pa_cons (pv 7) pa_nil)))))) (pss_one (ps_ret pe_bl)) pss_nil))))))))
      (pss_cons (ps_if (pt_cmpR (op_neD (by exact hu)) (pe_lc (own := [("many", 10)]) (g := (gName 10)) (tt := tYes) (te := (tCall (spRi TT) [] E0 (tCons (tCall spRg [] E0 (tCons (tVar 10) tNil)) tNil))) rfl nd (pi_tup (pe_tup (pa_cons pe_int (pa_cons pe_int (pa_cons pe_int (pa_cons pe_int (pa_cons pe_int pa_nil))))))) (blkOk_by (N := nLaw) (sc := defScope sLaw) (by decide +kernel)) (fun _ _ _ _ _ => pg_name (i := 10) nd rfl (Or.inl rfl)) (fun _ _ _ _ _ => pts_nil) (fun _ _ _ _ _ => by exact (pe_callG gR (by exact hgd) (rm (by decide)) rfl cR.g cR.kp cR.b .nil pass0 (pa_cons (pe_call gG (rm (by decide)) rfl cRg.g cRg.kp cRg.b .nil pass0 (pa_cons (pv 10) pa_nil)) pa_nil)))) (pe_op op_rep (pe_lst (pa_cons pe_bl pa_nil)) pe_int) (nomark _)) (pss_one (ps_ret pe_bl)) pss_nil)
      (pss_one (ps_ret (pe_and (pe_cmpR op_eq (pe_glob (v := .int 40) rfl hMost ⟨_, rfl⟩) pe_int (nomark _)) (pe_and (pe_call gI (rm (by decide)) rfl cI.g cI.kp cI.b .nil pass0 (pa_cons (pe_call gG (rm (by decide)) rfl cRg.g cRg.kp cRg.b .nil pass0 (pa_cons pe_int pa_nil)) pa_nil)) (pe_one (pe_not (pe_call gI (rm (by decide)) rfl cI.g cI.kp cI.b .nil pass0 (pa_cons (pe_call gG (rm (by decide)) rfl cRg.g cRg.kp cRg.b .nil pass0 (pa_cons pe_int pa_nil)) pa_nil)))))))))), ?_⟩
    have same_ne : ∀ x : Str, (!decide (V.str x = V.str x)) = false := fun x => by rw [decide_eq_true rfl]; rfl
    refine ⟨_, rfl, a, ns, rfl, hS, hl, fun H0 p c s0 hp M0 => ?_⟩
    have t0 : LamX.Tabs TT H0 := fun q hq => by
      rw [hTT] at hq
      rw [List.mem_singleton.mp hq]
      exact LamX.TabS.nil (s0 _ _ hPt)
    refine ⟨12, rfl, by decide, by decide, ?_⟩
    refine for_range (lo := 0) (n := (12 : Int).toNat) (fun i σ H' => ∃ v2 v3 v4 v5 v6 v7 v8 v9 : Option V, σ = [some (.ref a), some (.ref p), v2, v3, v4, v5, v6, v7, v8, v9, none] ∧ MS H' p c (1000 * i) ∧ LamX.Tabs TT H') ⟨none, none, none, none, none, none, none, none, rfl, M0, t0⟩ ?_ ?_
    · rintro i σ H1 hi ⟨v2, v3, v4, v5, v6, v7, v8, v9, rfl, M1, t1⟩
      have hi : i < 12 := hi
      refine ⟨_, rfl, p, c, _, 10, rfl, M1, by omega, by decide, by decide, fun H2 y n ps M2 e2 hY hn => ?_⟩
      refine ⟨_, rfl, p, c, _, 5, rfl, M2, by omega, by decide, by decide, fun H3 y2 n2 qs M3 e3 hY2 hn2 => ⟨_, _, rfl, ?_⟩⟩
      have hY3 := hY.mono (tupE M2 e3)
      obtain ⟨Y, as, ht, hP⟩ := id hY3
      obtain ⟨Z, bs, hu2, hB⟩ := id hY2
      have lp := Y.lines.len
      have lq := Z.lines.len
      have small : ∀ q ∈ ps, q.1 < 2000 ∧ q.2 < 2000 := fun q hq => by
        have := Y.lt q hq
        omega
      have t3 : LamX.Tabs TT H3 := tabs_ext t1 M1 (e2.trans e3)
      refine ⟨_, rfl, _, rfl, p, c, y, 0, 93, _, refs as, True, rfl, M3, by omega, ht, rw_prs M3 hP small (by omega), by decide, by decide, fun _ x1 x2 hx => ?_, fun H4 v d M4 e4 hda hfx hsec => ?_⟩
      · have l2 : ps.length = 2 := by
          have h1 := hx.len
          rw [show (refs as).length = as.length from List.length_map _, hP.len] at h1
          exact h1
        match as, ps, hP, l2, hx with
        | [a1, a2], [p1, p2], .cons h1 (.cons h2 .nil), _, .cons g1 (.cons g2 .nil) =>
          rw [da_at g2 h2]
          have := Y.lt p2 (by simp)
          exact okS_four _ _ (by omega) (by omega)
      refine ⟨fun σ H' => ∃ (va : V) (da : PyData), σ = [some (.ref a), some (.ref p), some (.int (0 + ((i : Nat) : Int))), some (.ref y), some (.ref y2), some v, some va, v7, v8, v9, none] ∧ MS H' p c (1000 * i + 200) ∧ Ext p H4 H' ∧ Da p p H' va da ∧ Fx da 8 9500, ?_, ?_⟩
      · have kind : (∃ (t : Addr) (xs : List V) (ds : List PyData), v = .ref t ∧ H4 t = some (.tup xs) ∧ d = .tuple ds ∧ DaAll p p H4 xs ds) ∨ ∃ Tt, TV H4 v Tt ∧ isTup Tt = false := by
          cases hda with
          | non => exact .inr ⟨_, .non, by decide⟩
          | bl b => exact .inr ⟨_, .bl b, by decide⟩
          | int i => exact .inr ⟨_, .int i, by decide⟩
          | str x => exact .inr ⟨_, .str x, by decide⟩
          | lst a b c f g => exact .inr ⟨_, .lst f, by decide⟩
          | emp a b f => exact .inr ⟨_, .dct f, by decide⟩
          | tup a b f g => exact .inl ⟨_, _, _, rfl, f, rfl, g⟩
        rcases kind with ⟨t, xs, ds, rfl, htt, rfl, hds⟩ | ⟨Tt, hv, hT⟩
        · refine ⟨_, rfl, _, _, _, _, _, rfl, .ty _, (TV.tup htt).tyx, (TV.tup htt).kTup, _, rfl, ?_⟩
          refine iteT ⟨_, rfl, _, rfl, p, c, t, 2, 545, _, xs, False, rfl, M4, by omega, htt, ⟨ds, hds, hfx.items, fun e he => ⟨hsec trivial ds rfl e he, fun h => h.elim⟩⟩, by decide, by decide, fun h => h.elim, fun H5 v5 d5 M5 e5 hda5 hfx5 _ => ?_⟩
          exact ⟨_, _, rfl, M5.lt (by omega) (by omega), e5, hda5, hfx5.up (by decide) (by decide)⟩
        · refine ⟨_, rfl, _, _, _, _, _, rfl, .ty _, hv.tyx, hv.kTup, _, rfl, ?_⟩
          rw [hT]
          refine iteF ⟨_, rfl, ?_⟩
          exact ⟨_, _, rfl, M4.lt (by omega) (by omega), Ext.refl p H4, hda, hfx.up (by decide) (by decide)⟩
      · rintro σ H5 ⟨va, da, rfl, M5, e5, hdaa, hfxa⟩
        have e35 := e4.trans e5
        have k35 := tupE M3 e35
        have ht5 := k35 _ _ ht
        have hP5 := hP.mono k35
        have hu5 := k35 _ _ hu2
        have hB5 := hB.mono k35
        refine ⟨_, rfl, _, rfl, y, y2, as, bs, ps, qs, rfl, ht5, hP5, hu5, hB5, by omega, by omega, fun H6 z cs s6 hz hC => ?_⟩
        have M6 := M5.keep s6
        have hPa := (hP5.mono (sameT s6)).app hC
        have lsh : (shift (2 * ps.length) qs).length = qs.length := List.length_map _
        have small2 : ∀ q ∈ ps ++ shift (2 * ps.length) qs, q.1 < 2000 ∧ q.2 < 2000 := fun q hq => by
          rcases List.mem_append.mp hq with hq | hq
          · exact small q hq
          · obtain ⟨q', hq', rfl⟩ := List.mem_map.mp hq
            have := Z.lt q' hq'
            constructor <;> show _ < _ <;> omega
        have ll : 3 * (ps ++ shift (2 * ps.length) qs).length ≤ 93 := by rw [List.length_append, lsh]; omega
        refine ⟨_, rfl, _, rfl, _, rfl, _, rfl, _, rfl, _, rfl, _, rfl, p, c, z, 0, 93, _, refs (as ++ cs), False, rfl, M6, by omega, hz, rw_prs M6 hPa small2 ll, by decide, by decide, fun h => h.elim, fun H7 vB dB M7 e7 hdB hfB _ => ?_⟩
        refine ⟨by show 6 ≤ sizeLine; decide, fun tt htt => ?_⟩
        have s8 := Same.new (o := .tup [V.ref y, v, va, V.ref y, V.ref z, vB]) htt
        have g8 := upd_same (H := H7) (a := tt) (o := .tup [V.ref y, v, va, V.ref y, V.ref z, vB])
        generalize upd H7 tt (.tup [V.ref y, v, va, V.ref y, V.ref z, vB]) = H8 at s8 g8
        have M8 := M7.keep s8
        have e68 : Ext p H6 H8 := e7.trans (Ext.same s8)
        have e58 : Ext p H5 H8 := (Ext.same s6).trans e68
        have e38 : Ext p H3 H8 := e35.trans e58
        have t8 := tabs_ext t3 M3 e38
        have k38 := tupE M3 e38
        have ht8 := k38 _ _ ht
        have hP8 := hP.mono k38
        have hz8 := tupE M6 e68 _ _ hz
        have hPa8 := hPa.mono (tupE M6 e68)
        have dy : Da p p H8 (.ref y) (yd ps) := .tup (tup_off M8 ht8) (tup_off M8 ht8) ht8 (da_pairs M8 hP8)
        have fy : Fx (yd ps) 8 9500 := ((fx_prs small).tup).up (by decide) (by omega)
        have dz : Da p p H8 (.ref z) (yd (ps ++ shift (2 * ps.length) qs)) := .tup (tup_off M8 hz8) (tup_off M8 hz8) hz8 (da_pairs M8 hPa8)
        have fz : Fx (yd (ps ++ shift (2 * ps.length) qs)) 8 9500 := ((fx_prs small2).tup).up (by decide) (by omega)
        have every : ∀ x ∈ [V.ref y, v, va, V.ref y, V.ref z, vB], ∃ d, Da p p H8 x d ∧ Fx d 8 9500 := fun x hx => by
          simp only [List.mem_cons, List.not_mem_nil, or_false] at hx
          rcases hx with rfl | rfl | rfl | rfl | rfl | rfl
          · exact ⟨_, dy, fy⟩
          · exact ⟨_, Da.extT (ExtT.ofE (e5.trans e58)) _ _ hda, hfx.up (by decide) (by decide)⟩
          · exact ⟨_, Da.extT (ExtT.ofE e58) _ _ hdaa, hfxa⟩
          · exact ⟨_, dy, fy⟩
          · exact ⟨_, dz, fz⟩
          · exact ⟨_, Da.extT (ExtT.ofS s8) _ _ hdB, hfB.up (by decide) (by decide)⟩
        generalize hxs : ([V.ref y, v, va, V.ref y, V.ref z, vB] : List V) = xs at every g8
        have tto := tup_off M8 g8
        refine ⟨tt, rfl, ⟨_, SqT.of g8⟩, for_it (walk_tup (K := K) (a := tt) (xs := xs)) (fun j σ H' => ∃ w8 w9 : Option V, σ = [some (.ref a), some (.ref p), some (.int (0 + ((i : Nat) : Int))), some (.ref y), some (.ref y2), some v, some va, some (.ref z), w8, w9, none] ∧ Since TT p c (1000 * i + 300) H8 H') ⟨_, _, rfl, ⟨ExtT.refl _ _ _, M8.lt (by omega) (by omega), t8⟩⟩ (fun j σ H' _ ⟨_, _, _, S⟩ => SqT.of (S.e _ _ tto tto (fun _ z => nomatch z) g8)) ?_ ?_⟩
        · rintro j x σ H9' H9 hj ⟨w8, w9, rfl, S9⟩ ⟨rfl, hx⟩
          obtain ⟨d, hd, hf⟩ := every x (List.mem_of_getElem? hx)
          refine ⟨_, rfl, ?_⟩
          try unfold tNil
          refine rq_da (Da.extT S9.e d x hd) hf (by decide) (by decide) ?_
          refine ⟨_, rfl, x, p, c, _, d, rfl, S9.M, Da.extT S9.e d x hd, hf, S9.t, fun H10 M10 e10 t10 => ⟨_, rfl, iteF ?_⟩⟩
          have S10 : Since TT p c (1000 * i + 300) H8 H10 := ⟨S9.e.trans e10, M10, t10⟩
          refine ⟨_, rfl, ?_⟩
          try unfold tNil
          refine rq_da (Da.extT S10.e d x hd) hf (by decide) (by decide) ?_
          refine ⟨_, rfl, rfl, _, rfl, ?_⟩
          rw [same_ne]
          exact iteF ⟨_, _, rfl, S10⟩
        · rintro σ H9 ⟨w8, w9, rfl, S9⟩
          have k89 := Since.tup (M8.lt (show _ ≤ 1000 * i + 300 by omega) (by omega)) S9
          have hY9 : YAt H9 y n ps := hY3.mono fun b xs h => k89 _ _ (k38 _ _ h)
          refine ⟨_, rfl, _, rfl, fault_good hY9 (by omega) fun Ha sa => ⟨_, rfl, iteF ?_⟩⟩
          have Sa := S9.same sa
          refine ⟨_, rfl, _, rfl, fault_da (Da.extT Sa.e _ _ dz) (fun hn => absurd hn (place_apart Y Z)) fun pl hpl Hb q sb hq => ⟨_, rfl, ?_⟩⟩
          have Sb := Sa.same sb
          have eq0 : decide (V.ref q = V.non) = false := decide_eq_false (by intro h; cases h)
          rw [eq0]
          exact iteF ⟨_, _, _, _, _, _, _, _, rfl, Sb.M.lt (by omega) (by omega), Sb.t⟩
    · rintro σ H1 ⟨v2, v3, v4, v5, v6, v7, v8, v9, rfl, M1, t1⟩
      refine ⟨by show 5 ≤ sizeLine; decide, fun tt htt => ?_⟩
      have s2 := Same.new (o := .tup [V.int 1, V.int 2, V.int 39, V.int 40, V.int 41]) htt
      have g2 := upd_same (H := H1) (a := tt) (o := .tup [V.int 1, V.int 2, V.int 39, V.int 40, V.int 41])
      generalize upd H1 tt (.tup [V.int 1, V.int 2, V.int 39, V.int 40, V.int 41]) = H2 at s2 g2
      have M2 := M1.keep s2
      have t2 := t1.ext s2
      have nums : ∀ x ∈ [V.int 1, V.int 2, V.int 39, V.int 40, V.int 41], ∃ n : Nat, x = .int (n : Nat) ∧ 0 < n ∧ n ≤ 41 := fun x hx => by
        simp only [List.mem_cons, List.not_mem_nil, or_false] at hx
        rcases hx with rfl | rfl | rfl | rfl | rfl
        · exact ⟨1, rfl, by decide, by decide⟩
        · exact ⟨2, rfl, by decide, by decide⟩
        · exact ⟨39, rfl, by decide, by decide⟩
        · exact ⟨40, rfl, by decide, by decide⟩
        · exact ⟨41, rfl, by decide, by decide⟩
      have l5 : ([V.int 1, V.int 2, V.int 39, V.int 40, V.int 41] : List V).length = 5 := rfl
      generalize ([V.int 1, V.int 2, V.int 39, V.int 40, V.int 41] : List V) = xs at g2 nums l5
      refine ⟨tt, rfl, ⟨_, SqT.of g2⟩, fun Dl hDl => ?_⟩
      have tto := tup_off M2 g2
      have nDp := M2.apart hDl
      have sD := Same.new (o := .lst []) hDl
      refine lc_it (walk_tup (K := K) (a := tt) (xs := xs)) (fun j H' => H' Dl = some (.lst (List.replicate j (V.bl true))) ∧ Since TT p c (1000 * 12) H2 H') ⟨upd_same, (Since.refl M2 t2).same sD⟩ (fun j H' _ h => SqT.of (h.2.e _ _ tto tto (fun _ z => nomatch z) g2)) ?_ ?_
      · rintro j x H4 H3 hj ⟨h3, S3⟩ ⟨rfl, hx⟩
        have hj : j < 5 := by
          have hj : j < xs.length := hj
          omega
        obtain ⟨n, rfl, n0, n41⟩ := nums x (List.mem_of_getElem? hx)
        refine ⟨rfl, yes ⟨_, rfl, n, rfl, n0, n41, fun H5 t as ps s5 ht hP hperm hle => ?_⟩⟩
        have S5 := S3.same s5
        have lps : ps.length = 2 * n := by rw [hperm.length_eq, ring_len]
        have small : ∀ q ∈ ps, q.1 < 2000 ∧ q.2 < 2000 := fun q hq => by
          have := ring_lt n0 q (hperm.mem_iff.mp hq)
          omega
        refine ⟨.ref t, p, c, _, yd ps, rfl, S5.M, .tup (tup_off S5.M ht) (tup_off S5.M ht) ht (da_pairs S5.M hP), ((fx_prs small).tup).up (by decide) (by omega), S5.t, fun H6 M6 e6 t6 => ?_⟩
        have S6 : Since TT p c (1000 * 12) H2 H6 := ⟨S5.e.trans e6, M6, t6⟩
        have h6 : H6 Dl = some (.lst (List.replicate j (V.bl true))) := e6 _ _ nDp nDp (fun _ z => nomatch z) (s5 _ _ h3)
        refine ⟨_, h6, small1000 (by rw [List.length_replicate]; omega), ?_, ?_⟩
        · rw [upd_same, List.replicate_succ']
        · exact Since.wr S6 M2 hDl h6
      · rintro H3 ⟨h3, S3⟩
        rw [l5] at h3
        refine ⟨by show 1 ≤ sizeLine; decide, fun l1 hl1 => ?_⟩
        have s4 := Same.new (o := .lst [V.bl true]) hl1
        have g4 := upd_same (H := H3) (a := l1) (o := .lst [V.bl true])
        generalize upd H3 l1 (.lst [V.bl true]) = H4 at s4 g4
        refine ⟨l1, 5, _, rfl, rfl, g4, by decide, by decide, by show 1 * 5 ≤ sizeLine; decide, fun l2 hl2 => ?_⟩
        have s5 := Same.new (o := .lst (List.replicate (5 : Int).toNat [V.bl true]).flatten) hl2
        have g5 : (upd H4 l2 (.lst (List.replicate (5 : Int).toNat [V.bl true]).flatten)) l2 = some (.lst (List.replicate 5 (V.bl true))) := upd_same
        generalize upd H4 l2 (.lst (List.replicate (5 : Int).toNat [V.bl true]).flatten) = H5 at s5 g5
        have S5 := (S3.same s4).same s5
        refine ⟨.list (List.replicate 5 (.bool true)), .list (List.replicate 5 (.bool true)), .lst (SqL.of (s5 _ _ (s4 _ _ h3))) all_true, .lst (SqL.of g5) all_true, by decide +kernel, by decide +kernel, _, rfl, ?_⟩
        rw [show (!PyData.eqv (.list (List.replicate 5 (.bool true))) (.list (List.replicate 5 (.bool true)))) = false by decide +kernel]
        refine iteF ?_
        have S6 := S5
        refine ⟨rfl, _, rfl, ?_⟩
        refine iteT ⟨40, rfl, by decide, by decide, fun H7 t as ps s7 ht hP hperm hle => ?_⟩
        have Y40 := ring_yard (.inr rfl) hperm hle
        refine ⟨_, rfl, fault_good ⟨Y40, as, ht, hP⟩ (Nat.le_refl _) fun H8 s8 => ⟨_, rfl, iteT ⟨41, rfl, by decide, by decide, fun H9 t' as' ps' s9 ht' hP' hperm' hle' => ?_⟩⟩⟩
        have S9 := ((S6.same s7).same s8).same s9
        refine ⟨_, rfl, fault_da (.tup (tup_off S9.M ht') (tup_off S9.M ht') ht' (da_pairs S9.M hP')) (fun hn => absurd hn (place_great (by rw [hperm'.length_eq, ring_len]; decide))) fun pl hpl Hb q sb hq => ⟨_, rfl, ?_⟩⟩
        have eq0 : decide (V.ref q = V.non) = false := decide_eq_false (by intro h; cases h)
        rw [eq0]
        exact k _
end
end One
end P_PX

section P_G3
set_option linter.all false
set_option maxRecDepth 100000
set_option maxHeartbeats 4000000
namespace One
open PySem PySem.Spec PyProof.Rows L2
/-- the one call of a law that has lambdas: cs, its code objects with their tables -/
theorem law_goesT {P : Program} {w : World} {K : PySem.W.Frag} {mg mb : Str → Option Value} {CX : CXT} {k : Nat} {fa a : Addr} {cs : List (Addr × Addr)} {fd : FuncData} {x : Str} {sp : Sp} {s : Shared} {vs : List Value} {ns : List Int} (inK : K.In s.heap) (nsm : s.heap.Ns mainGlobals mg)
    (nsb : s.heap.Ns builtinsNs mb) (boot : ∀ y : Str, y ≠ "__name__" → mb y = bootBuiltins y) (nolim : s.heap.NoLimit) (nogen : s.gens = #[]) (tab : ∀ p ∈ cs, s.heap.get? p.2 = some { cls := .none, data := .fields #[] }) (ntab : ∀ p ∈ cs, K.lookup p.2 = none) (heads : ∀ p ∈ cs, PySem.W.CodeHd s.heap p.1 p.2)
    (blt : ∃ (bm : Addr) (ob : Obj), mg "__builtins__" = some (.ref bm) ∧ bm ≠ builtinsNs ∧ s.heap.get? bm = some ob ∧ ob.cls = .type "module" ∧ ob.dict = some builtinsNs ∧ ob.data = .plain) (ha : s.heap.get? a = some { cls := .type "list", data := .seq vs.toArray }) (hi : IntsAre vs ns) (hl : ns.length ≤ sizeLine)
    (hr : Room k callerA) (F : ∀ base : Heap, K.In base → base.Ns mainGlobals mg → (∀ p ∈ cs, LamX.TabB base mg p.1 p.2) → FnG P w K mg base CX k fa fd [x] sp) (bind : ∀ (s : Shared) (u : Value), BindsTo s fd ⟨[u], []⟩ [(x, u)])
    (hsp : ∀ H : Hp, (∀ p ∈ cs, H p.2 = some (.tbl #[])) → SqL K H a (ns.map V.int) → sp [.ref a] H (fun v _ => v = .bl true) fun _ _ _ => False) (none_out : ∀ H e s', CX [] H s (fun _ _ _ => False) e s' → False) :
    codeAny (model P w) callerA (.call (.ref fa) ⟨[.ref a], []⟩) (fun r s' => r = .ok (.ret (.bool true)) ∧ OldK s.heap s'.heap ∧ s'.os = s.os ∧ AllBare s'.gens) s := by
  have rv := vals_ints hi
  have hlen := hi.length
  have isT : ∀ {b : Addr}, b ∈ cs.map (·.2) → s.heap.get? b = some { cls := .none, data := .fields #[] } := fun {b} hb => by
    obtain ⟨p, hp, e⟩ := List.mem_map.mp hb
    exact e ▸ tab p hp
  have toT : ∀ {p}, p ∈ cs → p.2 ∈ cs.map (·.2) := fun {p} hp => List.mem_map.mpr ⟨p, hp, rfl⟩
  have aT : a ∉ cs.map (·.2) := fun z => Data.noConfusion (show Data.seq vs.toArray _ = Data.fields #[] from congrArg Obj.data (Option.some.inj (ha.symm.trans (isT z))))
  have main : ∀ H : Hp, (∀ b ∈ cs.map (·.2), H b = some (.tbl #[])) → (∀ b u, H b = some u → (b ∈ cs.map (·.2) ∧ u = .tbl #[]) ∨ (b = a ∧ K.lookup a = none ∧ u = .frz { cls := .type "list", data := .seq vs.toArray } (.lst (ns.map V.int)))) → SqL K H a (ns.map V.int) →
      codeAny (model P w) callerA (.call (.ref fa) ⟨[.ref a], []⟩) (fun r s' => r = .ok (.ret (.bool true)) ∧ OldK s.heap s'.heap ∧ s'.os = s.os ∧ AllBare s'.gens) s := by
    intro H hT inv hS
    have ok : HOk P w H s.heap := fun b u e => by
      rcases inv b u e with ⟨hb, rfl⟩ | ⟨rfl, _, rfl⟩
      · exact isT hb
      · exact ⟨ha, by rw [List.length_map]; exact hl, vs, _, rv, ha⟩
    have put : ∀ {b : Addr} {o : Obj}, s.heap.get? b = some o → H b = none → (hidT s.heap H).get? b = some o := fun e n => hidT_get e n
    have free : ∀ {b : Addr} {o : Obj}, s.heap.get? b = some o → (∀ us n, o.data ≠ .seq us n) → o.data ≠ .fields #[] → H b = none := fun {b o} e h1 h2 => by
      match q : H b with
      | none => rfl
      | some u =>
        rcases inv b u q with ⟨hb, _⟩ | ⟨rfl, _, _⟩
        · cases (isT hb).symm.trans e
          exact (h2 rfl).elim
        · cases ha.symm.trans e
          exact (h1 _ _ rfl).elim
    have nsH : ∀ {b : Addr} {m : Str → Option Value}, s.heap.Ns b m → (hidT s.heap H).Ns b m := fun ⟨o, es, ep, e, d, r⟩ => ⟨o, es, ep, put e (free e (fun us n z => by cases d.symm.trans z) (fun z => by cases d.symm.trans z)), d, r⟩
    have inH : K.In (hidT s.heap H) := fun b o e => put (inK b o e) (by
      match q : H b with
      | none => rfl
      | some u =>
        rcases inv b u q with ⟨hb, _⟩ | ⟨rfl, z, _⟩
        · obtain ⟨p, hp, rfl⟩ := List.mem_map.mp hb
          cases (ntab p hp).symm.trans e
        · cases z.symm.trans e)
    obtain ⟨mc, n1, n2⟩ := nolim
    have tabB : ∀ p ∈ cs, LamX.TabB (hidT s.heap H) mg p.1 p.2 := fun p hp => by
      have hTp := tab p hp
      obtain ⟨og, es, ep, eg, dg, _⟩ := nsm
      refine ⟨?_, ?_, fun z => ?_⟩
      · obtain ⟨o, us, file, tf, flags, tg, inF, text, tt, e1, r1, r2, r3, rest⟩ := heads p hp
        refine ⟨o, us, file, tf, flags, tg, inF, text, tt, put e1 (free e1 (fun vs n z => by cases r2.symm.trans z) (fun z => ?_)), r1, r2, r3, rest⟩
        have z' : us = #[] := Data.fields.inj (r2.symm.trans z)
        rw [z'] at r3
        simp at r3
      · obtain ⟨bm, ob, b1, b2, b3, b4, b5, b6⟩ := blt
        refine ⟨bm, ob, b1, b2, fun q => ?_, fun q => ?_, put b3 (free b3 (fun vs n z => by cases b6.symm.trans z) (fun z => by cases b6.symm.trans z)), b4, b5, b6⟩
        · cases (q ▸ b3 : s.heap.get? mainGlobals = some ob).symm.trans eg
          cases b6.symm.trans dg
        · cases (q ▸ b3 : s.heap.get? p.2 = some ob).symm.trans hTp
          cases b6
      · cases (z ▸ hTp : s.heap.get? mainGlobals = _).symm.trans eg
        cases dg
    have env : Env0 P w K mg (hidT s.heap H) callerA [] s H := ⟨rfl, ⟨inH, nsH nsm, ⟨mb, nsH nsb, boot⟩, ⟨mc, nsH n1, n2⟩⟩, fun b o e => of_hidT e, Nat.le_of_eq (hidT_size _ _), trivial, fun b hb => absurd (show b ∈ ([] : List Addr) from hb) List.not_mem_nil, ok, .of_eq nogen⟩
    refine codeAny_mono ((F _ inH (nsH nsm) tabB).go callerA [] s H ⟨[.ref a], []⟩ [.ref a] [.ref a] _ _ rfl hr env (bind s (.ref a)) (.cons rfl .nil) (hsp H (fun p hp => hT _ (toT hp)) hS)) fun r s' h => ?_
    match r, h with
    | .error e, h => exact (none_out H e s' h).elim
    | .ok .next, h => exact h.elim
    | .ok .brk, h => exact h.elim
    | .ok .cont, h => exact h.elim
    | .ok (.ret u), ⟨v, H', os, bare, un, ok', rel, q⟩ =>
      cases (show v = .bl true from q)
      cases (show u = Value.bool true from rel)
      have key : ∀ b o, b ∉ cs.map (·.2) → s.heap.get? b = some o → s'.heap.get? b = some o := fun b o nb e => by
        match q : H b with
        | none => exact un.keep b o e q (fun z => absurd (show b ∈ ([] : List Addr) from z) List.not_mem_nil) (fun z => absurd z List.not_mem_nil)
        | some u =>
          rcases inv b u q with ⟨hb, _⟩ | ⟨rfl, _, rfl⟩
          · exact absurd hb nb
          · obtain ⟨e2, _⟩ := ok' b _ (un.frzs b _ _ q)
            cases ha.symm.trans e
            exact e2
      have more : ∀ p ∈ cs, ∃ m : Array Value, s'.heap.get? p.2 = some { cls := .none, data := .fields m } := fun p hp => let ⟨m, z⟩ := un.tbls p.2 #[] (hT _ (toT hp)); ⟨_, ok' p.2 _ z⟩
      refine ⟨rfl, ⟨fun b o e => ?_, fun b o e => ?_⟩, os, bare⟩
      · rcases Classical.em (b ∈ cs.map (·.2)) with hb | hb
        · obtain ⟨p, hp, rfl⟩ := List.mem_map.mp hb
          obtain ⟨m, hm⟩ := more p hp
          cases (tab p hp).symm.trans e
          exact .inr (.inl ⟨((heads p hp).tab (tab p hp)).isCodeTable, rfl, #[], m, rfl, by rw [Array.empty_append]; exact hm⟩)
        · exact .inl (key b o hb e)
      · rcases Classical.em (b ∈ cs.map (·.2)) with hb | hb
        · obtain ⟨p, hp, rfl⟩ := List.mem_map.mp hb
          obtain ⟨m, hm⟩ := more p hp
          exact ⟨_, hm⟩
        · exact ⟨o, key b o hb e⟩
  match hk : K.lookup a with
  | some o =>
    cases ha.symm.trans (inK a o hk)
    refine main (fun b => if b ∈ cs.map (·.2) then some (.tbl #[]) else none) (fun b hb => if_pos hb) (fun b u z => ?_) (.inr ⟨_, vs.toArray, _, hk, rfl, rfl, rfl, by rw [List.size_toArray, hlen]; exact hl, by simpa using rv⟩)
    rcases Classical.em (b ∈ cs.map (·.2)) with hb | hb
    · exact .inl ⟨hb, (Option.some.inj ((if_pos hb).symm.trans z)).symm⟩
    · cases (if_neg hb).symm.trans z
  | none =>
    refine main (fun b => if b ∈ cs.map (·.2) then some (.tbl #[]) else if b = a then some (.frz { cls := .type "list", data := .seq vs.toArray } (.lst (ns.map V.int))) else none) (fun b hb => if_pos hb) (fun b u z => ?_) (.inl (.inr ⟨{ cls := .type "list", data := .seq vs.toArray }, (if_neg aT).trans (if_pos rfl)⟩))
    rcases Classical.em (b ∈ cs.map (·.2)) with hb | hb
    · exact .inl ⟨hb, (Option.some.inj ((if_pos hb).symm.trans z)).symm⟩
    · have z1 := (if_neg hb).symm.trans z
      rcases Classical.em (b = a) with e | e
      · exact .inr ⟨e, hk, (Option.some.inj ((if_pos e).symm.trans z1)).symm⟩
      · cases (if_neg e).symm.trans z1
/-- what is known of the law's promise behind its top -/
def LawG (l : PySem.W.OpenLaw) (w : World) (K : PySem.W.Frag) (CX : CXT) (k n : Nat) (x : Str) (mg : Str → Option Value) (fa : Addr) (h : Heap) : Prop :=
  ∃ (fd : FuncData) (cs : List (Addr × Addr)) (sp : Sp), (∀ y ∈ cs, h.get? y.2 = some { cls := .none, data := .fields #[] }) ∧ (∀ y ∈ cs, K.lookup y.2 = none) ∧ (∀ y ∈ cs, PySem.W.CodeHd h y.1 y.2) ∧ (∀ (s : Shared) (u : Value), BindsTo s fd ⟨[u], []⟩ [(x, u)]) ∧
    (∀ (H : Hp) (a : Addr) (ns : List Int), ns.length ≤ n → (∀ z ∈ ns, Builtin.Int.intBits z ≤ 1048576) → (∀ y ∈ cs, H y.2 = some (.tbl #[])) → SqL K H a (ns.map V.int) → sp [.ref a] H (fun v _ => v = .bl true) fun _ _ _ => False) ∧
    (∀ base : Heap, K.In base → base.Ns mainGlobals mg → (∀ p ∈ cs, LamX.TabB base mg p.1 p.2) → FnG l.prog w K mg base CX k fa fd [x] sp)
theorem walkGT {l : PySem.W.OpenLaw} {n k : Nat} {q : Program} {loose : List Str} {XP : (Str → Option Value) → Heap → Prop} {YP : World → Heap → Prop} {d : DefRec} {K : Params → PySem.W.Frag} {CX : World → CXT} {x : Str} (hn : l.most = some n) (small : n ≤ sizeLine) (nodef : d.params.defaults = []) (hr : Room k callerA)
    (inY : ∀ (w : World) (h : Heap), YP w h → (K w.params).In h) (F : ∀ (w : World) (mg : Str → Option Value) (fa : Addr) (h : Heap), YP w h → (K w.params).In h → h.Ns mainGlobals mg → mg d.name = some (.ref fa) → LawG l w (K w.params) (CX w) k n x mg fa h)
    (none_out : ∀ (w : World) (H : Hp) (s : Shared) (e : Value) (s' : Shared), CX w [] H s (fun _ _ _ => False) e s' → False) : PySem.W.WalkO q loose XP YP l.row.toRowW d [] (fun f vs => PySem.call f vs) := by
  refine Att.attach_callB hn nodef fun w s0 s1 mg mb fa o pm cd doc a vs ns G Y ho hd hcd hmg hobj hints hlen hbits hg => ?_
  obtain ⟨fd, cs, sp, hT, nT, C, hb, hsp, hF⟩ := F w mg fa _ Y (inY w _ Y) G.T.g hmg
  exact law_goesT (inY w _ Y) G.T.g G.T.b G.T.builtins G.T.nolimit hg hT nT C G.T.bmain hobj hints (Nat.le_trans hlen small) hr hF hb (fun H hH hS => hsp H a ns hlen hbits hH hS) fun H e s' => none_out w H s1 e s'
end One
end P_G3

section P_H10
set_option linter.all false
set_option maxRecDepth 100000
set_option maxHeartbeats 8000000
namespace One
open PySem PySem.W PySem.Calls PyProof.Rows PySem.HandSPX L2
/-- a class's __init__, its first statement -/
def initOf : Stmt → Stmt
  | .ClassDef (body := b) .. => b.getD 0 (.Pass ⟨0, 0, 0, 0⟩)
  | s => s
theorem shape0 : Shape (initOf (top 2)) "place" := ⟨_, _, _, _, _, _, _, _, _, _, _, _, _, _, _, _, rfl, rfl, rfl, by decide +kernel, fun _ => rfl⟩
/-- a def of the top -/
structure DefAt (K : Frag) (x : Str) (st : Stmt) (f : Addr) (fd : FuncData) : Prop where
  ns : nsIn K mainGlobals x = some (some (.ref f))
  fn : L2.Fun K x x st f fd
theorem def_at {K : Frag} {x : Str} {st : Stmt} {f : Addr} {oc kV dc pm cd ct : Value} {od an : Option Addr} {sl : Array (Option Value)} (a : nsIn K mainGlobals x = some (some (.ref f))) (l : K.lookup f = some ⟨oc, od, .func (fnOf x x (defArgs st) (defBody st) (defScope st) .none kV dc pm an cd ct), sl⟩)
    (c : codeIn K cd x = true) (k : keepIn K (.ref f) = true) : DefAt K x st f (fnOf x x (defArgs st) (defBody st) (defScope st) .none kV dc pm an cd ct) := ⟨a, fun_mk l c k⟩
theorem DefAt.cal {K : Frag} {x : Str} {st : Stmt} {f : Addr} {fd : FuncData} {h : Heap} {mg : Str → Option Value} {ps : List Str} (D : DefAt K x st f fd) (X : K.In h) (G : h.Ns mainGlobals mg)
    (hb : ∀ (kV doc pm : Value) (an : Option Addr) (cdv ct : Value) (us : List Value), us.length = ps.length → bindArgs (fnOf x x (defArgs st) (defBody st) (defScope st) .none kV doc pm an cdv ct) ⟨us, []⟩ = pure (ps.zip us)) : Cal K mg x f fd ps := ⟨mg_of X G D.ns, D.fn.kp, D.fn.binds hb⟩
/-- an own exception class: what the top has written of it -/
structure ClsAt (P : Program) (K : Frag) (x : Str) (st : Stmt) (fld : Str) (C fI : Addr) : Prop where
  ns : nsIn K mainGlobals x = some (some (.ref C))
  own : OwnTxt P K st fld C fI
  iC : findIn K (.ref C) "__init__" = some (some (.ref fI))
  tC : typeIn K (.ref fI) = some (.type "function")
  kC : keepIn K (.ref C) = true
  exC : subIn K (.ref C) (.type "BaseException") = some true
  tyC : typeIn K (.ref C) = some (.type "type")
theorem al_of {K : Frag} {nm q : Str} {RE N : Addr} {bs : List Value} {sn : List Str} {sub : List Value} {ab : Bool} {col : Option Bool} {dd : Option Addr} {m0 m1 m2 m3 m5 : Option Value} {r : Option (Option Value)} {hdct : Bool}
    (xR : K.lookup RE = some (excClassObj nm q RE N bs [.type "ValueError", .type "Exception", .type "BaseException", .type "object"] hdct sn sub ab col dd m0 m1 m2 m3 m5 "ValueError.__new__")) (fR : findIn K (.ref RE) "__init__" = r) : alongIn K "__init__" [.ref RE, .type "ValueError", .type "Exception", .type "BaseException", .type "object"] = r := by
  unfold findIn at fR
  dsimp only at fR
  rw [xR] at fR
  exact fR
theorem cls_at {P : Program} {K : Frag} {x : Str} {st : Stmt} {fld nm q : Str} {C fI N RE cda cc : Addr} {bs : List Value} {sn : List Str} {sub : List Value} {ab : Bool} {col : Option Bool} {dd od an cdd cld : Option Addr} {m0 m1 m2 m3 m5 : Option Value} {oc doc pm ct ccl cl : Value} {osl ccs csl : Array (Option Value)} {vs : Array Value} {file qual : Str} {tf : Tok}
    (ns : nsIn K mainGlobals x = some (some (.ref C))) (xL : K.lookup C = some (excClassObj nm q C N bs [.ref RE, .type "ValueError", .type "Exception", .type "BaseException", .type "object"] true sn sub ab col dd m0 m1 m2 m3 m5 "ValueError.__new__"))
    (al : alongIn K "__init__" [.ref RE, .type "ValueError", .type "Exception", .type "BaseException", .type "object"] = some (some (.builtin "ValueError.__init__"))) (sa : findIn K (.ref C) "__setattr__" = some (some (.builtin "object.__setattr__"))) (noF : findIn K (.ref C) fld = some none)
    (veB : subIn K (.ref C) (.type "ValueError") = some true) (slf : mroIn K C (.ref C) = some true) (op : nsIn K cStatics "thirdparty.any" = some none) (tp : (P.main.scope.names.lookup ("super" : Str)).isSome = false) (sh : Shape st fld)
    (iC : findIn K (.ref C) "__init__" = some (some (.ref fI))) (l1 : K.lookup fI = some ⟨oc, od, .func (ksFn "__init__" qual (defArgs st) (defBody st) (defScope st) .none .none doc pm an (.ref cda) ct cc), osl⟩) (c1 : codeIn K (.ref cda) qual = true)
    (lc : K.lookup cda = some ⟨ccl, cdd, .fields vs, ccs⟩) (hvs : vs[2]? = some (.str file tf)) (hfile : ((P.main.file : Str) == file) = true) (lcc : K.lookup cc = some ⟨cl, cld, .cell (some (.ref C)), csl⟩)
    (tC : typeIn K (.ref fI) = some (.type "function")) (kC : keepIn K (.ref C) = true) (exC : subIn K (.ref C) (.type "BaseException") = some true) (tyC : typeIn K (.ref C) = some (.type "type")) : ClsAt P K x st fld C fI :=
  ⟨ns, ⟨⟨_, _, _, _, _, _, _, _, _, _, _, _, _, _, _, xL, rfl, by rw [PySem.ESX.drop_own]; exact al⟩, sa, noF, veB, slf, op, tp, sh, ⟨_, _, _, _, _, _, _, _, _, _, _, _, _, _, _, _, _, _, _, l1, c1, lc, hvs, hfile, lcc⟩⟩, iC, tC, kC, exC, tyC⟩
theorem ClsAt.cls {P : Program} {K : Frag} {x : Str} {st : Stmt} {fld : Str} {C fI : Addr} {h : Heap} {mg : Str → Option Value} (D : ClsAt P K x st fld C fI) (X : K.In h) (G : h.Ns mainGlobals mg) : OwnCls K mg x C fI := ⟨mg_of X G D.ns, D.iC, D.tC, D.kC, D.exC, D.tyC⟩
end One
end P_H10

section P_H12
set_option linter.all false
set_option maxRecDepth 100000
set_option maxHeartbeats 8000000
namespace One
open PySem PySem.W PySem.Calls PyProof.Rows PySem.HandSPX L2
def clsL (C0 C1 C2 C3 C4 C5 C6 C7 : Addr) : Nat → Addr := fun i => [C0, C1, C2, C3, C4, C5, C6, C7].getD i C0
theorem err0 {K : Frag} {RE C0 C1 C2 C3 C4 C5 C6 C7 : Addr} (hg : findIn K (.ref C0) "__getattribute__" = some (some (.builtin "BaseException.__getattribute__"))) (hk : findIn K (.ref C0) "__getattr__" = some none) (hs : subIn K (.ref C0) (.type "BaseException") = some true)
    (hd : hasDictIn K C0 = true) (ha : findIn K (.ref C0) "__class__" = some (some (.builtin "object.__class__"))) (hn : specialIn K (.builtin "object.__class__") "__get__" = some (some (.builtin "getset_descriptor.__get__"))) (ht : takesIn K (.builtin "object.__class__") = some true)
    (hm : mroIn K C0 (.type "object") = some true) (no : findIn K (.ref C0) "place" = some none)
    (q0 : kitOne K (.ref C0) (.ref C0) = some true)    (q1 : kitOne K (.ref C0) (.ref C1) = some false)    (q2 : kitOne K (.ref C0) (.ref C2) = some false)    (q3 : kitOne K (.ref C0) (.ref C3) = some false)    (q4 : kitOne K (.ref C0) (.ref C4) = some false)    (q5 : kitOne K (.ref C0) (.ref C5) = some false)    (q6 : kitOne K (.ref C0) (.ref C6) = some false)    (q7 : kitOne K (.ref C0) (.ref C7) = some false)
    (ve : kitOne K (.ref C0) (.type "ValueError") = some true) (u1 : subIn K (.ref RE) (.type "BaseException") = some true) (u2 : hasDictIn K RE = true) (u3 : typeIn K (.ref RE) = some (.type "type")) (u4 : subIn K (.ref C0) (.ref RE) = some true) : ErrC K (clsL C0 C1 C2 C3 C4 C5 C6 C7) RE 0 :=
  ⟨by decide, ⟨hg, hk, hs, hd, ha, hn, ht, hm⟩, ⟨hg, hk, hs, hd⟩, no, fun j hj => match j, hj with
    | 0, _ => q0
    | 1, _ => q1
    | 2, _ => q2
    | 3, _ => q3
    | 4, _ => q4
    | 5, _ => q5
    | 6, _ => q6
    | 7, _ => q7, ve, exm_ref u1 u2 u3 u4⟩
end One
end P_H12

section P_H13
set_option linter.all false
set_option maxRecDepth 100000
set_option maxHeartbeats 8000000
namespace One
open PySem PySem.W PySem.Calls PyProof.Rows PySem.HandSPX L2
theorem tab_mkX {K : Frag} {x : Str} {f c Pt : Addr} {oc oc2 : Value} {od od2 : Option Addr} {fd : FuncData} {sl sl2 : Array (Option Value)} {vs : Array Value} (a : nsIn K mainGlobals x = some (some (.ref f))) (l : K.lookup f = some ⟨oc, od, .func fd, sl⟩) (hc : fd.code = .ref c)
    (lc : K.lookup c = some ⟨oc2, od2, .fields vs, sl2⟩) (hv : (vs[11]? : Option Value) = some (.ref Pt)) : tabIn K x = some (c, Pt) := by
  unfold tabIn
  rw [a]
  simp only [l, hc, lc, hv]
theorem walkGX {l : OpenLaw} {n k : Nat} {q : Program} {loose : List Str} {XP : (Str → Option Value) → Heap → Prop} {YP : World → Heap → Prop} {d : DefRec} {K : Params → Frag} {CX : World → CXT} {x : Str} (hn : l.most = some n) (small : n ≤ sizeLine) (nodef : d.params.defaults = []) (hr : Room k callerA)
    (inY : ∀ (w : World) (h : Heap), YP w h → (K w.params).In h)
    (F : ∀ (w : World) (mg : Str → Option Value) (fa : Addr) (h : Heap), YP w h → (K w.params).In h → h.Ns mainGlobals mg → mg d.name = some (.ref fa) →
      (∀ {x : Str} {dL : DefRec}, (recsOf q).find? (fun e => e.name == x) = some dL → ∀ {c P : Addr}, tabIn (K w.params) x = some (c, P) → CodeHd h c P ∧ h.get? P = some { cls := .none, data := .fields #[] }) → LawG l w (K w.params) (CX w) k n x mg fa h)
    (none_out : ∀ (w : World) (H : Hp) (s : Shared) (e : Value) (s' : Shared), CX w [] H s (fun _ _ _ => False) e s' → False) : WalkO q loose XP YP l.row.toRowW d [] (fun f vs => PySem.call f vs) := by
  refine Att.attach_callB hn nodef fun w s0 s1 mg mb fa o pm cd doc a vs ns G Y ho hd hcd hmg hobj hints hlen hbits hg => ?_
  have X := inY w _ Y
  obtain ⟨fd, cs, sp, hT, nT, C, hb, hsp, hF⟩ := F w mg fa _ Y X G.T.g hmg (@fun _ _ hrec _ _ ht => tab_of G.T X hrec ht)
  exact law_goesT X G.T.g G.T.b G.T.builtins G.T.nolimit hg hT nT C G.T.bmain hobj hints (Nat.le_trans hlen small) hr hF hb (fun H hH hS => hsp H a ns hlen hbits hH hS) fun H e s' => none_out w H s1 e s'
end One
end P_H13

section P_H11
set_option linter.all false
set_option maxRecDepth 100000
set_option maxHeartbeats 16000000
namespace One
open PySem PySem.W PySem.Calls PyProof.Rows PySem.HandSPX L2
theorem all_mk {l : OpenLaw} {w : World} {K : Frag} {h : Heap} {mg : Str → Option Value} {fa RE C0 C1 C2 C3 C4 C5 C6 C7 i0 : Addr} {f_law c_law : Addr} {t0 t1 : Tok} {f_is_number f_is_below f_reached f_need_yard f_is_yard f_yard_fault f_can_be_many_lines f_is_line f_is_whole f_crossings_beside f_law_begun f_law_draw f_law_grown f_law_called f_law_yard f_law_is_whole f_law_is_line f_law_place f_law_refused f_law_odd f_law_bent f_law_beside f_law_ring f_law_right : Addr} {e_is_number e_is_below e_reached e_need_yard e_is_yard e_yard_fault e_can_be_many_lines e_is_line e_is_whole e_crossings_beside e_law_begun e_law_draw e_law_grown e_law_called e_law_yard e_law_is_whole e_law_is_line e_law_place e_law_refused e_law_odd e_law_bent e_law_beside e_law_ring : FuncData} {oc kV doc pm ct : Value} {od an : Option Addr} {sl : Array (Option Value)}
    {co_law_right P_law_right : Addr} {oc_law_right kV_law_right doc_law_right pm_law_right ct_law_right : Value} {od_law_right an_law_right : Option Addr} {sl_law_right : Array (Option Value)}
    (X : K.In h) (G : h.Ns mainGlobals mg) (hfa : mg "law" = some (.ref fa))
    (tabs_law_right : ∀ {c P : Addr}, tabIn K "_law_right" = some (c, P) → CodeHd h c P ∧ h.get? P = some { cls := .none, data := .fields #[] })
    (z_len : nsIn K mainGlobals "len" = some none)
    (z_range : nsIn K mainGlobals "range" = some none)
    (z_tuple : nsIn K mainGlobals "tuple" = some none)
    (z_list : nsIn K mainGlobals "list" = some none)
    (z_sorted : nsIn K mainGlobals "sorted" = some none)
    (z_enumerate : nsIn K mainGlobals "enumerate" = some none)
    (z_isinstance : nsIn K mainGlobals "isinstance" = some none)
    (z_int : nsIn K mainGlobals "int" = some none)
    (z_bool : nsIn K mainGlobals "bool" = some none)
    (z_repr : nsIn K mainGlobals "repr" = some none)
    (z_all : nsIn K mainGlobals "all" = some none)
    (z_super : nsIn K mainGlobals "super" = some none)
    (z_ValueError : nsIn K mainGlobals "ValueError" = some none)
    (z_str : nsIn K mainGlobals "str" = some none)
    (k_MOST_CROSSINGS : nsIn K mainGlobals "MOST_CROSSINGS" = some (some (.int 40 t0)))
    (k_PLACES : nsIn K mainGlobals "PLACES" = some (some (.int 4 t1)))
    (d_is_number : DefAt K "is_number" (top 11) f_is_number e_is_number)
    (d_is_below : DefAt K "is_below" (top 12) f_is_below e_is_below)
    (d_reached : DefAt K "reached" (top 14) f_reached e_reached)
    (d_need_yard : DefAt K "need_yard" (top 18) f_need_yard e_need_yard)
    (d_is_yard : DefAt K "is_yard" (top 19) f_is_yard e_is_yard)
    (d_yard_fault : DefAt K "yard_fault" (top 20) f_yard_fault e_yard_fault)
    (d_can_be_many_lines : DefAt K "can_be_many_lines" (top 21) f_can_be_many_lines e_can_be_many_lines)
    (d_is_line : DefAt K "is_line" (top 22) f_is_line e_is_line)
    (d_is_whole : DefAt K "is_whole" (top 23) f_is_whole e_is_whole)
    (d_crossings_beside : DefAt K "crossings_beside" (top 24) f_crossings_beside e_crossings_beside)
    (d_law_begun : DefAt K "_law_begun" (top 26) f_law_begun e_law_begun)
    (d_law_draw : DefAt K "_law_draw" (top 27) f_law_draw e_law_draw)
    (d_law_grown : DefAt K "_law_grown" (top 28) f_law_grown e_law_grown)
    (d_law_called : DefAt K "_law_called" (top 29) f_law_called e_law_called)
    (d_law_yard : DefAt K "_law_yard" (top 30) f_law_yard e_law_yard)
    (d_law_is_whole : DefAt K "_law_is_whole" (top 31) f_law_is_whole e_law_is_whole)
    (d_law_is_line : DefAt K "_law_is_line" (top 32) f_law_is_line e_law_is_line)
    (d_law_place : DefAt K "_law_place" (top 33) f_law_place e_law_place)
    (d_law_refused : DefAt K "_law_refused" (top 34) f_law_refused e_law_refused)
    (d_law_odd : DefAt K "_law_odd" (top 35) f_law_odd e_law_odd)
    (d_law_bent : DefAt K "_law_bent" (top 36) f_law_bent e_law_bent)
    (d_law_beside : DefAt K "_law_beside" (top 37) f_law_beside e_law_beside)
    (d_law_ring : DefAt K "_law_ring" (top 38) f_law_ring e_law_ring)
    (ns_law_right : nsIn K mainGlobals "_law_right" = some (some (.ref f_law_right))) (lk_law_right : K.lookup f_law_right = some ⟨oc_law_right, od_law_right, .func (fnOf "_law_right" "_law_right" (defArgs (top 39)) (defBody (top 39)) (defScope (top 39)) .none kV_law_right doc_law_right pm_law_right an_law_right (.ref co_law_right) ct_law_right), sl_law_right⟩) (cd_law_right : codeIn K (.ref co_law_right) "_law_right" = true) (kp_law_right : keepIn K (.ref f_law_right) = true)
    (nRE : nsIn K mainGlobals "RoundError" = some (some (.ref RE))) (k0 : ClsAt l.prog K "BadYard" (initOf (top 2)) "place" C0 i0) (n1 : nsIn K mainGlobals "BadText" = some (some (.ref C1))) (n2 : nsIn K mainGlobals "BadEnd" = some (some (.ref C2))) (n3 : nsIn K mainGlobals "BadSetting" = some (some (.ref C3))) (n4 : nsIn K mainGlobals "BadDraft" = some (some (.ref C4))) (n5 : nsIn K mainGlobals "OutOfPlace" = some (some (.ref C5))) (n6 : nsIn K mainGlobals "Barred" = some (some (.ref C6))) (n7 : nsIn K mainGlobals "TooMany" = some (some (.ref C7)))
    (r0 : ErrC K (clsL C0 C1 C2 C3 C4 C5 C6 C7) RE 0)
    (lawNs : nsIn K mainGlobals "law" = some (some (.ref f_law))) (lawLk : K.lookup f_law = some ⟨oc, od, .func (fnOf "law" "law" (defArgs sLaw) (defBody sLaw) (defScope sLaw) .none kV doc pm an (.ref c_law) ct), sl⟩) (lawCd : codeIn K (.ref c_law) "law" = true) (lawKp : keepIn K (.ref f_law) = true)
    (tab_law_right : tabIn K "_law_right" = some (co_law_right, P_law_right)) (ntab_law_right : K.lookup P_law_right = none) : LawG l w K CX0 11 63 "script" mg fa h := by
  have e := hfa.symm.trans (mg_of X G lawNs)
  cases e
  obtain ⟨hd_law_right, ht_law_right⟩ := tabs_law_right tab_law_right
  have memC : ∀ p ∈ [(co_law_right, P_law_right)], p ∈ [(co_law_right, P_law_right)] := fun p hp => hp
  refine ⟨fnOf "law" "law" (defArgs sLaw) (defBody sLaw) (defScope sLaw) .none kV doc pm an (.ref c_law) ct, [(co_law_right, P_law_right)], spLaw K P_law_right, (List.forall_mem_cons.mpr ⟨ht_law_right, (fun p hp => absurd hp List.not_mem_nil)⟩), (List.forall_mem_cons.mpr ⟨ntab_law_right, (fun p hp => absurd hp List.not_mem_nil)⟩), (List.forall_mem_cons.mpr ⟨hd_law_right, (fun p hp => absurd hp List.not_mem_nil)⟩), fun s u => .of_eq rfl, fun H a ns hl _ hT hS => ⟨a, ns, rfl, hS, hl, hT _ (memC (co_law_right, P_law_right) (by simp)), fun _ => rfl⟩, fun base inB nsB tB => ?_⟩
  have no : ∀ {x : Str}, nsIn K mainGlobals x = some none → mg x = none := fun z => mg_none_of X G z
  have T : TB mg := ⟨no z_len, no z_range, no z_tuple, no z_list, no z_sorted, no z_enumerate, no z_isinstance, no z_int, no z_bool, no z_repr, no z_all⟩
  have TCo : TC mg := ⟨⟨_, mg_of X G k_MOST_CROSSINGS⟩, ⟨_, mg_of X G k_PLACES⟩⟩
  have noS : mg "super" = none := no z_super
  have tB_law_right := tB _ (memC (co_law_right, P_law_right) (by simp))
  have c_is_number := d_is_number.cal (ps := ["thing"]) X G fun _ _ _ _ _ _ us hl => match us, hl with | [_], _ => rfl
  have c_is_below := d_is_below.cal (ps := ["thing", "many"]) X G fun _ _ _ _ _ _ us hl => match us, hl with | [_, _], _ => rfl
  have c_reached := d_reached.cal (ps := ["beside", "start"]) X G fun _ _ _ _ _ _ us hl => match us, hl with | [_, _], _ => rfl
  have c_need_yard := d_need_yard.cal (ps := ["thing"]) X G fun _ _ _ _ _ _ us hl => match us, hl with | [_], _ => rfl
  have c_is_yard := d_is_yard.cal (ps := ["thing"]) X G fun _ _ _ _ _ _ us hl => match us, hl with | [_], _ => rfl
  have c_yard_fault := d_yard_fault.cal (ps := ["thing"]) X G fun _ _ _ _ _ _ us hl => match us, hl with | [_], _ => rfl
  have c_can_be_many_lines := d_can_be_many_lines.cal (ps := ["many"]) X G fun _ _ _ _ _ _ us hl => match us, hl with | [_], _ => rfl
  have c_is_line := d_is_line.cal (ps := ["thing", "many_ends"]) X G fun _ _ _ _ _ _ us hl => match us, hl with | [_, _], _ => rfl
  have c_is_whole := d_is_whole.cal (ps := ["lines"]) X G fun _ _ _ _ _ _ us hl => match us, hl with | [_], _ => rfl
  have c_crossings_beside := d_crossings_beside.cal (ps := ["lines", "many"]) X G fun _ _ _ _ _ _ us hl => match us, hl with | [_, _], _ => rfl
  have c_law_begun := d_law_begun.cal (ps := ["script"]) X G fun _ _ _ _ _ _ us hl => match us, hl with | [_], _ => rfl
  have c_law_draw := d_law_draw.cal (ps := ["m", "many"]) X G fun _ _ _ _ _ _ us hl => match us, hl with | [_, _], _ => rfl
  have c_law_grown := d_law_grown.cal (ps := ["m", "many"]) X G fun _ _ _ _ _ _ us hl => match us, hl with | [_, _], _ => rfl
  have c_law_called := d_law_called.cal (ps := ["m", "many"]) X G fun _ _ _ _ _ _ us hl => match us, hl with | [_, _], _ => rfl
  have c_law_yard := d_law_yard.cal (ps := ["m", "most"]) X G fun _ _ _ _ _ _ us hl => match us, hl with | [_, _], _ => rfl
  have c_law_is_whole := d_law_is_whole.cal (ps := ["lines"]) X G fun _ _ _ _ _ _ us hl => match us, hl with | [_], _ => rfl
  have c_law_is_line := d_law_is_line.cal (ps := ["thing", "many"]) X G fun _ _ _ _ _ _ us hl => match us, hl with | [_, _], _ => rfl
  have c_law_place := d_law_place.cal (ps := ["thing"]) X G fun _ _ _ _ _ _ us hl => match us, hl with | [_], _ => rfl
  have c_law_refused := d_law_refused.cal (ps := ["deed"]) X G fun _ _ _ _ _ _ us hl => match us, hl with | [_], _ => rfl
  have c_law_odd := d_law_odd.cal (ps := ["m", "line"]) X G fun _ _ _ _ _ _ us hl => match us, hl with | [_, _], _ => rfl
  have c_law_bent := d_law_bent.cal (ps := ["m", "thing"]) X G fun _ _ _ _ _ _ us hl => match us, hl with | [_, _], _ => rfl
  have c_law_beside := d_law_beside.cal (ps := ["one", "other"]) X G fun _ _ _ _ _ _ us hl => match us, hl with | [_, _], _ => rfl
  have c_law_ring := d_law_ring.cal (ps := ["many"]) X G fun _ _ _ _ _ _ us hl => match us, hl with | [_], _ => rfl
  have fn_law_right : FunC K "_law_right" "_law_right" (top 39) f_law_right _ co_law_right := ⟨_, _, _, _, _, _, _, _, rfl, lk_law_right, cd_law_right⟩
  have d_law_right := def_at (st := top 39) ns_law_right lk_law_right cd_law_right kp_law_right
  have c_law_right := d_law_right.cal (ps := ["thing"]) X G fun _ _ _ _ _ _ us hl => match us, hl with | [_], _ => rfl
  have Nm : ErrN mg (clsL C0 C1 C2 C3 C4 C5 C6 C7) RE := ⟨mg_of X G nRE, mg_of X G k0.ns, mg_of X G n1, mg_of X G n2, mg_of X G n3, mg_of X G n4, mg_of X G n5, mg_of X G n6, mg_of X G n7, no z_ValueError⟩
  have G_is_number := ok_isnum (P := l.prog) (w := w) (base := base) d_is_number.fn T
  have G_is_below := ok_isbelow d_is_below.fn c_is_number G_is_number
  have G_can := ok_canbe (P := l.prog) (w := w) (base := base) d_can_be_many_lines.fn T TCo
  have G_is_line := ok_isline d_is_line.fn T c_is_below G_is_below
  have G_reached := ok_reached (P := l.prog) (w := w) (base := base) d_reached.fn T
  have G_beside := ok_besideX (P := l.prog) (w := w) (base := base) d_crossings_beside.fn T TCo
  have G_whole := ok_iswhole d_is_whole.fn T c_reached G_reached c_crossings_beside G_beside
  have G_fault := ok_fault d_yard_fault.fn T c_can_be_many_lines G_can c_is_line G_is_line c_is_whole G_whole
  have G_isyard := ok_isyard d_is_yard.fn c_yard_fault G_fault
  have G_need := ok_need d_need_yard.fn k0.own (k0.cls X G) noS c_yard_fault G_fault
  have G_begun := ok_begun (P := l.prog) (w := w) (base := base) d_law_begun.fn T
  have G_draw := ok_draw (P := l.prog) (w := w) (base := base) d_law_draw.fn T
  have G_grown := ok_grown d_law_grown.fn T c_law_draw G_draw
  have G_called := ok_called d_law_called.fn T c_law_draw G_draw
  have G_yard := ok_yard d_law_yard.fn T c_law_draw G_draw c_law_grown G_grown c_law_called G_called
  have G_lw := ok_lwhole (P := l.prog) (w := w) (base := base) d_law_is_whole.fn T
  have G_ln := ok_ln (P := l.prog) (w := w) (base := base) d_law_is_line.fn T
  have G_py := ok_py d_law_place.fn T c_law_is_line G_ln c_law_is_whole G_lw
  have G_od := ok_od d_law_odd.fn T (no z_str) c_law_draw G_draw
  have G_be := ok_be d_law_bent.fn T c_law_draw G_draw c_law_odd G_od c_law_is_line G_ln
  have G_bs := ok_bs (P := l.prog) (w := w) (base := base) d_law_beside.fn T
  have G_rg := ok_ring (P := l.prog) (w := w) (base := base) d_law_ring.fn T
  have G_ri := ok_ri (CL := clsL C0 C1 C2 C3 C4 C5 C6 C7) (TT := [(P_law_right, qualR)]) fn_law_right T tB_law_right (List.mem_cons_self ..) (fun q hq _ => by rw [List.mem_singleton.mp hq]) Nm r0 d_law_refused.fn c_law_refused c_law_place G_py c_is_yard G_isyard c_need_yard G_need
  exact ok_law rfl (fun_mk lawLk lawCd lawKp) T ⟨_, mg_of X G k_MOST_CROSSINGS⟩ c_law_begun G_begun c_law_yard G_yard c_law_bent G_be c_law_beside G_bs c_law_right G_ri c_is_yard G_isyard c_law_ring G_rg
end One
end P_H11

open PySem PySem.W PyProof.Rows in
set_option maxRecDepth 100000 in
set_option maxHeartbeats 0 in
theorem PySem.Challenge.cw_oneround_k01_yards_looked_at_holds : PySem.Challenge.rw_oneround_k01_yards_looked_at.Holds := by
  w_on; o_law; k_head; (case hw => w_witness2)
  k_fill
  refine One.walkGX (l := PySem.Challenge.rw_oneround_k01_yards_looked_at) (n := 63) (k := 11) (CX := fun _ => L2.CX0) (x := "script") rfl (by decide) rfl ⟨rfl, by decide, by decide⟩ (fun w h Y => PySem.W.km_in_of Y) ?F (fun _ _ _ _ _ z => z)
  case F =>
    intro w mg fa h Y KX G hmg tabs
    refine' One.all_mk KX G hmg (tabs (x := "_law_right") (by rfl)) ?z_len ?z_range ?z_tuple ?z_list ?z_sorted ?z_enumerate ?z_isinstance ?z_int ?z_bool ?z_repr ?z_all ?z_super ?z_ValueError ?z_str ?k_MOST_CROSSINGS ?k_PLACES ?d_is_number ?d_is_below ?d_reached ?d_need_yard ?d_is_yard ?d_yard_fault ?d_can_be_many_lines ?d_is_line ?d_is_whole ?d_crossings_beside ?d_law_begun ?d_law_draw ?d_law_grown ?d_law_called ?d_law_yard ?d_law_is_whole ?d_law_is_line ?d_law_place ?d_law_refused ?d_law_odd ?d_law_bent ?d_law_beside ?d_law_ring ?ns_law_right ?lk_law_right ?cd_law_right ?kp_law_right ?nRE ?k0 ?n1 ?n2 ?n3 ?n4 ?n5 ?n6 ?n7 ?r0 ?lawNs ?lawLk ?lawCd ?lawKp ?tab_law_right ?ntab_law_right
    (case z_len => k_is)
    (case z_range => k_is)
    (case z_tuple => k_is)
    (case z_list => k_is)
    (case z_sorted => k_is)
    (case z_enumerate => k_is)
    (case z_isinstance => k_is)
    (case z_int => k_is)
    (case z_bool => k_is)
    (case z_repr => k_is)
    (case z_all => k_is)
    (case z_super => k_is)
    (case z_ValueError => k_is)
    (case z_str => k_is)
    (case k_MOST_CROSSINGS => k_is)
    (case k_PLACES => k_is)
    (case d_is_number => refine' One.def_at ?a ?l ?c ?k; (case a => k_is); (case l => k_is); (case c => k_is); (case k => k_is))
    (case d_is_below => refine' One.def_at ?a ?l ?c ?k; (case a => k_is); (case l => k_is); (case c => k_is); (case k => k_is))
    (case d_reached => refine' One.def_at ?a ?l ?c ?k; (case a => k_is); (case l => k_is); (case c => k_is); (case k => k_is))
    (case d_need_yard => refine' One.def_at ?a ?l ?c ?k; (case a => k_is); (case l => k_is); (case c => k_is); (case k => k_is))
    (case d_is_yard => refine' One.def_at ?a ?l ?c ?k; (case a => k_is); (case l => k_is); (case c => k_is); (case k => k_is))
    (case d_yard_fault => refine' One.def_at ?a ?l ?c ?k; (case a => k_is); (case l => k_is); (case c => k_is); (case k => k_is))
    (case d_can_be_many_lines => refine' One.def_at ?a ?l ?c ?k; (case a => k_is); (case l => k_is); (case c => k_is); (case k => k_is))
    (case d_is_line => refine' One.def_at ?a ?l ?c ?k; (case a => k_is); (case l => k_is); (case c => k_is); (case k => k_is))
    (case d_is_whole => refine' One.def_at ?a ?l ?c ?k; (case a => k_is); (case l => k_is); (case c => k_is); (case k => k_is))
    (case d_crossings_beside => refine' One.def_at ?a ?l ?c ?k; (case a => k_is); (case l => k_is); (case c => k_is); (case k => k_is))
    (case d_law_begun => refine' One.def_at ?a ?l ?c ?k; (case a => k_is); (case l => k_is); (case c => k_is); (case k => k_is))
    (case d_law_draw => refine' One.def_at ?a ?l ?c ?k; (case a => k_is); (case l => k_is); (case c => k_is); (case k => k_is))
    (case d_law_grown => refine' One.def_at ?a ?l ?c ?k; (case a => k_is); (case l => k_is); (case c => k_is); (case k => k_is))
    (case d_law_called => refine' One.def_at ?a ?l ?c ?k; (case a => k_is); (case l => k_is); (case c => k_is); (case k => k_is))
    (case d_law_yard => refine' One.def_at ?a ?l ?c ?k; (case a => k_is); (case l => k_is); (case c => k_is); (case k => k_is))
    (case d_law_is_whole => refine' One.def_at ?a ?l ?c ?k; (case a => k_is); (case l => k_is); (case c => k_is); (case k => k_is))
    (case d_law_is_line => refine' One.def_at ?a ?l ?c ?k; (case a => k_is); (case l => k_is); (case c => k_is); (case k => k_is))
    (case d_law_place => refine' One.def_at ?a ?l ?c ?k; (case a => k_is); (case l => k_is); (case c => k_is); (case k => k_is))
    (case d_law_refused => refine' One.def_at ?a ?l ?c ?k; (case a => k_is); (case l => k_is); (case c => k_is); (case k => k_is))
    (case d_law_odd => refine' One.def_at ?a ?l ?c ?k; (case a => k_is); (case l => k_is); (case c => k_is); (case k => k_is))
    (case d_law_bent => refine' One.def_at ?a ?l ?c ?k; (case a => k_is); (case l => k_is); (case c => k_is); (case k => k_is))
    (case d_law_beside => refine' One.def_at ?a ?l ?c ?k; (case a => k_is); (case l => k_is); (case c => k_is); (case k => k_is))
    (case d_law_ring => refine' One.def_at ?a ?l ?c ?k; (case a => k_is); (case l => k_is); (case c => k_is); (case k => k_is))
    (case ns_law_right => k_is)
    (case lk_law_right => k_is)
    (case cd_law_right => k_is)
    (case kp_law_right => k_is)
    (case nRE => k_is)
    (case k0 => refine' One.cls_at ?ns ?xL ?al ?sa ?noF ?veB ?slf ?op ?tp ?sh ?iC ?l1 ?c1 ?lc ?hvs ?hfile ?lcc ?tC ?kC ?exC ?tyC; (case ns => k_is); (case xL => k_is); (case al => refine' One.al_of ?xR ?fR; (case xR => k_is); (case fR => k_is)); (case sa => k_is); (case noF => k_is); (case veB => k_is); (case slf => k_is); (case op => k_is); (case tp => rfl); (case sh => exact One.shape0); (case iC => k_is); (case l1 => k_is); (case c1 => k_is); (case lc => k_is); (case hvs => first | rfl | k_is); (case hfile => first | rfl | decide +kernel | k_is); (case lcc => k_is); (case tC => k_is); (case kC => k_is); (case exC => k_is); (case tyC => k_is))
    (case n1 => k_is)
    (case n2 => k_is)
    (case n3 => k_is)
    (case n4 => k_is)
    (case n5 => k_is)
    (case n6 => k_is)
    (case n7 => k_is)
    (case r0 => refine' One.err0 ?hg ?hk ?hs ?hd ?ha ?hn ?ht ?hm ?no ?q0 ?q1 ?q2 ?q3 ?q4 ?q5 ?q6 ?q7 ?ve ?u1 ?u2 ?u3 ?u4; (case hg => k_is); (case hk => k_is); (case hs => k_is); (case hd => k_is); (case ha => k_is); (case hn => k_is); (case ht => k_is); (case hm => k_is); (case no => k_is); (case q0 => first | k_is | kit_is); (case q1 => first | k_is | kit_is); (case q2 => first | k_is | kit_is); (case q3 => first | k_is | kit_is); (case q4 => first | k_is | kit_is); (case q5 => first | k_is | kit_is); (case q6 => first | k_is | kit_is); (case q7 => first | k_is | kit_is); (case ve => first | k_is | kit_is); (case u1 => k_is); (case u2 => k_is); (case u3 => k_is); (case u4 => k_is))
    (case lawNs => k_is)
    (case lawLk => k_is)
    (case lawCd => k_is)
    (case lawKp => k_is)
    (case tab_law_right => refine' One.tab_mkX ?ta ?tl ?tc ?tf ?tv; (case ta => k_is); (case tl => k_is); (case tc => rfl); (case tf => k_is); (case tv => rfl))
    (case ntab_law_right => first | rfl | kernel_rfl | decide +kernel)
