/-
  Plan: marks in memory: noMarks, search, leave.
-/
import Derived.Test.YthgjdmomcpcolaaBa
import Derived.WalkMore
import Derived.Deep.LoopGhost
namespace Go.Proofs.Ythgjdmomcpcolaa
open Go.RowKit
theorem keyed3 : Maps.Keyed Try.prog 3 := Maps.int_keyed Try.underlying3
def InI (k : Int) : Prop := -9223372036854775808 ≤ k ∧ k ≤ 9223372036854775807
theorem key3 (k : Int) (h : InI k) : keyOf Try.prog 3 (.int .i64 k) = some (.int .i64 k) := by
  have hw : (Lit.int .i64 k).wf = true := by
    simp [Lit.wf, IntKind.min, IntKind.max, IntKind.signed, IntKind.bits]
    exact h
  simp [keyOf, mapKey, Try.underlying3, hw]
theorem zero3 (w : World) : (zeroValue 3).run Try.prog w = .ok (.int .i64 0) w := by kernel_rfl
/-- A map from numbers to marks; 0 where there is none. At most n were put in. -/
def Mz (w : World) (gm n : Nat) (f : Int → Nat) : Prop :=
  ∃ (D : DataW Unit) (m : Nat), m ≤ n ∧ w.ownsMap Try.prog 3 (plainElem Try.prog 3) gm m D ∧ ∀ k, InI k → D.atKey (.int .i64 k) (.lit (.int .i64 0)) = .lit (.int .i64 (f k : Int))
section
variable {w w' : World} {gm n : Nat} {f : Int → Nat}
theorem Mz.made (w : World) : Mz (w.alloc (.map #[] 0)) w.heap.size 0 (fun _ => 0) :=
  ⟨.map [], 0, Nat.le_refl _, World.ownsMap_made w _ _ _, fun _ _ => rfl⟩
theorem Mz.same (h : Mz w gm n f) (hs : w'.heap[gm]? = w.heap[gm]?) : Mz w' gm n f := by
  obtain ⟨D, m, hm, ⟨es, ck, h1, h2⟩, h3⟩ := h
  exact ⟨D, m, hm, ⟨es, ck, hs.trans h1, h2⟩, h3⟩
theorem Mz.lt (h : Mz w gm n f) : gm < w.heap.size := by
  obtain ⟨D, m, hm, h1, -⟩ := h
  exact h1.lt
theorem Mz.kept {row : Option Nat} (h : Mz w gm n f) (hg : w.grownBy w' row) (h1 : row ≠ some gm) : Mz w' gm n f :=
  h.same (((Mv.refl w (fun k => row = some k)).grown hg (fun _k _ e => e)).2.2.2.2 gm h.lt h1)
theorem Mz.later (h : Mz w gm n f) (hb : Below w.heap.size w w') : Mz w' gm n f := h.same (hb.block gm h.lt)
theorem Mz.mono (h : Mz w gm n f) {n' : Nat} (hn : n ≤ n') : Mz w gm n' f := by
  obtain ⟨D, m, hm, h1⟩ := h
  exact ⟨D, m, Nat.le_trans hm hn, h1⟩
theorem Mz.ext (h : Mz w gm n f) {f' : Int → Nat} (hf : ∀ k, f k = f' k) : Mz w gm n f' := by
  have : f = f' := funext hf
  exact this ▸ h
theorem Mz.look (h : Mz w gm n f) (k : Int) (hk : InI k) : (Instr.lookup 67 (.map (some gm)) (.int .i64 k) false).run Try.prog w = .ok (.int .i64 (f k : Int)) w := by
  obtain ⟨D, m, -, h1, h2⟩ := h
  obtain ⟨c, hr, hv, -⟩ := h1.lookup_int keyed3 Try.underlying67 Try.underlying3 (zero3 w) (key3 k hk)
  rw [h2 k hk] at hv
  simp only [DataW.lit.injEq, Lit.int.injEq, true_and] at hv
  rw [hv]
  exact hr
theorem Mz.store (h : Mz w gm n f) (k : Int) (hk : InI k) (i : Nat) (hi : i ≤ 1000000) (hn : n ≤ 100000000) : ∃ w', (Instr.mapUpdate 67 (.map (some gm)) (.int .i64 k) (.int .i64 (i : Int))).run Try.prog w = .ok () w' ∧ Mz w' gm (n + 1) (fun x => if x = k then i else f x) ∧ w.mapTurned w' gm := by
  obtain ⟨D, m, hm, h1, h2⟩ := h
  have hw : (Lit.int .i64 (i : Int)).wf = true := by simp [Lit.wf, IntKind.min, IntKind.max, IntKind.signed, IntKind.bits]; omega
  obtain ⟨w', hr, h3, h4⟩ := h1.store keyed3 Try.underlying67 (by unfold maxLen; omega) (key3 k hk) (plainElem_int Try.underlying3 hw)
  refine ⟨w', hr, ⟨_, m + 1, by omega, h3, fun x hx => ?_⟩, h4⟩
  by_cases ex : x = k
  · subst ex
    rw [Maps.atKey_put_same h1.isMap (keyed3.key (key3 x hk))]
    dsimp only
    rw [if_pos rfl]
  · have hne : (Lit.int .i64 x) ≠ .int .i64 k := fun e' => by
      simp only [Lit.int.injEq, true_and] at e'
      exact ex e'
    rw [Maps.atKey_put_other hne]
    dsimp only
    rw [if_neg ex]
    exact h2 x hx
end
/-- Marks in memory. -/
def Mm (w : World) (g1 g2 n : Nat) (ms : Mk) : Prop := g1 ≠ g2 ∧ Mz w g1 n (wt ms) ∧ Mz w g2 n (tc ms)
section
variable {w w' : World} {g1 g2 n : Nat} {ms : Mk}
theorem Mm.later (h : Mm w g1 g2 n ms) (hb : Below w.heap.size w w') : Mm w' g1 g2 n ms := ⟨h.1, h.2.1.later hb, h.2.2.later hb⟩
theorem Mm.same (h : Mm w g1 g2 n ms) (h1 : w'.heap[g1]? = w.heap[g1]?) (h2 : w'.heap[g2]? = w.heap[g2]?) : Mm w' g1 g2 n ms := ⟨h.1, h.2.1.same h1, h.2.2.same h2⟩
end
theorem nomarks_any (w : World) : Calls Try.prog 34 #[] w fun e w' => ∃ g1 g2, e = .returned (.agg #[.map (some g1), .map (some g2)]) ∧ Mm w' g1 g2 0 [] ∧ w.heap.size ≤ g1 ∧ w.heap.size ≤ g2 ∧ Below w.heap.size w w' := by
  have hmm := @run_makeMap Try.prog
  go_enter Try.func34, Try.ntmps34
  go_wp2_with fail
  obtain ⟨w1, hw1⟩ : ∃ X, X = w.alloc (.cells #[.map (some (w.heap.size + 1)), .map (some (w.heap.size + 1 + 1))] 69) := ⟨_, rfl⟩
  rw [← hw1]
  have b1 : Below w.heap.size w w1 := hw1 ▸ below_alloc w _
  have s1 : w1.heap.size = w.heap.size + 1 := by rw [hw1]; simp
  have s2 : (w1.alloc (.map #[] 0)).heap.size = w.heap.size + 1 + 1 := by simp [s1]
  have m1 := Mz.made w1
  have m2 := Mz.made (w1.alloc (.map #[] 0))
  have b2 := below_alloc w1 (.map #[] 0)
  have b3 := below_alloc (w1.alloc (.map #[] 0)) (.map #[] 0)
  have hc : w1.heap[w.heap.size]? = some (.cells #[.map (some (w.heap.size + 1)), .map (some (w.heap.size + 1 + 1))] 69 (0, 0)) := hw1 ▸ heap_alloc_new w _
  have hc3 := ((b2.block w.heap.size (by omega)).trans hc)
  have hc4 := ((b3.block w.heap.size (by omega)).trans hc3)
  rw [s1] at m1
  rw [s2] at m2
  refine bodyPost_ret (results_cell_row rfl _ _ w.heap.size 69 _ (0, 0) _ rfl hc4 Try.underlying69 rfl (by kernel_rfl)) rfl ?_
  exact ⟨_, _, rfl, ⟨by omega, m1.later b3, m2⟩, by omega, by omega, below_on (below_on b1 b2) b3⟩
/-- A system in memory: what it reads and writes. -/
def Ac (w : World) (B : Nat) (va vb : Value) (s : Sy) : Prop := Rw w B va s.1 ∧ Rw w B vb s.2 ∧ (∀ x ∈ s.1, InI x) ∧ (∀ x ∈ s.2, InI x) ∧ s.1.length ≤ 1000 ∧ s.2.length ≤ 1000
theorem Ac.later {w w' : World} {B : Nat} {va vb : Value} {s : Sy} (h : Ac w B va vb s) (hb : Below w.heap.size w w') : Ac w' B va vb s := ⟨own_later h.1 hb, own_later h.2.1 hb, h.2.2⟩
/-- A row is no map. -/
theorem own_nomap {w : World} {B e s n : Nat} {v : Value} {xs : List Value} {gm k : Nat} {f : Int → Nat} (h : w.ownsRow B e s v n xs) (hm : Mz w gm k f) : ∀ q, v.ownBlock = some q → q ≠ gm := fun q hq e => by
  rcases h.2 with ⟨rfl, _⟩ | ⟨g, cap, cur, rfl, hb, hg, -⟩
  · simp [Value.ownBlock] at hq
  · simp only [Value.ownBlock, Option.some.injEq] at hq
    subst hq
    subst e
    obtain ⟨D, m, hm, ⟨es, ck, h1, h2⟩, h3⟩ := hm
    rw [h1] at hg
    cases hg
/-- Marks that are put on some kinds. -/
def Fi (b : Int → Nat) (l : List Int) (m : Nat) : Int → Nat := fun k => if k ∈ l then max (b k) m else b k
theorem Fi.nil (b : Int → Nat) (m : Nat) : Fi b [] m = b := by funext k; simp [Fi]
theorem Fi.add (b : Int → Nat) (l : List Int) (m : Nat) (k : Int) : (fun x => if x = k then max (Fi b l m k) m else Fi b l m x) = Fi b (l ++ [k]) m := by
  funext x
  by_cases e : x = k
  · subst e
    simp only [if_true, Fi, List.mem_append, List.mem_singleton, or_true]
    split <;> omega
  · simp [e, Fi]
theorem Fi.twice (b : Int → Nat) (l l' : List Int) (m : Nat) : Fi (Fi b l m) l' m = Fi b (l ++ l') m := by
  funext k
  simp only [Fi, List.mem_append]
  by_cases h1 : k ∈ l <;> by_cases h2 : k ∈ l' <;> simp [h1, h2]
theorem tc_add (ms : Mk) (s : Sy) (m : Nat) : tc (ms ++ [(s, m)]) = Fi (tc ms) (s.1 ++ s.2) m := by
  funext k
  rw [tc, gt_add]
  simp only [Fi, List.mem_append, Bool.or_eq_true, List.contains_iff_mem]
  rfl
theorem wt_add (ms : Mk) (s : Sy) (m : Nat) : wt (ms ++ [(s, m)]) = Fi (wt ms) s.2 m := by
  funext k
  rw [wt, gt_add]
  simp only [Fi, List.contains_iff_mem]
  rfl
theorem max_int (P : Program) (w : World) (ts : Array TypeId) (t : TypeId) (x y : Nat) : (Builtin.max_ ts t #[.int .i64 (x : Int), .int .i64 (y : Int)]).run P w = .ok (.int .i64 ((max x y : Nat) : Int)) w := by
  rw [run_max_int2]
  congr 2
  split <;> omega
/-- Under way in leave. -/
def Lv (w : World) (N g1 g2 : Nat) (va vb : Value) (s : Sy) (n1 n2 : Nat) (f1 f2 : Int → Nat) (W : World) : Prop :=
  W.heap[N]? = some (.cells #[.map (some g1), .map (some g2)] 69 (0, 0)) ∧ W.heap[N + 1]? = some (.cells #[va, vb] 74 (0, 0)) ∧ Mz W g1 n1 f1 ∧ Mz W g2 n2 f2 ∧ Rw W 0 va s.1 ∧ Rw W 0 vb s.2 ∧ Mv w W (fun k => k = g1 ∨ k = g2) ∧ N + 2 ≤ W.heap.size
theorem Lv.turn2 {w W : World} {N g1 g2 : Nat} {va vb : Value} {s : Sy} {n1 n2 : Nat} {f1 f2 : Int → Nat} (h : Lv w N g1 g2 va vb s n1 n2 f1 f2 W) (hne : g1 ≠ g2) (h1 : g2 < N) (k : Int) (hk : InI k) (m : Nat) (hm : max (f2 k) m ≤ 1000000) (hn : n2 ≤ 100000000) :
    ∃ W', (Instr.mapUpdate 67 (.map (some g2)) (.int .i64 k) (.int .i64 ((max (f2 k) m : Nat) : Int))).run Try.prog W = .ok () W' ∧ Lv w N g1 g2 va vb s n1 (n2 + 1) f1 (fun x => if x = k then max (f2 k) m else f2 x) W' := by
  obtain ⟨a1, a2, a3, a4, a5, a6, a7, a8⟩ := h
  obtain ⟨W', hr, h2, h3⟩ := a4.store k hk _ hm hn
  have hg := h3.grown
  refine ⟨W', hr, ?_, ?_, a3.kept hg (by simp; omega), h2, own_kept a5 hg (fun q hq e => own_nomap a5 a4 q hq (by simpa using e.symm)), own_kept a6 hg (fun q hq e => own_nomap a6 a4 q hq (by simpa using e.symm)), a7.grown hg (fun q _ e => by simp at e; exact .inr e.symm), Nat.le_trans a8 hg.size⟩
  · exact (hg.block N (by omega) (by simp; omega)).trans a1
  · exact (hg.block (N + 1) (by omega) (by simp; omega)).trans a2
theorem Lv.turn1 {w W : World} {N g1 g2 : Nat} {va vb : Value} {s : Sy} {n1 n2 : Nat} {f1 f2 : Int → Nat} (h : Lv w N g1 g2 va vb s n1 n2 f1 f2 W) (hne : g1 ≠ g2) (h1 : g1 < N) (k : Int) (hk : InI k) (m : Nat) (hm : max (f1 k) m ≤ 1000000) (hn : n1 ≤ 100000000) :
    ∃ W', (Instr.mapUpdate 67 (.map (some g1)) (.int .i64 k) (.int .i64 ((max (f1 k) m : Nat) : Int))).run Try.prog W = .ok () W' ∧ Lv w N g1 g2 va vb s (n1 + 1) n2 (fun x => if x = k then max (f1 k) m else f1 x) f2 W' := by
  obtain ⟨a1, a2, a3, a4, a5, a6, a7, a8⟩ := h
  obtain ⟨W', hr, h2, h3⟩ := a3.store k hk _ hm hn
  have hg := h3.grown
  refine ⟨W', hr, ?_, ?_, h2, a4.kept hg (by simp; omega), own_kept a5 hg (fun q hq e => own_nomap a5 a3 q hq (by simpa using e.symm)), own_kept a6 hg (fun q hq e => own_nomap a6 a3 q hq (by simpa using e.symm)), a7.grown hg (fun q _ e => by simp at e; exact .inl e.symm), Nat.le_trans a8 hg.size⟩
  · exact (hg.block N (by omega) (by simp; omega)).trans a1
  · exact (hg.block (N + 1) (by omega) (by simp; omega)).trans a2
theorem Lv.cells {w W : World} {N g1 g2 : Nat} {va vb : Value} {s : Sy} {n1 n2 : Nat} {f1 f2 : Int → Nat} (h : Lv w N g1 g2 va vb s n1 n2 f1 f2 W) : W.cell? ⟨N, 0, none⟩ = some (.map (some g1)) ∧ W.cell? ⟨N, 1, none⟩ = some (.map (some g2)) ∧ W.cell? ⟨N + 1, 0, none⟩ = some va ∧ W.cell? ⟨N + 1, 1, none⟩ = some vb := by
  refine ⟨?_, ?_, ?_, ?_⟩
  · rw [cell_of_row W _ _ _ 69 (0, 0) h.1]; rfl
  · rw [cell_of_row W _ _ _ 69 (0, 0) h.1]; rfl
  · rw [cell_of_row W _ _ _ 74 (0, 0) h.2.1]; rfl
  · rw [cell_of_row W _ _ _ 74 (0, 0) h.2.1]; rfl
theorem Fi_le {b : Int → Nat} {l : List Int} {m M : Nat} (hb : ∀ k, b k ≤ M) (hm : m ≤ M) (k : Int) : Fi b l m k ≤ M := by
  unfold Fi
  have := hb k
  split <;> omega
set_option maxHeartbeats 4000000 in
theorem leave_any {w : World} {g1 g2 n : Nat} {ms : Mk} {va vb : Value} {s : Sy} (h : Mm w g1 g2 n ms) (ha : Ac w 0 va vb s) (m : Nat) (hm : m ≤ 1000000) (hms : ∀ x ∈ ms, x.2 ≤ 1000000) (hn : n ≤ 90000000) :
    Calls Try.prog 37 #[.agg #[.map (some g1), .map (some g2)], .agg #[va, vb], .int .i64 (m : Int)] w fun e w' => e = .returned (.tuple #[]) ∧ Mm w' g1 g2 (n + s.1.length + s.2.length) (ms ++ [(s, m)]) ∧ Mv w w' (fun k => k = g1 ∨ k = g2) := by
  obtain ⟨ha1, ha2, hi1, hi2, hl1, hl2⟩ := ha
  obtain ⟨aa, ca, rfl⟩ := own_len ha1
  obtain ⟨ab, cb, rfl⟩ := own_len ha2
  obtain ⟨hne, hm1, hm2⟩ := h
  have hg1 := hm1.lt
  have hg2 := hm2.lt
  have bt : ∀ k, tc ms k ≤ 1000000 := fun k => gt_le.2 fun x hx _ => hms x hx
  have bw : ∀ k, wt ms k ≤ 1000000 := fun k => gt_le.2 fun x hx _ => hms x hx
  have BT := hide bt
  have BW := hide bw
  have HI1 := hide hi1
  have HI2 := hide hi2
  have hmx := @max_int Try.prog
  have LV0 : Hid (Lv w w.heap.size g1 g2 (.slice aa s.1.length ca) (.slice ab s.2.length cb) s n n (wt ms) (Fi (tc ms) (s.1.take 0) m) ((w.alloc (.cells #[.map (some g1), .map (some g2)] 69)).alloc (.cells #[.slice aa s.1.length ca, .slice ab s.2.length cb] 74))) := by
    obtain ⟨w1, hw1⟩ : ∃ X, X = w.alloc (.cells #[.map (some g1), .map (some g2)] 69) := ⟨_, rfl⟩
    have b1 : Below w.heap.size w w1 := hw1 ▸ below_alloc w _
    have s1 : w1.heap.size = w.heap.size + 1 := by rw [hw1]; simp
    have c1 : w1.heap[w.heap.size]? = some (.cells #[.map (some g1), .map (some g2)] 69 (0, 0)) := hw1 ▸ heap_alloc_new w _
    rw [← hw1]
    have b2 := below_alloc w1 (.cells #[.slice aa s.1.length ca, .slice ab s.2.length cb] 74)
    have b := below_on b1 b2
    rw [List.take_zero, Fi.nil]
    refine ⟨(b2.block _ (by omega)).trans c1, ?_, hm1.later b, hm2.later b, own_later ha1 b, own_later ha2 b, Mv.of_below b _, by simp [s1]⟩
    rw [← s1]
    exact heap_alloc_new w1 _
  have HG : Hid (g1 < w.heap.size ∧ g2 < w.heap.size ∧ g1 ≠ g2) := ⟨hg1, hg2, hne⟩
  have HL : Hid (s.1.length ≤ 1000000 ∧ s.2.length ≤ 1000000 ∧ n ≤ 90000000 ∧ m ≤ 1000000) := ⟨by omega, by omega, hn, hm⟩
  clear ha1 ha2 hm1 hm2 hi1 hi2 bt bw hne hg1 hg2 hl1 hl2 hn hm hms
  go_enter Try.func37, Try.ntmps37
  have K1 := LV0.out.cells.2.2.1
  go_wp2_with fail
  clear K1
  go_loopw [13] (fun v13 W => ∃ i : Nat, i ≤ s.1.length ∧ v13 = .int .i64 (i : Int) ∧ Hid (Lv w w.heap.size g1 g2 (.slice aa s.1.length ca) (.slice ab s.2.length cb) s n (n + i) (wt ms) (Fi (tc ms) (s.1.take i) m) W)) (fun v13 _ => s.1.length - (intOf v13).toNat)
  case atStart => exact ⟨0, Nat.zero_le _, rfl, LV0.out⟩
  case round =>
    obtain ⟨i, hil, rfl, HV⟩ := hrel
    clear LV0
    obtain ⟨k1, k2, k3, k4⟩ := HV.out.cells
    by_cases hlt : i < s.1.length
    · have t1 : (i : Int) < (s.1.length : Int) := by omega
      have ho := HV.out.2.2.2.2.1
      obtain ⟨g, c, e0, hc1, hc2⟩ := own_form ho (by omega)
      simp only [Value.slice.injEq, true_and] at e0
      obtain ⟨rfl, rfl⟩ := e0
      have e1 := ho.at i hlt
      have hk := HI1.out s.1[i] (List.getElem_mem hlt)
      have hlk := HV.out.2.2.2.1.look _ hk
      obtain ⟨W', hup, HV'⟩ := HV.out.turn2 HG.out.2.2 HG.out.2.1 _ hk m (by have := Fi_le (l := s.1.take i) BT.out HL.out.2.2.2 s.1[i]; have := HL.out.2.2.2; omega) (by have := HL.out; omega)
      rw [Fi.add, ← List.take_succ_eq_append_getElem hlt] at HV'
      have HV'' := hide HV'
      clear ho hk HV' HV
      generalize s.1[i] = x at *
      go_wp2_with fail
      go_roundw
      case rel => exact ⟨i + 1, by omega, rfl, HV''.out⟩
      case measure => simp only [intOf]; omega
    · have t1 : ¬ (i : Int) < (s.1.length : Int) := by omega
      obtain rfl : i = s.1.length := by omega
      rw [List.take_length] at HV
      clear hlt hil
      have LV1 : Hid (Lv w w.heap.size g1 g2 (.slice aa s.1.length ca) (.slice ab s.2.length cb) s (n + 0) (n + s.1.length + 0) (Fi (wt ms) (s.2.take 0) m) (Fi (tc ms) (s.1 ++ s.2.take 0) m) wr) := by
        rw [List.take_zero, Fi.nil, List.append_nil]
        exact HV.out
      clear HV
      go_wp2_with fail
      go_loopw [30] (fun v30 W => ∃ i : Nat, i ≤ s.2.length ∧ v30 = .int .i64 (i : Int) ∧ Hid (Lv w w.heap.size g1 g2 (.slice aa s.1.length ca) (.slice ab s.2.length cb) s (n + i) (n + s.1.length + i) (Fi (wt ms) (s.2.take i) m) (Fi (tc ms) (s.1 ++ s.2.take i) m) W)) (fun v30 _ => s.2.length - (intOf v30).toNat)
      case atStart => exact ⟨0, Nat.zero_le _, rfl, LV1.out⟩
      case round =>
        obtain ⟨i, hil, rfl, HV⟩ := hrel
        clear LV1 k1 k2 k3 k4
        obtain ⟨k1, k2, k3, k4⟩ := HV.out.cells
        by_cases hlt : i < s.2.length
        · have t1 : (i : Int) < (s.2.length : Int) := by omega
          have ho := HV.out.2.2.2.2.2.1
          obtain ⟨g, c, e0, hc1, hc2⟩ := own_form ho (by omega)
          simp only [Value.slice.injEq, true_and] at e0
          obtain ⟨rfl, rfl⟩ := e0
          have e1 := ho.at i hlt
          have hk := HI2.out s.2[i] (List.getElem_mem hlt)
          have hlk := HV.out.2.2.2.1.look _ hk
          obtain ⟨W', hup, HV'⟩ := HV.out.turn2 HG.out.2.2 HG.out.2.1 _ hk m (by have := Fi_le (l := s.1 ++ s.2.take i) BT.out HL.out.2.2.2 s.2[i]; have := HL.out.2.2.2; omega) (by have := HL.out; omega)
          rw [Fi.add, List.append_assoc, ← List.take_succ_eq_append_getElem hlt] at HV'
          obtain ⟨j1, j2, j3, j4⟩ := HV'.cells
          have hlk2 := HV'.2.2.1.look _ hk
          obtain ⟨W2, hup2, HV2⟩ := HV'.turn1 HG.out.2.2 HG.out.1 _ hk m (by have := Fi_le (l := s.2.take i) BW.out HL.out.2.2.2 s.2[i]; have := HL.out.2.2.2; omega) (by have := HL.out; omega)
          rw [Fi.add, ← List.take_succ_eq_append_getElem hlt] at HV2
          have HV'' := hide HV2
          clear ho hk HV' HV HV2
          generalize s.2[i] = x at *
          go_wp2_with fail
          go_roundw
          case rel => exact ⟨i + 1, by omega, rfl, HV''.out⟩
          case measure => simp only [intOf]; omega
        · have t1 : ¬ (i : Int) < (s.2.length : Int) := by omega
          obtain rfl : i = s.2.length := by omega
          rw [List.take_length, ← wt_add, ← tc_add] at HV
          go_wp2_with fail
          go_end0
          refine ⟨rfl, ⟨HG.out.2.2, HV.out.2.2.1.mono (by omega), HV.out.2.2.2.1.mono (by omega)⟩, HV.out.2.2.2.2.2.2.1⟩
end Go.Proofs.Ythgjdmomcpcolaa
