import Derived.Test.YtpolajoephjdhaaGreatDoorCoR
import Derived.Laws.CopyOwn
import Derived.OwnWalk
import Derived.BigQuiet
import Derived.Test.YtpolajoephjdhaaGreatDoorLsO
import Derived.Test.YtpolajoephjdhaaGreatDoorDeG
import Derived.Test.YtpolajoephjdhaaGreatDoorShM
/-
  Copies of lists whose elements have several cells; the law's lent.
-/
namespace Go.Proofs.YtpolajoephjdhaaGreatDoor
open Go.RowKit
set_option maxRecDepth 100000
theorem run_copy_rowS {P : Program} (w : World) (dT sT ty elem : TypeId) (sz g o dLen dCap : Nat) (a : Addr) (sLen sCap : Nat) (cur : Array Value) (t : TypeId) (cs : List Value)
    (hu : P.underlying dT = some (.slice elem)) (hs : (P.info? elem).map (·.size) = some sz)
    (hg : w.heap[g]? = some (.cells cur t (0, 0))) (hn : cs.length = Nat.min sLen dLen * sz)
    (hsrc : ∀ j v, cs[j]? = some v → w.cell? (a.add j) = some v) (hfit : o + cs.length ≤ cur.size) (h1 : ∀ v ∈ cs, v.oneCell' = true) :
    (Builtin.copy_ #[dT, sT] ty #[.slice (some ⟨g, o, none⟩) dLen dCap, .slice (some a) sLen sCap]).run P w =
      .ok (goInt (Nat.min sLen dLen)) (w.setRow g (cur.toList.take o ++ cs ++ cur.toList.drop (o + cs.length)).toArray) := by
  have hl := run_loadCells_list (P := P) w a cs hsrc
  have hst := run_storeCells_at P g o t cs 0 cur w hg (by simpa using hfit) h1
  cases hq : P.info? elem with
  | none => simp [hq] at hs
  | some i =>
    have hi : i.size = sz := by simpa [hq] using hs
    simp [Builtin.copy_, run_underlying hu, Builtin.lenOf, Builtin.firstCells, Go.sizeOf, typeInfo, hq, hi, ← hn, hl, hst]
theorem run_copy_noneS {P : Program} (w : World) (dT sT ty elem : TypeId) (sz : Nat) (d a : Option Addr) (dLen dCap sLen sCap : Nat) (hu : P.underlying dT = some (.slice elem)) (hs : (P.info? elem).map (·.size) = some sz) (hn : Nat.min sLen dLen = 0) :
    (Builtin.copy_ #[dT, sT] ty #[.slice d dLen dCap, .slice a sLen sCap]).run P w = .ok (goInt 0) w := by
  cases hq : P.info? elem with
  | none => simp [hq] at hs
  | some i =>
    have hl : ∀ (x : Addr), (loadCells x 0).run P w = .ok #[] w := fun x => by simpa using run_loadCells_list (P := P) w x [] (by simp)
    cases d <;> cases a <;> simp [Builtin.copy_, run_underlying hu, Builtin.lenOf, Builtin.firstCells, Go.sizeOf, typeInfo, hq, hn, storeCells, hl]
theorem wpList_copy_S {P : Program} {w : World} {ops : Array Oper} {rest : List Oper} {o : Oper} {a : Act} {Q : Exit → Act → World → Prop} (hgd : o.guard = none) (d s : Operand) (dT sT : TypeId)
    (ho : o.op = .call { callee := .builtin .copy, args := #[d, s], argTypes := #[dT, sT] }) (elem : TypeId) (sz : Nat) (hu : P.underlying dT = some (.slice elem)) (hsz : (P.info? elem).map (·.size) = some sz) (h0 : 0 < sz)
    (dp sp : Option Addr) (dLen dCap sLen sCap : Nat) (hd : a.eval d = .slice dp dLen dCap) (hs : a.eval s = .slice sp sLen sCap)
    (g off : Nat) (cur : List Value) (t : TypeId) (hg : w.heap[g]? = some (.cells cur.toArray t (0, 0))) (cs : List Value) (hn : cs.length = Nat.min sLen dLen * sz)
    (hpos : 0 < cs.length → dp = some ⟨g, off, none⟩ ∧ ∃ ad, sp = some ad ∧ ∀ j v, cs[j]? = some v → w.cell? (ad.add j) = some v)
    (hfit : off + cs.length ≤ cur.length) (h1 : ∀ v ∈ cs, v.oneCell' = true)
    (h : ∀ w', w'.heap[g]? = some (.cells (splice cur off cs).toArray t (0, 0)) → w.grownBy w' (some g) → wpList P ops Q rest (a.put o.dst (goInt (Nat.min sLen dLen))) w') :
    wpList P ops Q (o :: rest) a w := by
  refine wpList_plain hgd fun K hK => ?_
  by_cases hz : cs.length = 0
  · obtain rfl : cs = [] := List.eq_nil_of_length_eq_zero hz
    have hm : Nat.min sLen dLen = 0 := by
      rcases Nat.eq_zero_or_pos (Nat.min sLen dLen) with e | e
      · exact e
      · have := Nat.mul_pos e h0
        simp at hn
        omega
    have hrun := run_copy_noneS (P := P) w dT sT o.type elem sz dp sp dLen dCap sLen sCap hu hsz hm
    unfold Oper.wp
    simp [execOp, ho, resolve, invoke, builtin, hd, hs, hrun, Result.andThen]
    refine hK _ _ ?_
    have := h w (by simpa [splice] using hg) ⟨rfl, rfl, rfl, Nat.le_refl _, fun _ _ _ => rfl⟩
    rwa [hm] at this
  · obtain ⟨rfl, ad, rfl, hsrc⟩ := hpos (by omega)
    have hrun := run_copy_rowS (P := P) w dT sT o.type elem sz g off dLen dCap ad sLen sCap cur.toArray t cs hu hsz hg hn hsrc (by simpa using hfit) h1
    unfold Oper.wp
    simp [execOp, ho, resolve, invoke, builtin, hd, hs, hrun, Result.andThen]
    exact hK _ _ (h _ (by simpa [splice] using setRow_heap w g _ _ t _ hg) ⟨rfl, rfl, rfl, by simp [World.setRow], fun k _ hk => setRow_other w g k _ (fun e => hk (by rw [e]))⟩)
/-! ### A block that is a list of instructions -/
def RwI (w : World) (g : Nat) (l : List Ins) : Prop := w.heap[g]? = some (.cells (insC l).toArray 56 (0, 0))
theorem insC_set : ∀ (l : List Ins) (k : Nat) (x : Ins), k < l.length → insC (l.set k x) = ((insC l).set (k * 2) (.int .i64 x.op)).set (k * 2 + 1) (.int .i64 x.a)
  | i :: l, 0, x, _ => rfl
  | i :: l, k + 1, x, h => by
    have e : ∀ (j : Ins) (m : List Ins), insC (j :: m) = .int .i64 j.op :: .int .i64 j.a :: insC m := fun _ _ => rfl
    rw [List.set_cons_succ, e, e, insC_set l k x (by simpa using h), show (k + 1) * 2 = k * 2 + 2 by omega, show k * 2 + 2 + 1 = k * 2 + 1 + 2 by omega]
    rfl
theorem RwI.lt {w : World} {g : Nat} {l : List Ins} (h : RwI w g l) : g < w.heap.size := lt_of_block h
theorem RwI.cell {w : World} {g : Nat} {l : List Ins} (h : RwI w g l) {k : Nat} (hk : k < l.length) : w.cell? ⟨g, k * 2, none⟩ = some (.int .i64 l[k].op) ∧ w.cell? ⟨g, k * 2 + 1, none⟩ = some (.int .i64 l[k].a) := by
  obtain ⟨a, b⟩ := insC_at l k hk
  refine ⟨?_, ?_⟩ <;> rw [cell_of_row w _ _ _ 56 (0, 0) h]
  · simpa using a
  · simpa using b
theorem RwI.frozen {w : World} {g : Nat} {l : List Ins} (h : RwI w g l) (q : Nat) : w.frozen? ⟨g, q, none⟩ = false := frozen_of_row w g q _ 56 h
theorem RwI.set {w : World} {g : Nat} {l : List Ins} (h : RwI w g l) {k : Nat} (hk : k < l.length) (x : Ins) : RwI ((w.setCell ⟨g, k * 2, none⟩ (.int .i64 x.op)).setCell ⟨g, k * 2 + 1, none⟩ (.int .i64 x.a)) g (l.set k x) := by
  unfold RwI
  rw [insC_set l k x hk]
  have a := heap_setCell_same w g (k * 2) _ 56 (.int .i64 x.op) h
  have b := heap_setCell_same _ g (k * 2 + 1) _ 56 (.int .i64 x.a) a
  rw [b]
  simp
theorem RwI.mv {w w' : World} {g : Nat} {l : List Ins} {S : Nat → Prop} (h : RwI w g l) (hm : Mv w w' S) (hs : ¬ S g) : RwI w' g l := hm.at h hs
theorem RwI.later {w w' : World} {g : Nat} {l : List Ins} (h : RwI w g l) (hb : Below w.heap.size w w') : RwI w' g l := h.mv (Mv.of_below hb (fun _ => False)) (fun e => e)
theorem RwI.il {w : World} {g n c : Nat} {l : List Ins} (h : RwI w g l) (hn : n ≤ l.length) (hc : n ≤ c) (hm : c ≤ maxLen) (h6 : ∀ i ∈ l, I6 i.op ∧ I6 i.a) : Il (fun j => j = g) w (.slice (some ⟨g, 0, none⟩) n c) (l.take n) := by
  have e : (l.take n).length = n := by rw [List.length_take]; omega
  refine ⟨_, c, by rw [e], by rw [e]; exact hc, hm, fun _ => ⟨g, 0, rfl, rfl, fun i hi => ?_⟩⟩
  rw [e] at hi
  obtain ⟨a, b⟩ := h.cell (k := i) (by omega)
  have g6 := h6 l[i] (List.getElem_mem _)
  simp only [List.getElem_take, Nat.zero_add]
  exact ⟨g6.1, g6.2, a, b⟩
theorem setR_mv {w : World} {g k : Nat} (x y : Value) : Mv w ((w.setCell ⟨g, k * 2, none⟩ x).setCell ⟨g, k * 2 + 1, none⟩ y) (fun j => j = g) := ((Mv.refl w (fun j => j = g)).set (g := g) rfl _ _).set (g := g) rfl _ _
theorem made_ins (n : Nat) : (madeCells #[Value.int .i64 0, Value.int .i64 0] (n * 2)).toList = insC (List.replicate n ⟨0, 0⟩) := by
  apply List.ext_getElem
  · rw [insC_len, Array.length_toList, size_madeCells, List.length_replicate]
  · intro j h1 h2
    have h3 : ∀ (m k : Nat) (hk : k < (insC (List.replicate m (⟨0, 0⟩ : Ins))).length), (insC (List.replicate m (⟨0, 0⟩ : Ins)))[k] = Value.int .i64 0 := by
      intro m k hk
      have : ∀ v ∈ insC (List.replicate m (⟨0, 0⟩ : Ins)), v = Value.int .i64 0 := by
        intro v hv
        unfold insC at hv
        rw [List.mem_flatMap] at hv
        obtain ⟨x, hx, hv⟩ := hv
        rw [List.mem_replicate] at hx
        obtain ⟨-, rfl⟩ := hx
        simpa using hv
      exact this _ (List.getElem_mem hk)
    rw [h3]
    simp only [madeCells, Array.getElem_toList, Array.getElem_map, Array.getElem_range]
    rcases Nat.mod_two_eq_zero_or_one j with e | e
    · simp [e]
    · simp [e]
theorem own_blockI {w : World} {base g n : Nat} {l : List Ins} (h : w.ownsRow base 56 2 (.slice (some ⟨g, 0, none⟩) n n) n (insC l)) : RwI w g l := by
  obtain ⟨hl, ⟨e, -⟩ | ⟨g', cap, cur, e, hB, hg, h1, h2, h3, h4⟩⟩ := h
  · cases e
  · injection e with e1 e2 e3
    simp only [Option.some.injEq, Addr.mk.injEq, and_true] at e1
    subst e1 e3
    have : cur = (insC l).toArray := by
      rw [← h4, List.take_of_length_le (by rw [Array.length_toList, h3]; exact Nat.le_refl _)]
    unfold RwI
    rw [hg, this]
/-! ### lent -/
def mkI : Ins := ⟨-7, 0⟩
def filI (l : List Ins) (k : Nat) : List Ins := l ++ (List.replicate k mkI ++ List.replicate (80 - k) ⟨0, 0⟩)
theorem filI_len (l : List Ins) (k : Nat) (hk : k ≤ 80) : (filI l k).length = l.length + 80 := by simp [filI]; omega
theorem filI_set (l : List Ins) (k : Nat) (hk : k < 80) : (filI l k).set (l.length + k) mkI = filI l (k + 1) := by
  unfold filI
  rw [List.set_append_right _ _ (by omega), show l.length + k - l.length = k by omega, List.set_append_right _ _ (by simp), show 80 - k = (80 - (k + 1)) + 1 by omega, List.replicate_succ]
  simp [List.replicate_succ', List.append_assoc]
theorem filI_end (l : List Ins) : filI l 80 = l ++ List.replicate 80 mkI := by simp [filI]
theorem insC_append (a b : List Ins) : insC (a ++ b) = insC a ++ insC b := by simp [insC]
theorem insC_drop : ∀ (l : List Ins) (n : Nat), (insC l).drop (n * 2) = insC (l.drop n)
  | l, 0 => rfl
  | [], n + 1 => by simp [insC]
  | i :: l, n + 1 => by
    rw [show (n + 1) * 2 = n * 2 + 2 by omega]
    exact insC_drop l n
theorem splice_I (l : List Ins) : splice (insC (List.replicate (l.length + 80) ⟨0, 0⟩)) 0 (insC l) = insC (filI l 0) := by
  unfold splice filI
  rw [insC_append, Nat.zero_add, insC_len, insC_drop, List.drop_replicate]
  simp
theorem sizeI : (Tryz.prog.info? 56).map (·.size) = some 2 := by kernel_rfl
theorem insC_one (l : List Ins) : ∀ v ∈ insC l, v.oneCell' = true := fun v hv => by
  unfold insC at hv
  rw [List.mem_flatMap] at hv
  obtain ⟨x, -, hv⟩ := hv
  simp at hv
  rcases hv with rfl | rfl <;> rfl
theorem Il.src {Q : Nat → Prop} {w w' : World} {ao : Option Addr} {c : Nat} {l : List Ins} (h : Il Q w (.slice ao l.length c) l) (hb : Below w.heap.size w w') : 0 < (insC l).length → ∃ ad, ao = some ad ∧ ∀ j v, (insC l)[j]? = some v → w'.cell? (ad.add j) = some v := by
  intro h0
  rw [insC_len] at h0
  obtain ⟨g, o, rfl, -⟩ := (h.later hb).nth (k := 0) (by omega)
  refine ⟨_, rfl, fun j v hv => ?_⟩
  have hj : j < l.length * 2 := by
    have := (List.getElem?_eq_some_iff.1 hv).1
    rwa [insC_len] at this
  obtain ⟨g', o', e, -, d0, d1, -, -⟩ := (h.later hb).nth (k := j / 2) (by omega)
  simp only [Option.some.injEq, Addr.mk.injEq, and_true] at e
  obtain ⟨rfl, rfl⟩ := e
  obtain ⟨a, b⟩ := insC_at l (j / 2) (by omega)
  rw [show (⟨g, o, none⟩ : Addr).add j = ⟨g, o + j, none⟩ by simp [Addr.add]]
  rcases Nat.mod_two_eq_zero_or_one j with e | e
  · rw [show j / 2 * 2 = j by omega] at a d0
    rw [a] at hv
    rw [d0, hv]
  · rw [show j / 2 * 2 + 1 = j by omega] at b
    rw [show o + j / 2 * 2 + 1 = o + j by omega] at d1
    rw [b] at hv
    rw [d1, hv]
end Go.Proofs.YtpolajoephjdhaaGreatDoor

/-
  The law's still.
-/
namespace Go.Proofs.YtpolajoephjdhaaGreatDoor
open Go.RowKit
set_option maxRecDepth 100000
def mk8 : Ins := ⟨-8, 0⟩
def overI (l : List Ins) (k : Nat) : List Ins := List.replicate k mk8 ++ l.drop k
theorem overI_len (l : List Ins) (k : Nat) (hk : k ≤ l.length) : (overI l k).length = l.length := by simp [overI]; omega
theorem overI_set (l : List Ins) (k : Nat) (hk : k < l.length) : (overI l k).set k mk8 = overI l (k + 1) := by
  unfold overI
  rw [List.set_append_right _ _ (by simp), List.length_replicate, Nat.sub_self, List.drop_eq_getElem_cons hk, List.set_cons_zero, List.replicate_succ', List.append_assoc]
  rfl
theorem overI_at (l : List Ins) (k : Nat) (hk : k < l.length) : (overI l k)[k]? = some l[k] := by
  unfold overI
  rw [List.getElem?_append_right (by simp), List.length_replicate, Nat.sub_self, List.getElem?_drop, Nat.add_zero, List.getElem?_eq_getElem hk]
theorem overI_end (l : List Ins) : overI l l.length = List.replicate l.length mk8 := by simp [overI]
set_option maxHeartbeats 4000000 in
theorem still_at {Q : Nat → Prop} {W : World} {n c g : Nat} {ao : Option Addr} (nm : ByteArray) (pa lo : Int) (code : List Ins) (hn : n = code.length) (_hc1 : n ≤ c) (_hc2 : c ≤ 9223372036854775807) (h : Il Q W (.slice ao n c) code) (hr : RwI W g (code ++ List.replicate 80 mkI)) (hq : ¬ Q g) (hz : n ≤ 1048576) : Calls Tryz.prog 16 #[.slice (some ⟨g, 0, none⟩) (n + 80) (n + 80), .agg #[.string nm, .int .i64 pa, .int .i64 lo, .slice ao n c]] W fun e w' => e = .returned (.bool true) ∧ RwI w' g (List.replicate (n + 80) mk8) ∧ Mv W w' (fun j => j = g) := by
  obtain ⟨w0, hw0⟩ : ∃ X, X = W.alloc (.cells #[.string nm, .int .i64 pa, .int .i64 lo, .slice ao n c] 45) := ⟨_, rfl⟩
  have B0 : Below W.heap.size W w0 := hw0 ▸ below_alloc W _
  obtain ⟨B, hB⟩ : ∃ B, B = W.heap.size := ⟨_, rfl⟩
  have n0 : w0.heap[B]? = some (.cells #[.string nm, .int .i64 pa, .int .i64 lo, .slice ao n c] 45 (0, 0)) := by rw [hw0, hB]; exact heap_alloc_new W _
  have N0 := hide n0
  have HG : Hid (g < B) := by have := hr.lt; unfold Hid; omega
  have R0 := hide (hr.later B0)
  have H0 := hide (h.later B0)
  have M0 := hide (Mv.of_below B0 (fun j => j = g))
  have HN := hide hn
  have HQ : Hid (∀ j, Q j → ¬ j = g) := fun j e e2 => hq (e2 ▸ e)
  obtain ⟨L, hL⟩ : ∃ L, L = code ++ List.replicate 80 mkI := ⟨_, rfl⟩
  rw [← hL] at R0
  have HL := hide hL
  have LL : Hid (L.length = n + 80) := by unfold Hid; rw [hL, hn]; simp
  have L1 : Hid (∀ k (hk : k < code.length), L[k]? = some code[k]) := fun k hk => by rw [hL, List.getElem?_append_left hk, List.getElem?_eq_getElem hk]
  have L2 : Hid (∀ k, n ≤ k → k < n + 80 → L[k]? = some mkI) := fun k h1 h2 => by
    rw [hL, List.getElem?_append_right (by omega), List.getElem?_replicate, if_pos (by omega)]
  clear n0 B0 h hr hn hq hL
  go_enter Tryz.func16, Tryz.ntmps16
  go_upto_region 1 with fail
  rw [← hB, ← hw0]
  clear hw0 hB
  go_wp2_with fail
  go_loopw [6, 5] (fun v v5 wr => ∃ k : Nat, v = .int .i64 (k : Int) ∧ v5 = .bool true ∧ k ≤ n + 80 ∧ Hid (RwI wr g (overI L k)) ∧ Hid (Mv w0 wr (fun j => j = g))) (fun v _ _ => n + 80 - (intOf v).toNat)
  case atStart => exact ⟨0, rfl, rfl, by omega, R0.out, Mv.refl _ _⟩
  case round =>
    obtain ⟨k, rfl, rfl, hk, hr, hm⟩ := hrel
    obtain ⟨c0, c1, c2, c3⟩ := row4 (hm.out.at N0.out (by have := HG.out; omega))
    by_cases hlt : k < n + 80
    · have hkl : k < L.length := by rw [LL.out]; exact hlt
      have hko : k < (overI L k).length := by rw [overI_len L k (by omega)]; exact hkl
      obtain ⟨y0, y1⟩ := hr.out.cell hko
      have hat := overI_at L k hkl
      rw [List.getElem?_eq_getElem hko] at hat
      have hf := hr.out.frozen
      by_cases hkn : k < n
      · have hkc : k < code.length := by rw [← HN.out]; exact hkn
        have hx := L1.out k hkc
        rw [List.getElem?_eq_getElem hkl] at hx
        obtain ⟨g', o, rfl, -, d0, d1, -, -⟩ := (H0.out.mv hm.out HQ.out).nth hkc
        have ex : (overI L k)[k] = code[k] := Option.some.inj (hat.trans hx)
        rw [ex] at y0 y1
        have hkn' : (k : Int) < (n : Int) := by omega
        generalize code[k] = x at *
        obtain ⟨xo, xa⟩ := x
        dsimp only at y0 y1 d0 d1
        clear hat hx ex
        go_upto_region 5 with fail
        go_quiet (fail)
        obtain ⟨w5, hw5⟩ : ∃ X, X = wr.drewN nq := ⟨_, rfl⟩
        have b5 : Below wr.heap.size wr w5 := by rw [hw5]; exact below_drawn wr nq
        have r5 := hr.out.later b5
        have hm5 := hide (hm.out.later b5)
        rw [← hw5]
        clear y0 y1 hf hw5 c0 c1 c2 c3 d0 d1
        obtain ⟨y0, y1⟩ := r5.cell hko
        have hf := r5.frozen
        have NX : Hid (RwI ((w5.setCell ⟨g, k * 2, none⟩ (.int .i64 (-8))).setCell ⟨g, k * 2 + 1, none⟩ (.int .i64 0)) g (overI L (k + 1))) := by
          have := r5.set hko mk8
          rw [overI_set L k hkl] at this
          exact this
        have MX : Hid (Mv w0 ((w5.setCell ⟨g, k * 2, none⟩ (.int .i64 (-8))).setCell ⟨g, k * 2 + 1, none⟩ (.int .i64 0)) (fun j => j = g)) := hm5.out.trans (setR_mv _ _) (fun _ _ e => e)
        clear r5 b5
        go_wp2_with fail
        exact ⟨⟨k + 1, by go_num, rfl, by omega, NX.out, MX.out⟩, by simp [intOf]; omega⟩
      · have hx := L2.out k (by omega) hlt
        rw [List.getElem?_eq_getElem hkl] at hx
        have ex : (overI L k)[k] = mkI := Option.some.inj (hat.trans hx)
        rw [ex] at y0 y1
        have dk : decide (k < n) = false := decide_eq_false hkn
        have dk2 : decide (n ≤ k) = true := decide_eq_true (by omega)
        clear hkn
        unfold mkI at y0 y1
        dsimp only at y0 y1
        clear hat hx ex
        go_upto_region 5 with fail
        go_quiet (fail)
        obtain ⟨w5, hw5⟩ : ∃ X, X = wr.drewN nq := ⟨_, rfl⟩
        have b5 : Below wr.heap.size wr w5 := by rw [hw5]; exact below_drawn wr nq
        have r5 := hr.out.later b5
        have hm5 := hide (hm.out.later b5)
        rw [← hw5]
        clear y0 y1 hf hw5 c0 c1 c2 c3
        obtain ⟨y0, y1⟩ := r5.cell hko
        have hf := r5.frozen
        have NX : Hid (RwI ((w5.setCell ⟨g, k * 2, none⟩ (.int .i64 (-8))).setCell ⟨g, k * 2 + 1, none⟩ (.int .i64 0)) g (overI L (k + 1))) := by
          have := r5.set hko mk8
          rw [overI_set L k hkl] at this
          exact this
        have MX : Hid (Mv w0 ((w5.setCell ⟨g, k * 2, none⟩ (.int .i64 (-8))).setCell ⟨g, k * 2 + 1, none⟩ (.int .i64 0)) (fun j => j = g)) := hm5.out.trans (setR_mv _ _) (fun _ _ e => e)
        clear r5 b5
        go_wp2_with fail
        exact ⟨⟨k + 1, by go_num, rfl, by omega, NX.out, MX.out⟩, by simp [intOf]; omega⟩
    · obtain rfl : k = n + 80 := by omega
      have FR : Hid (RwI wr g (List.replicate (n + 80) mk8)) := by
        have := hr.out
        rw [← LL.out, overI_end, LL.out] at this
        exact this
      clear c0 c1 c2 c3
      go_wp2_with fail
      go_ret
      exact ⟨rfl, FR.out, M0.out.trans hm.out (fun _ _ e => e)⟩
theorem still_any {Q : Nat → Prop} {W : World} {vc : Value} {g : Nat} (r : Rt) (h : Il Q W vc r.code) (hr : RwI W g (r.code ++ List.replicate 80 mkI)) (hq : ¬ Q g) (hz : r.code.length ≤ 1048576) : Calls Tryz.prog 16 #[.slice (some ⟨g, 0, none⟩) (r.code.length + 80) (r.code.length + 80), rtV r vc] W fun e w' => e = .returned (.bool true) ∧ RwI w' g (List.replicate (r.code.length + 80) mk8) ∧ Mv W w' (fun j => j = g) := by
  obtain ⟨ao, c, rfl, hc1, hc2⟩ := h.at
  exact still_at r.name r.pa r.lo r.code rfl hc1 hc2 h hr hq hz
end Go.Proofs.YtpolajoephjdhaaGreatDoor

/-
  The law's instrs, at one list.
-/
namespace Go.Proofs.YtpolajoephjdhaaGreatDoor
open Go.RowKit
set_option maxRecDepth 100000
def mkM : Ins := ⟨-1000, 0⟩
def marI (l : List Ins) (k : Nat) : List Ins := List.replicate k mkM ++ l.drop k
theorem marI_len (l : List Ins) (k : Nat) (hk : k ≤ l.length) : (marI l k).length = l.length := by simp [marI]; omega
theorem marI_set (l : List Ins) (k : Nat) (hk : k < l.length) : (marI l k).set k mkM = marI l (k + 1) := by
  unfold marI
  rw [List.set_append_right _ _ (by simp), List.length_replicate, Nat.sub_self, List.drop_eq_getElem_cons hk, List.set_cons_zero, List.replicate_succ', List.append_assoc]
  rfl
theorem marI_end (l : List Ins) : marI l l.length = List.replicate l.length mkM := by simp [marI]
theorem insC_rep (n : Nat) : insC (List.replicate n mkM) ++ [.int .i64 (-1000), .int .i64 0] = insC (List.replicate (n + 1) mkM) := by
  rw [List.replicate_succ', insC_append]
  rfl
theorem rep_six (n : Nat) : ∀ i ∈ List.replicate n mkM, I6 i.op ∧ I6 i.a := fun i hi => by
  rw [List.mem_replicate] at hi
  rw [hi.2]
  exact ⟨⟨by decide, by decide⟩, ⟨by decide, by decide⟩⟩
theorem infoLI : (Tryz.prog.info? 43).map (fun i => (i.zero, i.size, i.bytes)) = some (some (.slice none 0 0), 1, 24) := by kernel_rfl
/-- A list that reads as marks. -/
def RdM (w : World) (v : Value) (n : Nat) : Prop := ∃ ao c, v = .slice ao n c ∧ n ≤ c ∧ c ≤ 9223372036854775807 ∧ (0 < n → ∃ g, ao = some ⟨g, 0, none⟩ ∧ ∀ k, k < n → w.cell? ⟨g, k * 2, none⟩ = some (.int .i64 (-1000)) ∧ w.cell? ⟨g, k * 2 + 1, none⟩ = some (.int .i64 0))
theorem own_rdm {w : World} {N n : Nat} {v : Value} (h : w.ownsRow N 56 2 v n (insC (List.replicate n mkM))) : RdM w v n := by
  have h' := h
  obtain ⟨-, ⟨rfl, rfl⟩ | ⟨g, cap, cur, rfl, hB, hg, h1, h2, -⟩⟩ := h
  · exact ⟨none, 0, rfl, Nat.le_refl _, by omega, fun e => by omega⟩
  · refine ⟨_, _, rfl, h1, by unfold maxLen at h2; omega, fun _ => ⟨g, rfl, fun k hk => ?_⟩⟩
    obtain ⟨a, b⟩ := insC_at (List.replicate n mkM) k (by simpa using hk)
    rw [List.getElem_replicate] at a b
    exact ⟨(h'.cellAt (k * 2) (by omega)).trans a, (h'.cellAt (k * 2 + 1) (by omega)).trans b⟩
theorem RdM.mv {w w' : World} {v : Value} {n : Nat} {S : Nat → Prop} (h : RdM w v n) (hm : Mv w w' S) (hs : ∀ j, v.ownBlock = some j → ¬ S j) : RdM w' v n := by
  obtain ⟨ao, c, rfl, h1, h2, h3⟩ := h
  refine ⟨ao, c, rfl, h1, h2, fun h0 => ?_⟩
  obtain ⟨g, rfl, h4⟩ := h3 h0
  refine ⟨g, rfl, fun k hk => ?_⟩
  obtain ⟨a, b⟩ := h4 k hk
  exact ⟨hm.cell a (hs g rfl), hm.cell b (hs g rfl)⟩
theorem RdM.later {w w' : World} {v : Value} {n : Nat} (h : RdM w v n) (hb : Below w.heap.size w w') : RdM w' v n := h.mv (Mv.of_below hb (fun _ => False)) (fun _ _ e => e)
/-- What is appended behind leaves it as it reads. -/
theorem RdM.keep {w w' : World} {v u : Value} {n k : Nat} (h : RdM w v n) (hg : w.grownBy w' u.ownBlock) (hu : ∀ g j, u.ownBlock = some g → j < k * 2 → w'.cell? ⟨g, j, none⟩ = w.cell? ⟨g, j, none⟩) (hk : n ≤ k) : RdM w' v n := by
  obtain ⟨ao, c, rfl, h1, h2, h3⟩ := h
  refine ⟨ao, c, rfl, h1, h2, fun h0 => ?_⟩
  obtain ⟨g, rfl, h4⟩ := h3 h0
  refine ⟨g, rfl, fun j hj => ?_⟩
  obtain ⟨a, b⟩ := h4 j hj
  by_cases e : u.ownBlock = some g
  · exact ⟨(hu g (j * 2) e (by omega)).trans a, (hu g (j * 2 + 1) e (by omega)).trans b⟩
  · have m := (Mv.refl w (fun q => u.ownBlock = some q)).grown hg (fun _ _ e => e)
    exact ⟨m.cell a e, m.cell b e⟩
theorem RdM.at {w : World} {v : Value} {n k : Nat} (h : RdM w v n) (hk : k < n) : ∃ g c, v = .slice (some ⟨g, 0, none⟩) n c ∧ w.cell? ⟨g, k * 2, none⟩ = some (.int .i64 (-1000)) ∧ w.cell? ⟨g, k * 2 + 1, none⟩ = some (.int .i64 0) := by
  obtain ⟨ao, c, rfl, h1, h2, h3⟩ := h
  obtain ⟨g, rfl, h4⟩ := h3 (by omega)
  obtain ⟨a, b⟩ := h4 k hk
  exact ⟨g, c, rfl, a, b⟩
set_option maxHeartbeats 8000000 in
theorem instrs_one {W : World} {q N : Nat} {v : Value} {l : List Ins} (hq : W.heap[q]? = some (.cells #[v] 43 (0, 0))) (ho : W.ownsRow N 56 2 v l.length (insC l)) (hN : N ≤ W.heap.size) (hm : l.length ≤ 2000) : Calls Tryz.prog 22 #[.slice (some ⟨q, 0, none⟩) 1 1] W fun e w' => e = .returned (.bool true) ∧ Mv W w' (fun j => j = q ∨ v.ownBlock = some j) := by
  have hvq : ∀ j, v.ownBlock = some j → j ≠ q := fun j e1 e2 => by
    subst e2
    obtain ⟨-, ⟨rfl, -⟩ | ⟨g, cap, cur, rfl, hB, hg, -⟩⟩ := ho
    · cases e1
    · have : g = j := by simpa [Value.ownBlock] using e1
      subst this
      rw [hg] at hq
      simp at hq
  have HVQ := hide hvq
  obtain ⟨ao, c, rfl⟩ := own_len ho
  obtain ⟨m, hml⟩ : ∃ m, m = l.length := ⟨_, rfl⟩
  rw [← hml] at ho hm hq hvq HVQ ⊢
  have HML := hide hml
  have HQ := hide hq
  have HO := hide ho
  have HNN := hide hN
  obtain ⟨ic, hi, hz0, hz1, hz2⟩ := info_parts infoI
  obtain ⟨idl, ki, kz0, kz1, kz2⟩ := info_parts infoLI
  have VQ : Hid (∀ wr, Mv W wr (fun j => (Value.slice ao m c).ownBlock = some j) → wr.cell? ⟨q, 0, none⟩ = some (.slice ao m c)) := fun wr hmv => by
    have := hmv.at HQ.out (fun e => HVQ.out q e rfl)
    rw [cell_of_row wr _ _ _ 43 (0, 0) this]
    rfl
  clear hq ho hN hvq hml
  go_enter Tryz.func22, Tryz.ntmps22
  go_wp2_with fail
  go_loopw [4] (fun v4 wr => ∃ i : Nat, v4 = .int .i64 (i : Int) ∧ i ≤ 1 ∧ Hid (wr.ownsRow N 56 2 (.slice ao m c) m (insC (if i = 0 then l else List.replicate m mkM))) ∧ Hid (Mv W wr (fun j => (Value.slice ao m c).ownBlock = some j))) (fun v4 _ => 1 - (intOf v4).toNat)
  case atStart => exact ⟨0, rfl, by omega, HO.out, Mv.refl _ _⟩
  case round =>
    obtain ⟨i, rfl, hi1, hown, hmv⟩ := hrel
    by_cases hlt : i < 1
    · obtain rfl : i = 0 := by omega
      rw [if_pos rfl] at hown
      go_wp2_with fail
      go_loopw [5] (fun v5 wx => ∃ k : Nat, v5 = .int .i64 (k : Int) ∧ k ≤ m ∧ Hid (wx.ownsRow N 56 2 (.slice ao m c) m (insC (marI l k))) ∧ Hid (Mv W wx (fun j => (Value.slice ao m c).ownBlock = some j))) (fun v5 _ => m - (intOf v5).toNat)
      case atStart => exact ⟨0, rfl, by omega, hown.out, hmv.out⟩
      case round => as_aux_lemma =>
        obtain ⟨k, rfl, hk, ho, hm2⟩ := hrel
        have y0 := VQ.out wr hm2.out
        by_cases hk2 : k < m
        · obtain ⟨g, c', e, hc⟩ := own_some ho.out (by omega)
          injection e with e1 e2 e3
          subst e1 e3
          have hkl : k < (marI l k).length := by rw [marI_len l k (by rw [← HML.out]; omega), ← HML.out]; exact hk2
          obtain ⟨a1, a2⟩ := insC_at (marI l k) k hkl
          have d0 := (hc (k * 2) (by omega)).trans a1
          have d1 := (hc (k * 2 + 1) (by omega)).trans a2
          have z0 := ho.out.frozenAt (k * 2)
          have z1 := ho.out.frozenAt (k * 2 + 1)
          have st1 := (ho.out.stored (k * 2) (.int .i64 (-1000))).1
          have st2 := (st1.stored (k * 2 + 1) (.int .i64 0)).1
          have NX : Hid (((wr.setCell ⟨g, k * 2, none⟩ (.int .i64 (-1000))).setCell ⟨g, k * 2 + 1, none⟩ (.int .i64 0)).ownsRow N 56 2 (.slice (some ⟨g, 0, none⟩) m c) m (insC (marI l (k + 1)))) := by
            unfold Hid
            rw [← marI_set l k (by rw [← HML.out]; exact hk2), insC_set _ _ _ hkl]
            exact st2
          have MX : Hid (Mv W ((wr.setCell ⟨g, k * 2, none⟩ (.int .i64 (-1000))).setCell ⟨g, k * 2 + 1, none⟩ (.int .i64 0)) (fun j => (Value.slice (some ⟨g, 0, none⟩) m c).ownBlock = some j)) := hm2.out.trans (setR_mv _ _) (fun j _ e => by rw [e]; rfl)
          clear hc a1 a2 st1 st2 e2
          go_wp2_with fail
          exact ⟨⟨k + 1, by go_num, by omega, NX.out, MX.out⟩, by simp [intOf]; omega⟩
        · obtain rfl : k = m := by omega
          have FN : Hid (wr.ownsRow N 56 2 (.slice ao k c) k (insC (List.replicate k mkM))) := by
            have h1 := ho.out
            have h2 := marI_end l
            rw [← HML.out] at h2
            rw [h2] at h1
            exact h1
          go_wp2_with fail
          exact ⟨⟨1, rfl, by omega, FN.out, hm2.out⟩, by simp [intOf]⟩
    · obtain rfl : i = 1 := by omega
      rw [if_neg (by omega)] at hown
      rw [show ((1 : Nat) : Int) = 1 from rfl]
      go_wp2_with fail
      go_loopw [6, 0] (fun v6 vl wr => ∃ i : Nat, v6 = .int .i64 (i : Int) ∧ i ≤ 1 ∧ Hid ((i = 0 ∧ vl = .slice (some ⟨q, 0, none⟩) 1 1 ∧ wr.ownsRow N 56 2 (.slice ao m c) m (insC (List.replicate m mkM)) ∧ Mv W wr (fun j => (Value.slice ao m c).ownBlock = some j)) ∨ (i = 1 ∧ Mv W wr (fun j => j = q ∨ (Value.slice ao m c).ownBlock = some j) ∧ ∃ q' c' v', vl = .slice (some ⟨q', 0, none⟩) 2 c' ∧ wr.cell? ⟨q', 0, none⟩ = some (.slice ao m c) ∧ wr.cell? ⟨q', 1, none⟩ = some v' ∧ RdM wr (.slice ao m c) m ∧ RdM wr v' (m + 100)))) (fun v6 _ _ => 1 - (intOf v6).toNat)
      case atStart => exact ⟨0, rfl, by omega, .inl ⟨rfl, rfl, hown.out, hmv.out⟩⟩
      case round =>
        obtain ⟨i, rfl, hi1, hst⟩ := hrel
        rcases hst.out with ⟨rfl, rfl, hown, hmv⟩ | ⟨rfl, hmv, q', c', v', rfl, k0, k1, m0, m1⟩
        · have y0 := VQ.out wr hmv
          have OW := hide hown
          have MV := hide hmv
          clear hst hown hmv
          rw [show ((0 : Nat) : Int) = 0 from rfl]
          go_wp2_with fail
          go_loopw [8, 7] (fun v8 v7 wx => ∃ k : Nat, v8 = .int .i64 (k : Int) ∧ k ≤ 100 ∧ Hid (wx.ownsRow N 56 2 v7 (m + k) (insC (List.replicate (m + k) mkM))) ∧ Hid (Mv W wx (fun j => (Value.slice ao m c).ownBlock = some j)) ∧ Hid (RdM wx (.slice ao m c) m) ∧ Hid (∀ j, v7.ownBlock = some j → W.heap.size ≤ j ∨ (Value.slice ao m c).ownBlock = some j)) (fun v8 _ _ => 100 - (intOf v8).toNat)
          case atStart => exact ⟨0, rfl, by omega, OW.out, MV.out, own_rdm OW.out, fun j e => .inr e⟩
          case round => as_aux_lemma =>
            obtain ⟨k, rfl, hk, ho, hm2, hrd, hbl⟩ := hrel
            have hNs : N ≤ wr.heap.size := Nat.le_trans HNN.out hm2.out.size
            by_cases hk2 : k < 100
            · have o1 := ho.out
              have hmk : m + k ≤ 2100 := by omega
              clear y0
              go_wp2_with (at_builtin; refine wpList_append_keep rfl _ _ 43 rfl N 56 ic (.agg #[.int .i64 0, .int .i64 0]) 2 16 Tryz.underlying43 hi hz0 hz1 hz2 rfl (by decide) _ _ _ rfl (o1.alloc _) ⟨wr.heap.size, 0, none⟩ 1 1 [.int .i64 (-1000), .int .i64 0] rfl rfl ?c1 ?c2 ?c3 ?c4 ?c5 ?_)
              case c1 =>
                intro j u hj
                match j, hj with
                | 0, hj => simp at hj; subst hj; simp [Addr.add]
                | 1, hj => simp at hj; subst hj; simp [Addr.add]
              case c2 => intro u hu; simp at hu; rcases hu with rfl | rfl <;> rfl
              case c3 => unfold maxLen; omega
              case c4 => omega
              case c5 => simp; omega
              intro v' w8 hown' hgrow hblk hkeep
              rw [insC_rep] at hown'
              have O8 := hide hown'
              have M8 : Hid (Mv W w8 (fun j => (Value.slice ao m c).ownBlock = some j)) := (hm2.out.alloc _).grown hgrow (fun j hj e => by
                rcases hbl.out j e with h | h
                · omega
                · exact h)
              have R8 : Hid (RdM w8 (.slice ao m c) m) := (hrd.out.later (below_alloc wr _)).keep hgrow hkeep (by omega)
              have BL8 : Hid (∀ j, v'.ownBlock = some j → W.heap.size ≤ j ∨ (Value.slice ao m c).ownBlock = some j) := fun j e => by
                rcases hblk with h | h
                · exact hbl.out j (h ▸ e)
                · rw [e] at h
                  injection h with h
                  have := hm2.out.size
                  omega
              clear hown' hgrow hblk hkeep o1
              go_wp2_with fail
              exact ⟨⟨k + 1, by go_num, by omega, O8.out, M8.out, R8.out, BL8.out⟩, by simp [intOf]; omega⟩
            · obtain rfl : k = 100 := by omega
              have q1 := hide (hm2.out.at HQ.out (fun e => HVQ.out q e rfl))
              have OQ : Hid (wr.ownsRow q 43 1 (.slice (some ⟨q, 0, none⟩) 1 1) 1 [.slice ao m c]) := ⟨rfl, .inr ⟨q, 1, #[.slice ao m c], rfl, Nat.le_refl _, q1.out, Nat.le_refl _, by decide, rfl, rfl⟩⟩
              have hqs := lt_of_block q1.out
              have hqW := lt_of_block HQ.out
              have o1 := OQ.out
              have RV := hide (own_rdm ho.out)
              obtain ⟨a7, c7, rfl⟩ := own_len ho.out
              clear y0
              go_wp2_with (at_builtin; refine wpList_append_own _ rfl _ _ 40 rfl q 43 idl (.slice none 0 0) 1 24 Tryz.underlying40 ki kz0 kz1 kz2 rfl (by decide) _ _ _ rfl (o1.alloc _) ⟨wr.heap.size, 0, none⟩ 1 1 [.slice a7 (m + 100) c7] rfl rfl ?c1 ?c2 ?c3 ?c4 ?c5 ?_)
              case c1 =>
                intro j u hj
                match j, hj with
                | 0, hj => simp at hj; subst hj; simp [Addr.add]
              case c2 => intro u hu; simp at hu; subst hu; rfl
              case c3 => decide
              case c4 => decide
              case c5 => simp; omega
              intro v2 w9 hown9 hgrow9 _
              obtain ⟨q', c', rfl, hc9⟩ := own_some hown9 (by omega)
              have M9 : Hid (Mv W w9 (fun j => j = q ∨ (Value.slice ao m c).ownBlock = some j)) := ((hm2.out.mono (S' := fun j => j = q ∨ (Value.slice ao m c).ownBlock = some j) (fun _ _ e => .inr e)).alloc _).grown hgrow9 (fun j _ e => by
                simp [Value.ownBlock] at e
                exact .inl e.symm)
              have mg := (Mv.of_below (below_alloc wr (.cells #[.slice a7 (m + 100) c7] 43)) (fun j => j = q)).grown hgrow9 (fun j _ e => by simp [Value.ownBlock] at e; exact e.symm)
              have T0 : Hid (w9.cell? ⟨q', 0, none⟩ = some (.slice ao m c)) := (hc9 0 (by omega)).trans rfl
              have T1 : Hid (w9.cell? ⟨q', 1, none⟩ = some (.slice a7 (m + 100) c7)) := (hc9 1 (by omega)).trans rfl
              have T2 : Hid (RdM w9 (.slice ao m c) m) := hrd.out.mv mg (fun j e e2 => HVQ.out j e e2)
              have T3 : Hid (RdM w9 (.slice a7 (m + 100) c7) (m + 100)) := RV.out.mv mg (fun j e e2 => by
                rcases hbl.out j e with h | h
                · omega
                · exact HVQ.out j h e2)
              clear hc9 mg hown9 hgrow9 o1
              go_wp2_with fail
              exact ⟨⟨1, rfl, by omega, .inr ⟨rfl, M9.out, q', c', _, rfl, T0.out, T1.out, T2.out, T3.out⟩⟩, by simp [intOf]⟩
        · have MV := hide hmv
          have FW : Hid (∀ w', Below wr.heap.size wr w' → ∀ i, i < 2 → ∃ u n, w'.cell? ⟨q', i, none⟩ = some u ∧ RdM w' u n) := fun w' hb i hi => by
            have cc := fun (a : Addr) (x : Value) (h : wr.cell? a = some x) => (hb.cell (World.block_lt_of_cell? wr _ h)).trans h
            rcases (show i = 0 ∨ i = 1 by omega) with rfl | rfl
            · exact ⟨_, _, cc _ _ k0, m0.later hb⟩
            · exact ⟨_, _, cc _ _ k1, m1.later hb⟩
          clear hst hmv k0 k1 m0 m1
          rw [show ((1 : Nat) : Int) = 1 from rfl]
          go_wp2_with fail
          go_loopw [9] (fun v9 wx => ∃ i : Nat, v9 = .int .i64 (i : Int) ∧ i ≤ 2 ∧ Hid (Below wr.heap.size wr wx)) (fun v9 _ => 2 - (intOf v9).toNat)
          case atStart => exact ⟨0, rfl, by omega, Below.refl _ _⟩
          case round =>
            obtain ⟨i, rfl, hi2, hb⟩ := hrel
            by_cases hlt2 : i < 2
            · obtain ⟨u, nn, cu, ru⟩ := FW.out wr hb.out i hlt2
              have RU := hide ru
              have CU : Hid (∀ w', Below wr.heap.size wr w' → w'.cell? ⟨q', i, none⟩ = some u) := fun w' h => (h.cell (World.block_lt_of_cell? wr _ cu)).trans cu
              obtain ⟨au, cc, rfl, hn1, hn2, -⟩ := RU.out
              clear ru cu
              have i1 : (i : Int) < 2 := by omega
              go_wp2_with fail
              go_loopw [10] (fun v10 wy => ∃ k : Nat, v10 = .int .i64 (k : Int) ∧ k ≤ nn ∧ Hid (Below wr.heap.size wr wy)) (fun v10 _ => nn - (intOf v10).toNat)
              case atStart => exact ⟨0, rfl, by omega, Below.refl _ _⟩
              case round => as_aux_lemma =>
                obtain ⟨k, rfl, hk, hb2⟩ := hrel
                have cu := CU.out wr hb2.out
                by_cases hk2 : k < nn
                · obtain ⟨g, c2, e, d0, d1⟩ := (RU.out.later hb2.out).at hk2
                  injection e with e1 e2 e3
                  subst e1 e3
                  clear e2
                  have k1 : (k : Int) < (nn : Int) := by omega
                  go_upto_region 24 with fail
                  go_quiet (fail)
                  have B3 := hide (below_on hb2.out (below_drawn wr nq))
                  go_wp2_with fail
                  exact ⟨⟨k + 1, by go_num, by omega, B3.out⟩, by simp [intOf]; omega⟩
                · obtain rfl : k = nn := by omega
                  have B3 := hide (below_on hb.out hb2.out)
                  go_wp2_with fail
                  exact ⟨⟨i + 1, by go_num, by omega, B3.out⟩, by simp [intOf]; omega⟩
            · obtain rfl : i = 2 := by omega
              go_wp2_with fail
              go_ret
              exact ⟨rfl, MV.out.later hb.out⟩
end Go.Proofs.YtpolajoephjdhaaGreatDoor
