/-
  The law's same: tokens and a fault are the document's.
-/
import Derived.Test.YtaaiogfbohndaaaDoorHld
import Derived.Test.YtaaiogfbohndaaaDoorDlx
import Derived.Deep.LoopGhost
namespace Go.Proofs.YtaaiogfbohndaaaDoor
open Go.RowKit
theorem tz_at (s : ByteArray) : ∀ (l : List Tk) (i : Nat) (h : i < l.length), (tz s l)[i * 3]? = some (.int .i64 (l[i].k : Nat)) ∧ (tz s l)[i * 3 + 1]? = some (.string (s.extract l[i].a l[i].e)) ∧ (tz s l)[i * 3 + 2]? = some (.int .i64 (l[i].a : Nat))
  | t :: l, 0, _ => ⟨rfl, rfl, rfl⟩
  | t :: l, i + 1, h => by
    have := tz_at s l i (by simpa using h)
    rw [show (i + 1) * 3 = i * 3 + 1 + 1 + 1 by omega]
    simpa [tz] using this
/-- What Lex gave, and is still there. -/
def LxA (s : ByteArray) (w : World) (v e : Value) : Prop :=
  (∃ (l : List Tk), s.size ≤ 8000 ∧ lexS s = .ok l ∧ l.length ≤ 8001 ∧ e = .nilIface ∧ w.ownsRow 0 48 3 v l.length (tz s l)) ∨
  (∃ (at1 N er : Nat), ((s.size ≤ 8000 ∧ lexS s = .no at1 ∧ er = 90) ∨ (8000 < s.size ∧ at1 = 8000 ∧ er = 102)) ∧ v = .slice none 0 0 ∧ e = .iface 32 (.pointer (some ⟨N, 0, none⟩)) ∧
    w.heap[N]? = some (.cells #[.int .i64 (at1 : Nat), .int .i64 (er : Nat)] 36 (0, 0)))
theorem ta_fault (p : Value) (w : World) : (Instr.typeAssert (.iface 32 p) 27 32 true).run Tryd.prog w = .ok (.tuple #[p, .bool true]) w := by
  simp [Instr.typeAssert, run_underlying Tryd.underlying32, go_sem, Result.andThen]
theorem info32 : (Tryd.prog.info? 32).map (fun i => (i.zero, i.size, i.bytes)) = some (some (.pointer none), 1, 8) := by kernel_rfl
theorem ta_nil (w : World) : (Instr.typeAssert .nilIface 27 32 true).run Tryd.prog w = .ok (.tuple #[.pointer none, .bool false]) w := by
  obtain ⟨i0, hi, hz0, hz1, hz2⟩ := info_parts info32
  simp [Instr.typeAssert, run_underlying Tryd.underlying32, go_sem, Result.andThen, zeroValue, typeInfo, hi, hz0]
theorem own_zero {w : World} {B e s n : Nat} {v : Value} {xs : List Value} (h : w.ownsRow B e s v n xs) : w.ownsRow 0 e s v n xs := by
  refine ⟨h.1, ?_⟩
  rcases h.2 with h0 | ⟨g, cap, cur, rfl, hb, hr⟩
  · exact .inl h0
  · exact .inr ⟨g, cap, cur, rfl, Nat.zero_le _, hr⟩
theorem below_drewN (w : World) (d : Nat) : Below w.heap.size w (w.drewN d) := ⟨rfl, rfl, rfl, Nat.le_refl _, fun _ _ => rfl⟩
set_option maxHeartbeats 4000000 in
set_option maxRecDepth 100000 in
theorem same_any (s : ByteArray) (w : World) (v er : Value) (h : LxA s w v er) : Calls Tryd.prog 10 #[v, er, .string s] w fun e w' => e = .returned (.bool true) ∧ Below w.heap.size w w' := by
  have c19 := dlex_any s w
  rcases h with ⟨l, h1, h2, h3, rfl, h4⟩ | ⟨at1, N, er, h1, rfl, rfl, h2⟩
  · have c19' : Calls Tryd.prog 19 #[.string s] w fun e w' => Below w.heap.size w w' ∧ ∃ v', e = .returned (.tuple #[v', .int .i64 0, .int .i64 0]) ∧ w'.ownsRow 0 48 3 v' l.length (tz s l) := by
      refine c19.mono ?_
      rintro e w' ⟨hb, ⟨l', v', q1, q2, q3, rfl, q4⟩ | ⟨a, er, q1, _⟩⟩
      · rw [h2] at q2
        injection q2 with q2
        subst q2
        exact ⟨hb, v', rfl, own_zero q4⟩
      · rcases q1 with ⟨_, q, _⟩ | ⟨q, _⟩
        · rw [h2] at q; cases q
        · omega
    obtain ⟨n, hn⟩ : ∃ n, n = l.length := ⟨_, rfl⟩
    have htz := fun i h => tz_at s l i h
    have HTZ := hide htz
    have HN := hide hn
    have H4 := hide h4
    rw [← hn] at h3 c19' h4
    obtain ⟨al, cl, rfl⟩ := own_len h4
    obtain ⟨k1, k2⟩ := own_cap h4
    clear h2 htz hn h4 c19 h1
    go_enter Tryd.func10, Tryd.ntmps10
    go_upto_region 2 with (go_at_call 19; refine c19'.mono ?_; rintro e w1 ⟨hb1, v', rfl, ho1⟩)
    obtain ⟨a2, c2, rfl⟩ := own_len ho1
    obtain ⟨k3, k4⟩ := own_cap ho1
    have HO1 := hide ho1
    have HB := hide hb1
    have HO0 := hide (own_later H4.out hb1)
    clear ho1 hb1 c19'
    go_wp2_with fail
    go_loopw [10] (fun u wr => ∃ j : Nat, j ≤ n ∧ u = .int .i64 j ∧ ∃ d, wr = w1.drewN d) (fun u _ => n - (intOf u).toNat)
    case atStart => exact ⟨0, Nat.zero_le _, rfl, 0, rfl⟩
    case round =>
      obtain ⟨j, hj, rfl, d, rfl⟩ := hrel
      by_cases hlt : j < n
      · have e1 : (j : Int) < (n : Int) := by omega
        have hjl : j < l.length := by have := HN.out; omega
        obtain ⟨t0, t1, t2⟩ := HTZ.out j hjl
        have ho0 := HO0.out
        rw [← HN.out] at ho0
        obtain ⟨g0, rfl⟩ := own_addr ho0 (by omega)
        obtain ⟨g1, rfl⟩ := own_addr HO1.out (by omega)
        have x0 := (ho0.cellAt (j * 3) (by omega)).trans t0
        have x1 := (ho0.cellAt (j * 3 + 1) (by omega)).trans t1
        have x2 := (ho0.cellAt (j * 3 + 2) (by omega)).trans t2
        have y0 := (HO1.out.cellAt (j * 3) (by omega)).trans t0
        have y1 := (HO1.out.cellAt (j * 3 + 1) (by omega)).trans t1
        have y2 := (HO1.out.cellAt (j * 3 + 2) (by omega)).trans t2
        generalize l[j].k = kk at x0 y0
        generalize s.extract l[j].a l[j].e = tt at x1 y1
        generalize l[j].a = aa at x2 y2
        clear t0 t1 t2 ho0
        go_wp2_with fail
        go_quiet (fail)
        go_wp2_with fail
        go_roundw
        case rel => exact ⟨j + 1, by omega, by go_num, d + nq, by simp⟩
        case measure => simp [intOf]; omega
      · have e1 : ¬ (j : Int) < (n : Int) := by omega
        go_wp2_with fail
        go_ret
        exact ⟨rfl, HB.out.trans ((below_drewN w1 d).mono HB.out.size)⟩
  · have c19' : Calls Tryd.prog 19 #[.string s] w fun e w' => Below w.heap.size w w' ∧ e = .returned (.tuple #[.slice none 0 0, .int .i64 (at1 : Nat), .int .i64 (er : Nat)]) := by
      refine c19.mono ?_
      rintro e w' ⟨hb, ⟨l', v', q1, q2, q3, rfl, q4⟩ | ⟨a, er2, q1, rfl⟩⟩
      · rcases h1 with ⟨_, q, _⟩ | ⟨q, _⟩
        · rw [q2] at q; cases q
        · omega
      · refine ⟨hb, ?_⟩
        rcases h1 with ⟨p1, p2, rfl⟩ | ⟨p1, rfl, rfl⟩ <;> rcases q1 with ⟨q1, q2, rfl⟩ | ⟨q1, rfl, rfl⟩
        · rw [p2] at q2
          injection q2 with q2
          rw [q2]
        · omega
        · omega
        · rfl
    have her : ((er : Int) == 0) = false := by
      rw [beq_eq_false_iff_ne]
      rcases h1 with ⟨_, _, rfl⟩ | ⟨_, _, rfl⟩ <;> omega
    have hc0 := fun j => cell_of_row _ _ j _ 36 (0, 0) h2
    have hlt : N < w.heap.size := (Array.getElem?_eq_some_iff.1 h2).1
    clear h1 h2 c19
    go_enter Tryd.func10, Tryd.ntmps10
    have HC0 := hide hc0
    clear hc0
    go_upto_region 2 with (go_at_call 19; refine c19'.mono ?_; rintro e w1 ⟨hb1, rfl⟩)
    have x0 : w1.cell? ⟨N, 0, none⟩ = some (.int .i64 (at1 : Nat)) := (hb1.cell (p := ⟨N, 0, none⟩) hlt).trans (HC0.out 0)
    have x1 : w1.cell? ⟨N, 1, none⟩ = some (.int .i64 (er : Nat)) := (hb1.cell (p := ⟨N, 1, none⟩) hlt).trans (HC0.out 1)
    have HB := hide hb1
    clear hb1 c19'
    have ta := ta_fault (.pointer (some ⟨N, 0, none⟩))
    go_wp2_with fail
    go_loopw [10] (fun u wr => u = .int .i64 0 ∧ wr = w1) (fun _ _ => 0)
    case atStart => exact ⟨rfl, rfl⟩
    case round =>
      obtain ⟨rfl, rfl⟩ := hrel
      go_wp2_with fail
      go_ret
      exact ⟨rfl, HB.out⟩
end Go.Proofs.YtaaiogfbohndaaaDoor
