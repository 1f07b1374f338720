/-
  Plan's law: keep.
-/
import Derived.Test.YthgjdmomcpcolaaKb
namespace Go.Proofs.Ythgjdmomcpcolaa
open Go.RowKit
set_option maxRecDepth 100000
section
variable {W W' : World} {gb : Nat} {own own' : Nat → Nat} {vl vm vo vn : Value} {ls os : List Value} {ms ns : List Int} {ci cj : Nat} {P R : Nat → Bool} {T : Nat → Prop}
theorem Bl.block {W1 : World} {r : Option Nat} (h : Bl W gb own vl vm vo vn ls ms os ns ci cj P R) (hg : W.grownBy W1 r) (hr : ∀ k, r = some k → own k ≠ 1) : W1.heap[gb]? = some (.cells #[vl, vm, vo, vn, .int .i64 (ci : Int), .int .i64 (cj : Int)] 35 (0, 0)) :=
  (hg.block gb (lt_of_block h.cells) (fun e => hr gb e.symm h.gb1)).trans h.cells
theorem lbl_from {own : Nat → Nat} {v v' : Value} {F : Nat} (hF : In (fun k => own k ≠ 0) v) (hv : v'.ownBlock = v.ownBlock ∨ ∃ q, v'.ownBlock = some q ∧ W.heap.size ≤ q) : ∀ k, lbl own v' F k ≠ 0 → own k ≠ 0 ∨ W.heap.size ≤ k := fun k e => by
  by_cases c : v'.ownBlock = some k
  · rcases hv with hv | ⟨q, hv, hq⟩
    · exact .inl (hF k (hv ▸ c))
    · rw [hv] at c
      simp only [Option.some.injEq] at c
      exact .inr (by omega)
  · rw [lbl_other c] at e
    exact .inl e
end
theorem alloc_size (w : World) (o : Obj) : (w.alloc o).heap.size = w.heap.size + 1 := by simp
theorem rep_set {l : List Int} {m : Int} {i : Nat} (h : i < l.length) : (List.replicate i m ++ l.drop i).set i m = List.replicate (i + 1) m ++ l.drop (i + 1) := by
  rw [List.set_append_right _ _ (by simp), List.length_replicate, Nat.sub_self, List.drop_eq_getElem_cons h, List.set_cons_zero, List.replicate_succ', List.append_assoc]
  rfl
theorem rep_len {l : List Int} {m : Int} {i : Nat} (h : i ≤ l.length) : (List.replicate i m ++ l.drop i).length = l.length := by
  simp
  omega
set_option maxHeartbeats 4000000 in
theorem keep_any {W : World} {gb : Nat} {own : Nat → Nat} {vl vm vo vn : Value} {ls os : List Value} {ms ns : List Int} {ci cj : Nat} {P R : Nat → Bool} (h : Bl W gb own vl vm vo vn ls ms os ns ci cj P R) (hml : ms.length = ls.length) (hI : P ls.length = true) (hls : ls.length ≤ 100000)
    {v : Value} {l : List Int} (hv : Rw W 0 v l) (h0 : In (fun k => own k = 0) v) (hl : l.length ≤ 1000) :
    Calls Try.prog 31 #[.pointer (some ⟨gb, 0, none⟩), v] W fun e W' => e = .returned (.tuple #[]) ∧ ∃ own' vl' vm', Bl W' gb own' vl' vm' vo vn (ls ++ [v]) (ms ++ [-1000 - (ls.length : Int)]) os ns ci cj P R ∧ Mv W W' (fun k => own k ≠ 0 ∨ v.ownBlock = some k) ∧ (∀ k, own' k ≠ 0 → own k ≠ 0 ∨ v.ownBlock = some k ∨ W.heap.size ≤ k) := by
  have H := hide h
  obtain ⟨al, cl, rfl⟩ := own_len h.l
  obtain ⟨am, cm, rfl⟩ := own_len h.m
  have e0 : W.cell? ⟨gb, 0, none⟩ = some (.slice al ls.length cl) := by rw [cell_of_row _ _ _ _ 35 (0, 0) h.cells]; rfl
  obtain ⟨m, hm⟩ : ∃ m : Int, m = -1000 - (ls.length : Int) := ⟨_, rfl⟩
  have t0 : IntKind.i64.wrap (-1000 - (ls.length : Int)) = m := by
    rw [IntKind.wrap_i64]
    omega
  rw [← hm]
  have HV := hide hv
  have HML := hide hml
  have HI := hide hI
  have HLS := hide hls
  have HL := hide hl
  have H00 := hide h0
  obtain ⟨n, hn⟩ : ∃ n, n = l.length := ⟨_, rfl⟩
  obtain ⟨av, cv, rfl⟩ := own_len hv
  obtain ⟨hcv1, hcv2⟩ := own_cap hv
  rw [← hn] at hcv1
  have HN := hide hn
  rw [← hn]
  rw [← hn] at HV H00
  obtain ⟨i3, hi3, hz30, hz31, hz32⟩ := info_parts info23
  clear h hv hml hI hls hl h0 hm hn
  go_enter Try.func31, Try.ntmps31
  go_wp2_with fail
  go_loopw [5] (fun v5 X => ∃ i : Nat, i ≤ n ∧ v5 = .int .i64 (i : Int) ∧ Hid (Bl X gb own (.slice al ls.length cl) (.slice am ms.length cm) vo vn ls ms os ns ci cj P R ∧ Rw X 0 (.slice av n cv) (List.replicate i m ++ l.drop i) ∧ Mv W X (fun k => (Value.slice av n cv).ownBlock = some k))) (fun v5 _ => n - (intOf v5).toNat)
  case atStart => exact ⟨0, Nat.zero_le _, rfl, H.out, by simpa using HV.out, Mv.refl _ _⟩
  case round =>
    obtain ⟨i, hi, rfl, HR⟩ := hrel
    by_cases hlt : i < n
    · have t1 : (i : Int) < (n : Int) := by omega
      obtain ⟨r1, r2, r3⟩ := HR.out
      have hlen := rep_len (m := m) (show i ≤ l.length by have := HN.out; omega)
      have hln : (List.replicate i m ++ l.drop i).length = n := by rw [hlen]; exact HN.out.symm
      obtain ⟨gv, cv', ev, hc1, hc2⟩ := own_form r2 (by rw [hln]; omega)
      simp only [Value.slice.injEq] at ev
      obtain ⟨rfl, -, rfl⟩ := ev
      have r2' : Rw wr 0 (.slice (some ⟨gv, 0, none⟩) (List.replicate i m ++ l.drop i).length cv) (List.replicate i m ++ l.drop i) := by
        rw [hln]
        exact r2
      have c1 := r2'.at i (by rw [hln]; exact hlt)
      have f1 := r2'.frozenAt i
      have HN1 : Hid (Bl (wr.setCell ⟨gv, i, none⟩ (.int .i64 m)) gb own (.slice al ls.length cl) (.slice am ms.length cm) vo vn ls ms os ns ci cj P R ∧ Rw (wr.setCell ⟨gv, i, none⟩ (.int .i64 m)) 0 (.slice (some ⟨gv, 0, none⟩) n cv) (List.replicate (i + 1) m ++ l.drop (i + 1)) ∧ Mv W (wr.setCell ⟨gv, i, none⟩ (.int .i64 m)) (fun k => (Value.slice (some ⟨gv, 0, none⟩) n cv).ownBlock = some k)) := by
        refine ⟨r1.set (H00.out gv rfl) _, ?_, r3.set rfl _ _⟩
        have h5 := r2'.set i m
        rw [rep_set (by have := HN.out; omega)] at h5
        rw [hln] at h5
        exact h5
      generalize (List.replicate i m ++ l.drop i)[i] = y at c1
      clear HR r1 r2 r2' r3 hlen hln
      go_wp2_with fail
      go_roundw
      case rel => exact ⟨i + 1, by omega, rfl, HN1.out⟩
      case measure => simp only [intOf]; omega
    · have t1 : ¬ (i : Int) < (n : Int) := by omega
      obtain rfl : i = n := by omega
      obtain ⟨r1, r2, r3⟩ := HR.out
      have HRW : Hid (Rw wr 0 (.slice av i cv) (List.replicate i m)) := by
        have := r2
        rw [List.drop_eq_nil_of_le (by have := HN.out; omega), List.append_nil] at this
        exact this
      have HB := hide r1
      have HM := hide r3
      have c0 : wr.cell? ⟨gb, 0, none⟩ = some (.slice al ls.length cl) := by rw [cell_of_row _ _ _ _ 35 (0, 0) r1.cells]; rfl
      clear r1 r2 r3 HR e0
      go_wp2_with (at_builtin; refine wpList_append_kept rfl _ _ 32 rfl 0 23 i3 (.slice none 0 0) 1 24 Try.underlying32 hi3 hz30 hz31 hz32 rfl (by decide) (.slice al ls.length cl) ls.length ls rfl ?p1 ⟨wr.heap.size, 0, none⟩ 1 1 [.slice av i cv] rfl rfl (lit_cells wr _ 23) ?p2 ?p3 ?p4 ?p5 ?_)
      case p1 => exact (HB.out.later (below_alloc wr _)).l
      case p2 => rfl
      case p3 => have := HLS.out; unfold maxLen; omega
      case p4 => have := HLS.out; omega
      intro v8 w8 h8 hg8 hb8' _
      have hb8 : v8.ownBlock = (Value.slice al ls.length cl).ownBlock ∨ v8.ownBlock = some (wr.alloc (.cells #[.slice av i cv] 23)).heap.size := by rw [alloc_size]; exact hb8'
      have hB8 := HB.out.later (below_alloc wr (.cells #[.slice av i cv] 23))
      have hc8 := hB8.block hg8 (fun k e => by have h2 : own k = 2 := HB.out.l2 k e; omega)
      have c8 : w8.cell? ⟨gb, 0, none⟩ = some (.slice al ls.length cl) := by rw [cell_of_row _ _ _ _ 35 (0, 0) hc8]; rfl
      have f8 : w8.frozen? ⟨gb, 0, none⟩ = false := frozen_of_row w8 gb _ _ 35 hc8
      have HL8 : Hid (Bl (w8.setCell ⟨gb, 0, none⟩ v8) gb (lbl own v8 2) v8 (.slice am ms.length cm) vo vn (ls ++ [.slice av i cv]) ms os ns ci cj P R ∧ Rw (w8.setCell ⟨gb, 0, none⟩ v8) 0 (.slice av i cv) (List.replicate i m) ∧ In (fun k => lbl own v8 2 k = 0) (.slice av i cv) ∧ Mv W (w8.setCell ⟨gb, 0, none⟩ v8) (fun k => own k ≠ 0 ∨ (Value.slice av i cv).ownBlock = some k) ∧ ∀ k, lbl own v8 2 k ≠ 0 → own k ≠ 0 ∨ W.heap.size ≤ k) := by
        have hmf : Mv (wr.alloc (.cells #[.slice av i cv] 23)) (w8.setCell ⟨gb, 0, none⟩ v8) (fun k => k = gb ∨ (Value.slice al ls.length cl).ownBlock = some k) := Mv.field hg8
        have hno : ∀ k, (Value.slice av i cv).ownBlock = some k → ¬ (k = gb ∨ (Value.slice al ls.length cl).ownBlock = some k) := fun k e x => by
          have hk : own k = 0 := H00.out k e
          rcases x with x | x
          · have := HB.out.gb1
            rw [← x] at this
            omega
          · have : own k = 2 := HB.out.l2 k x
            omega
        have hRa := own_later HRW.out (below_alloc wr (.cells #[.slice av i cv] 23))
        refine ⟨hB8.pushL (by have := HML.out; omega) hg8 (by rw [List.length_append]; exact h8) hb8, hmf.own hRa hno, fun k e => ?_, ?_, ?_⟩
        · show lbl own v8 2 k = 0
          rw [lbl_other (fun x => ?_)]
          · exact H00.out k e
          · rcases hb8 with c | c
            · exact hno k e (.inr (c ▸ x))
            · rw [c] at x
              have := (HRW.out.lt k e).2
              simp only [Option.some.injEq, alloc_size] at x
              omega
        · refine Mv.trans ((HM.out.mono (fun k _ e => .inr e)).alloc _) hmf (fun k hk x => ?_)
          rcases x with x | x
          · exact .inl (by rw [x, HB.out.gb1]; decide)
          · exact .inl (by have : own k = 2 := HB.out.l2 k x; omega)
        · intro k e
          have := lbl_from (W := wr.alloc (.cells #[.slice av i cv] 23)) (own := own) (v := .slice al ls.length cl) (v' := v8) (F := 2) (fun k e => by have : own k = 2 := HB.out.l2 k e; omega) (hb8.imp id (fun c => ⟨_, c, Nat.le_refl _⟩)) k e
          rcases this with c | c
          · exact .inl c
          · have := HM.out.size
            simp at c
            exact .inr (by omega)
      obtain ⟨a8, c8', rfl⟩ := own_len h8
      clear h8 hg8 hb8 hb8' hB8 hc8 HB HM HRW c0
      go_upto_region 6 with fail
      obtain ⟨w9, hw9⟩ : ∃ X, X = w8.setCell ⟨gb, 0, none⟩ (.slice a8 (ls.length + 1) c8') := ⟨_, rfl⟩
      rw [← hw9] at HL8 ⊢
      clear hw9 c8 f8
      have c9 : w9.cell? ⟨gb, 1, none⟩ = some (.slice am ms.length cm) := by rw [cell_of_row _ _ _ _ 35 (0, 0) HL8.out.1.cells]; rfl
      go_wp2_with (at_builtin; refine wpList_append_nums rfl _ _ rfl 0 (.slice am ms.length cm) ms.length (zc ms) rfl ?q1 (.slice (some ⟨w9.heap.size, 0, none⟩) 1 1) [m] rfl (Rl.lit w9 m) ?q2 ?q3 ?_)
      case q1 => exact (HL8.out.1.later (below_alloc w9 _)).m
      case q2 => have := HLS.out; have := HML.out; simp; omega
      case q3 => exact Nat.zero_le _
      intro v10 w10 h10 hg10 hb10'
      have hb10 : v10.ownBlock = (Value.slice am ms.length cm).ownBlock ∨ v10.ownBlock = some (w9.alloc (.cells #[.int .i64 m] 3)).heap.size := by rw [alloc_size]; exact hb10'
      have hB10 := HL8.out.1.later (below_alloc w9 (.cells #[.int .i64 m] 3))
      have hc10 := hB10.block hg10 (fun k e => by have h2 : lbl own _ 2 k = 3 := HL8.out.1.m3 k e; omega)
      have c10 : w10.cell? ⟨gb, 1, none⟩ = some (.slice am ms.length cm) := by rw [cell_of_row _ _ _ _ 35 (0, 0) hc10]; rfl
      have f10 : w10.frozen? ⟨gb, 1, none⟩ = false := frozen_of_row w10 gb _ _ 35 hc10
      have HE : Hid (∃ own' vl' vm', Bl (w10.setCell ⟨gb, 1, none⟩ v10) gb own' vl' vm' vo vn (ls ++ [.slice av i cv]) (ms ++ [m]) os ns ci cj P R ∧ Mv W (w10.setCell ⟨gb, 1, none⟩ v10) (fun k => own k ≠ 0 ∨ (Value.slice av i cv).ownBlock = some k) ∧ (∀ k, own' k ≠ 0 → own k ≠ 0 ∨ (Value.slice av i cv).ownBlock = some k ∨ W.heap.size ≤ k)) := by
        obtain ⟨g1, g2, g3, g4, g5⟩ := HL8.out
        have hmf : Mv (w9.alloc (.cells #[.int .i64 m] 3)) (w10.setCell ⟨gb, 1, none⟩ v10) (fun k => k = gb ∨ (Value.slice am ms.length cm).ownBlock = some k) := Mv.field hg10
        have g2' := own_later g2 (below_alloc w9 (.cells #[.int .i64 m] 3))
        have hh := hB10.pushM HML.out hg10 (by unfold Rw; rw [zc_append, List.length_append]; exact h10) hb10 (n := i) (by have := HN.out; have := HL.out; omega) g2' g3 HI.out
        refine ⟨_, _, _, hh, ?_, ?_⟩
        · refine Mv.trans (g4.alloc _) hmf (fun k hk x => ?_)
          have hne : lbl own (Value.slice a8 (ls.length + 1) c8') 2 k ≠ 0 := by
            rcases x with x | x
            · rw [x, g1.gb1]; decide
            · rw [show lbl own _ 2 k = 3 from g1.m3 k x]; decide
          rcases g5 k hne with c | c
          · exact .inl c
          · omega
        · intro k e
          by_cases c : (Value.slice av i cv).ownBlock = some k
          · exact .inr (.inl c)
          · rw [lbl_other c] at e
            have := lbl_from (W := w9.alloc (.cells #[.int .i64 m] 3)) (v := .slice am ms.length cm) (v' := v10) (F := 3) (fun k e => by show lbl own (Value.slice a8 (ls.length + 1) c8') 2 k ≠ 0; rw [show lbl own _ 2 k = 3 from g1.m3 k e]; decide) (hb10.imp id (fun c => ⟨_, c, Nat.le_refl _⟩)) k e
            rcases this with c | c
            · exact (g5 k c).imp id .inr
            · have := g4.size
              simp at c
              exact .inr (.inr (by omega))
      obtain ⟨a10, c10', rfl⟩ := own_len h10
      clear h10 hg10 hb10 hb10' hB10 hc10 HL8 c9
      go_wp2_with fail
      go_end0
      exact ⟨rfl, HE.out⟩
end Go.Proofs.Ythgjdmomcpcolaa
