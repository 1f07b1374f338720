/-
  A store's Cut; the law's lent and back.
-/
import Derived.Test.YtmceoelafmlpjaaShown
namespace Go.Proofs.Ytmceoelafmlpjaa
open Go.RowKit
section
variable {B g : Nat} {v : Value} {l : List UInt8} {n : Nat} {f : Int}
set_option maxHeartbeats 1000000 in
theorem cut_off (q : Int) (w : World) (h : St w B g v l n false f) :
    Calls Try.prog 24 #[.pointer (some ⟨g, 0, none⟩), .int .i64 q] w fun e w' => e = .returned (.int .i64 30) ∧ w' = w := by
  obtain ⟨c0, c1, c2, c3⟩ := h.cell
  clear h
  go_enter Try.func24, Try.ntmps24
  go_wp2_with fail
  go_ret
  exact ⟨rfl, rfl⟩
set_option maxHeartbeats 1000000 in
theorem cut_arg (q : Int) (w : World) (h : St w B g v l n true f) (hq : q < 0 ∨ (l.length : Int) < q) :
    Calls Try.prog 24 #[.pointer (some ⟨g, 0, none⟩), .int .i64 q] w fun e w' => e = .returned (.int .i64 1) ∧ w' = w := by
  obtain ⟨c0, c1, c2, c3⟩ := h.cell
  obtain ⟨gv, c, rfl, hc, hcm⟩ := h.form
  clear h
  by_cases h0 : q < 0
  · clear hq
    go_enter Try.func24, Try.ntmps24
    go_wp2_with fail
    go_ret
    exact ⟨rfl, rfl⟩
  · have h1 : q > (l.length : Int) := by omega
    clear hq
    go_enter Try.func24, Try.ntmps24
    go_wp2_with fail
    go_ret
    exact ⟨rfl, rfl⟩
set_option maxHeartbeats 1000000 in
theorem cut_any (k : Nat) (w : World) (h : St w B g v l n true f) (hk : k ≤ l.length) :
    Calls Try.prog 24 #[.pointer (some ⟨g, 0, none⟩), .int .i64 k] w fun e w' => e = .returned (.int .i64 0) ∧ ∃ v', St w' B g v' (l.take k) (min n k) true f ∧ On w w' g v v' := by
  obtain ⟨c0, c1, c2, c3⟩ := h.cell
  have hl := h.2.2.2.2.2.1
  obtain ⟨gv, c, rfl, hc, hcm⟩ := h.form
  have z0 := h.frozen 0
  have z1 := h.frozen 1
  obtain ⟨m, hm⟩ : ∃ m, m = min n k := ⟨_, rfl⟩
  have hmin : (if k < n then (k : Int) else (n : Int)) = (m : Int) := by split <;> omega
  have H := hide h
  have HM := hide hm
  rw [← hm]
  clear h hm
  have t0 : ¬ (k : Int) < 0 := by omega
  have t1 : ¬ (k : Int) > (l.length : Int) := by omega
  have t2 : k ≤ c := by omega
  go_enter Try.func24, Try.ntmps24
  go_wp2_with fail
  go_ret
  have hlt : (l.take k).length = k := by rw [List.length_take]; omega
  have hm := HM.out
  have hcells := heap_setCell_same w g 0 _ 61 (.slice (some ⟨gv, 0, none⟩) k c) H.out.1
  obtain ⟨h1, h2, h3, h4, h5, h6, h7, h8, h9⟩ := H.out
  refine ⟨rfl, .slice (some ⟨gv, 0, none⟩) k c, ⟨?_, ?_, h3, by simpa [Value.ownBlock] using h4, by omega, by omega, h7, h8, by simp [Value.ownBlock]⟩, ⟨(((Fr.refl w (some g) _).grown (grown_set w g 0 _) (fun _ _ e => .inl e.symm)).grown (grown_set _ g 1 _) (fun _ _ e => .inl e.symm)), fun q hq => .inl (by simpa [Value.ownBlock] using hq)⟩⟩
  · rw [heap_setCell_same _ g 1 _ 61 _ hcells]
    rfl
  · rw [hlt]
    exact own_set (own_set (own_cut h2 hk) (by simpa [Value.ownBlock] using h4) _ _) (by simpa [Value.ownBlock] using h4) _ _
end

/-! ### What is lent -/
def filled (l : List UInt8) (k : Nat) : List UInt8 := l ++ (List.replicate k 201 ++ List.replicate (8 - k) 0)
theorem filled_length (l : List UInt8) (k : Nat) (hk : k ≤ 8) : (filled l k).length = l.length + 8 := by simp [filled]; omega
theorem filled_set (l : List UInt8) (k : Nat) (hk : k < 8) : (filled l k).set (l.length + k) 201 = filled l (k + 1) := by
  unfold filled
  rw [List.set_append_right _ _ (by omega), show l.length + k - l.length = k by omega, List.set_append_right _ _ (by simp), show 8 - k = (8 - (k + 1)) + 1 by omega, List.replicate_succ]
  simp [List.replicate_succ', List.append_assoc]
theorem filled_end (l : List UInt8) : filled l 8 = l ++ List.replicate 8 201 := by simp [filled]
theorem splice_lent (l : List UInt8) : splice (Lib.byteCells (List.replicate (l.length + 8) 0)) 0 (Lib.byteCells l) = Lib.byteCells (filled l 0) := by
  unfold splice filled
  rw [Lib.byteCells_append]
  simp [Lib.byteCells]
set_option maxHeartbeats 1000000 in
set_option maxRecDepth 100000 in
theorem lent_any (v : Value) (l : List UInt8) (w : World) (h : Bs w v l) (hl : l.length ≤ 140737488351232) :
    Calls Try.prog 19 #[v] w fun e w' => e = .returned (.slice (some ⟨w.heap.size, 0, none⟩) l.length (l.length + 8)) ∧ Row w' w.heap.size (l ++ List.replicate 8 201) ∧ Below w.heap.size w w' := by
  obtain ⟨i0, hi, hz0, hz1, hz2⟩ := info_parts info5
  obtain ⟨ao, c, rfl, h1, h2, h3⟩ := h
  have H3 := hide h3
  clear h3
  unfold maxLen at h2
  go_enter Try.func19, Try.ntmps19
  go_wp2_with (at_make; refine wpList_make_full _ rfl _ _ 22 rfl w.heap.size 5 i0 (.int .u8 0) 1 Try.underlying22 hi hz0 hz1 .i64 .i64 _ _ (l.length + 8) rfl rfl ?c1 ?c2 ?c3 ?c4 ?c5 ?_)
  case c1 => omega
  case c2 => omega
  case c3 => rw [hz2]; omega
  case c4 => unfold maxLen; omega
  case c5 => omega
  intro w1 hown hgrow
  rw [made_bytes] at hown
  have hb1 : Below w.heap.size w w1 := (Below.refl _ _).grown hgrow (Nat.le_refl _) (by intro k hk; cases hk)
  have hr1 := (own_block hown).1
  clear hown hgrow
  have hsrc := Bs.src H3.out hb1 l.length (Nat.le_refl _)
  rw [List.take_length] at hsrc
  have HS := hide hsrc
  clear hsrc
  go_wp2_with (refine wpList_copy_splice rfl _ _ 22 22 rfl 5 Try.underlying22 size5 _ _ _ _ _ _ rfl rfl w.heap.size 0 (Lib.byteCells (List.replicate (l.length + 8) 0)) 5 hr1 (Lib.byteCells l) ?d1 ?d2 ?d3 (byteCells_one l) w.heap.size w hb1 (Nat.le_refl _) ?_)
  case d1 => rw [Lib.byteCells_length]; simp
  case d2 => intro h0; rw [Lib.byteCells_length] at h0; first | exact ⟨rfl, HS.out h0⟩ | exact HS.out h0
  case d3 => simp [Lib.byteCells_length]
  intro w2 hr2 hb2
  rw [splice_lent] at hr2
  clear hr1 hb1 HS H3
  have hcap : l.length ≤ l.length + 8 := by omega
  go_wp2
  go_loopw [4] (fun i wr => ∃ k : Nat, k ≤ 8 ∧ i = .int .i64 ((l.length + k : Nat) : Int) ∧ Row wr w.heap.size (filled l k) ∧ Below w.heap.size w wr) (fun i _ => l.length + 8 - (intOf i).toNat)
  case atStart => exact ⟨0, Nat.zero_le _, rfl, hr2.out, hb2⟩
  case round =>
    obtain ⟨k, hk, rfl, hr, hb⟩ := hrel
    by_cases hlt : k < 8
    · have hfz := hr.frozen (l.length + k)
      have hcl := hr.cell (l.length + k) (by rw [filled_length _ _ hk]; omega)
      have HR := hide hr
      clear hr
      go_wp2
      refine ⟨⟨k + 1, by omega, by go_num, ?_, hb.setCell (Nat.le_refl _) _⟩, by simp [intOf]; omega⟩
      have := HR.out.set (l.length + k) 201
      rw [filled_set l k hlt] at this
      exact this
    · go_wp2
      go_ret
      obtain rfl : k = 8 := by omega
      rw [filled_end] at hr
      exact ⟨rfl, hr, hb⟩
/-- What was lent, written over up to a place. -/
def over (l : List UInt8) (k : Nat) : List UInt8 := List.replicate k 202 ++ l.drop k
theorem over_length (l : List UInt8) {k : Nat} (h : k ≤ l.length) : (over l k).length = l.length := by simp [over]; omega
theorem over_set (l : List UInt8) {k : Nat} (h : k < l.length) : (over l k).set k 202 = over l (k + 1) := by
  unfold over
  rw [List.set_append_right _ _ (by simp), List.length_replicate, Nat.sub_self, List.drop_eq_getElem_cons h, List.set_cons_zero, List.replicate_succ', List.append_assoc]
  rfl
theorem over_at (l : List UInt8) {k : Nat} (h : k < l.length) : (over l k)[k]'(by rw [over_length l (Nat.le_of_lt h)]; exact h) = l[k] := by
  unfold over
  rw [List.getElem_append_right (by simp)]
  simp
theorem over_end (l : List UInt8) : over l l.length = List.replicate l.length 202 := by simp [over]
theorem row_drewN {w : World} {g : Nat} {l : List UInt8} (h : Row w g l) (n : Nat) : Row (w.drewN n) g l := ((below_drawn w n).block g h.lt).trans h
theorem grown_drewN {w wr : World} {row : Option Nat} (h : w.grownBy wr row) (n : Nat) : w.grownBy (wr.drewN n) row := by
  have hb := below_drawn wr n
  exact ⟨hb.os.trans h.1, hb.tape.trans h.2, hb.output.trans h.3, Nat.le_trans h.size hb.size, fun k hk hne => (hb.block k (Nat.lt_of_lt_of_le hk h.size)).trans (h.block k hk hne)⟩
theorem grown_put {w wr : World} {g : Nat} (h : w.grownBy wr (some g)) (k : Nat) (u : Value) : w.grownBy (wr.setCell ⟨g, k, none⟩ u) (some g) :=
  ⟨h.1, h.2, h.3, by simpa using h.size, fun q hq hne => (heap_setCell_other wr ⟨g, k, none⟩ q u (fun e => hne (by rw [e]))).trans (h.block q hq hne)⟩
set_option maxHeartbeats 4000000 in
set_option maxRecDepth 100000 in
theorem back_any (g : Nat) (vs : Value) (s : List UInt8) (w : World) (hl : s.length ≤ 140737488351232) (hr : Row w g (s ++ List.replicate 8 201)) (hs : Bs w vs s) (hng : 0 < s.length → ∀ g', vs.ownBlock = some g' → g' ≠ g) :
    Calls Try.prog 20 #[.slice (some ⟨g, 0, none⟩) s.length (s.length + 8), vs] w fun e w' => e = .returned (.bool true) ∧ Row w' g (List.replicate (s.length + 8) 202) ∧ w.grownBy w' (some g) := by
  obtain ⟨ao, cs, rfl, h1, h2, h3⟩ := hs
  have H3 := hide h3
  clear h3
  unfold maxLen at h2
  obtain ⟨L, hL⟩ : ∃ L, L = s ++ List.replicate 8 201 := ⟨_, rfl⟩
  have hLl : L.length = s.length + 8 := by rw [hL]; simp
  have ha1 : ∀ j (hj : j < s.length), L[j]? = some s[j] := fun j hj => by
    rw [hL, List.getElem?_append_left hj, List.getElem?_eq_getElem hj]
  have ha2 : ∀ j, s.length ≤ j → j < s.length + 8 → L[j]? = some 201 := fun j h h8 => by
    rw [hL, List.getElem?_append_right h, List.getElem?_replicate, if_pos (by omega)]
  rw [← hL] at hr
  clear hL
  have H1 := hide ha1
  have H2 := hide ha2
  have HLl := hide hLl
  clear ha1 ha2 hLl
  have w0 : IntKind.i64.wrap ((s.length : Int) + 8) = ((s.length + 8 : Nat) : Int) := by rw [IntKind.wrap_i64]; omega
  go_enter Try.func20, Try.ntmps20
  go_wp2_with fail
  go_loopw [6, 7] (fun b i wr => ∃ k : Nat, k ≤ s.length + 8 ∧ b = .bool true ∧ i = .int .i64 k ∧ Hid (Row wr g (over L k)) ∧ Hid (w.grownBy wr (some g))) (fun _ i _ => s.length + 8 - (intOf i).toNat)
  case atStart => exact ⟨0, Nat.zero_le _, rfl, rfl, by simpa [over, Hid] using hr, ⟨rfl, rfl, rfl, Nat.le_refl _, fun _ _ _ => rfl⟩⟩
  case round =>
    obtain ⟨k, hk, rfl, rfl, HR, HG⟩ := hrel
    by_cases hlt : k < s.length
    · obtain ⟨g2, o2, rfl, hd⟩ := H3.out k hlt
      have hkL : k < L.length := by have := HLl.out; omega
      have hck := HR.out.cell k (by rw [over_length L (by omega)]; exact hkL)
      rw [over_at L hkL, (List.getElem?_eq_some_iff.1 (H1.out k hlt)).2] at hck
      have hfz := HR.out.frozen k
      have hd' : wr.cell? ⟨g2, o2 + k, none⟩ = some (.int .u8 (s[k]).toNat) := HG.out.cell hd (fun e => hng (by omega) g2 rfl (Option.some.inj e))
      have e1 : (k : Int) < (s.length : Int) + 8 := by omega
      have e2 : (k : Int) < (s.length : Int) := by omega
      clear H1 H2 H3 hd
      go_wp2_with fail
      go_quiet (fail)
      go_wp2_with fail
      go_roundw
      case rel =>
        refine ⟨k + 1, by omega, rfl, by go_num, ?_, ?_⟩
        · have := (row_drewN HR.out nq).set k 202
          rw [over_set L hkL] at this
          exact this
        · exact grown_put (grown_drewN HG.out nq) k _
      case measure => simp [intOf]; omega
    · by_cases hlm : k < s.length + 8
      · have hkL : k < L.length := by have := HLl.out; omega
        have hck := HR.out.cell k (by rw [over_length L (by omega)]; exact hkL)
        rw [over_at L hkL, (List.getElem?_eq_some_iff.1 (H2.out k (by omega) hlm)).2] at hck
        have hfz := HR.out.frozen k
        have e1 : (k : Int) < (s.length : Int) + 8 := by omega
        have e2 : ¬ (k : Int) < (s.length : Int) := by omega
        clear H1 H2 H3
        go_wp2_with fail
        go_roundw
        case rel =>
          refine ⟨k + 1, by omega, rfl, by go_num, ?_, ?_⟩
          · have := HR.out.set k 202
            rw [over_set L hkL] at this
            exact this
          · exact grown_put HG.out k _
        case measure => simp [intOf]; omega
      · have e1 : ¬ (k : Int) < (s.length : Int) + 8 := by omega
        obtain rfl : k = s.length + 8 := by omega
        go_wp2_with fail
        go_ret
        have hr := HR.out
        rw [← HLl.out, over_end, HLl.out] at hr
        exact ⟨rfl, hr, HG.out⟩
end Go.Proofs.Ytmceoelafmlpjaa
