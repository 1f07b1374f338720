/-
  Decode.
-/
import Derived.Test.YtpolajoephjdhaaGreatDoorDeH
namespace Go.Proofs.YtpolajoephjdhaaGreatDoor
open Go.RowKit
set_option maxRecDepth 100000
def rs0 : Rs := ⟨0, 2000, false⟩
def decS (b : List UInt8) : Rs := pgR b rs0
/-- What bytes are read as: a program, or the place of what is wrong. -/
def decF (b : List UInt8) : Nat ⊕ Pg := if (decS b).bad || decide ((decS b).at' < b.length) then .inl (decS b).at' else .inr (pgV b rs0)
def DcOut (W : World) (r : Nat ⊕ Pg) (e : Ending) (w' : World) : Prop :=
  Below W.heap.size W w' ∧ match r with
  | .inl a => ∃ N, e = .returned (.tuple #[.agg #[.slice none 0 0, .slice none 0 0], .iface 74 (.pointer (some ⟨N, 0, none⟩))]) ∧ W.heap.size ≤ N ∧ w'.heap[N]? = some (.cells #[.int .i64 (a : Int), .int .i64 130] 76 (0, 0))
  | .inr p => ∃ vs vf, e = .returned (.tuple #[.agg #[vs, vf], .nilIface]) ∧ PgOwn W.heap.size w' p vs vf
theorem res_pg {fn : Func} {p u : Tmp} (hr : fn.results = #[.cell p 27, .tmp u]) {tmps : Array Value} {W : World} {g : Nat} {x y v : Value} (hp : tmps.getD p undef = .pointer (some ⟨g, 0, none⟩)) (hv : tmps.getD u undef = v) (hg : W.heap[g]? = some (.cells #[x, y] 27 (0, 0))) : (results fn tmps).run Tryz.prog W = .ok (.tuple #[.agg #[x, y], v]) W := by
  obtain ⟨d, hu, hd⟩ := Option.map_eq_some_iff.1 undPg1
  rw [← hv]
  exact res_ct hr tmps W g 27 _ (0, 0) d hp hg hu (by cases d <;> first | rfl | cases hd) (by kernel_rfl)
theorem PgOwn.mv {N : Nat} {w w' : World} {p : Pg} {vs vf : Value} {S : Nat → Prop} (h : PgOwn N w p vs vf) (hm : Mv w w' S) (hs : ∀ j, N ≤ j → j < w.heap.size → ¬ S j) : PgOwn N w' p vs vf := by
  obtain ⟨ls, lf, h1, h2, h3, h4, h5, h6, h7⟩ := h
  exact ⟨ls, lf, h1, h2, hm.own h3 (fun g e => hs g (h3.lt g e).1 (h3.lt g e).2), hm.own h4 (fun g e => hs g (h4.lt g e).1 (h4.lt g e).2), h5.mv hm (fun j a b p hp v hv hb => hs j a b), h6.mv hm (fun p hp j a hb => hs j a ((h6.1 p hp).lt j hb).2), h7⟩
theorem PgOwn.lower {N M : Nat} {w : World} {p : Pg} {vs vf : Value} (h : PgOwn N w p vs vf) (hM : M ≤ N) : PgOwn M w p vs vf := by
  obtain ⟨ls, lf, h1, h2, h3, h4, h5, h6, h7⟩ := h
  exact ⟨ls, lf, h1, h2, own_lower h3 hM, own_lower h4 hM, h5.lower hM, ⟨fun p hp => own_lower (h6.1 p hp) hM, h6.2⟩, h7⟩
set_option maxHeartbeats 4000000 in
theorem decode_at {W : World} {v : Value} (b : List UInt8) (h : Bs W v b) (hl : b.length ≤ 281474976710656) (ht : Tb W) : Calls Tryz.prog 7 #[v] W (DcOut W (decF b)) := by
  obtain ⟨ao, c, rfl, hc1, hc2, hsh⟩ := slice_from h
  obtain ⟨w0, hw0⟩ : ∃ X, X = W.alloc (.cells #[.slice none 0 0, .slice none 0 0] 27) := ⟨_, rfl⟩
  obtain ⟨w1, hw1⟩ : ∃ X, X = w0.alloc (.cells #[.slice ao b.length c, .int .i64 0, .int .i64 2000, .bool false] 72) := ⟨_, rfl⟩
  have B0 : Below W.heap.size W w0 := hw0 ▸ below_alloc W _
  have B1 : Below w0.heap.size w0 w1 := hw1 ▸ below_alloc w0 _
  have n1 : w0.heap[W.heap.size]? = some (.cells #[.slice none 0 0, .slice none 0 0] 27 (0, 0)) := by rw [hw0]; exact heap_alloc_new W _
  have n2 : w1.heap[w0.heap.size]? = some (.cells #[.slice ao b.length c, .int .i64 0, .int .i64 2000, .bool false] 72 (0, 0)) := by rw [hw1]; exact heap_alloc_new w0 _
  have e0 : w0.heap.size = W.heap.size + 1 := by rw [hw0]; exact Array.size_push ..
  obtain ⟨r2, hr2⟩ : ∃ r, r = W.heap.size := ⟨_, rfl⟩
  obtain ⟨k, hk⟩ : ∃ r, r = W.heap.size + 1 := ⟨_, rfl⟩
  rw [e0, ← hk] at n2
  rw [← hr2] at n1
  have hpos := ht.pos
  have h01 := h.below (below_on B0 B1) (Nat.le_refl _)
  have own_lt : ∀ j, (Value.slice ao b.length c).ownBlock = some j → 0 < b.length → j < W.heap.size := fun j e hb => by
    obtain ⟨ao', c', e', -, -, h3⟩ := h
    injection e' with e1 e2 e3
    subst e1 e3
    obtain ⟨g, o, rfl, hcell⟩ := h3 0 hb
    have : g = j := by simpa [Value.ownBlock] using e
    subst this
    exact World.block_lt_of_cell? W _ hcell
  have R1 : Rdr w1 (W.heap.size + 1) k b rs0 := ⟨by omega, Nat.zero_le _, Nat.le_refl _, hl, .slice ao b.length c, n2, h01, fun j hp e => by have := own_lt j e hp; omega⟩
  have hT1 := (ht.later B0).later B1
  have J1 := hide (program_at R1 (by omega) hT1)
  have N1 := hide ((B1.block r2 (lt_of_block n1)).trans n1)
  have HB1 := hide (below_on B0 B1)
  obtain ⟨R, hR⟩ : ∃ R, R = decF b := ⟨_, rfl⟩
  rw [← hR]
  have HR : Hid (R = if (pgR b rs0).bad || decide ((pgR b rs0).at' < b.length) then .inl (pgR b rs0).at' else .inr (pgV b rs0)) := hR
  generalize pgR b rs0 = st at *
  generalize pgV b rs0 = pv at *
  have hk1 := lt_of_block n2
  have hrk : r2 < k := by omega
  have hWr : W.heap.size ≤ r2 := by omega
  have hW1 := HB1.out.size
  clear hR n1 n2 B0 B1 e0 h h01 ht hT1 R1 own_lt hpos
  go_enter Tryz.func7, Tryz.ntmps7
  go_upto_region 2 with fail
  rw [← hw0, ← hw1, ← hk, ← hr2]
  clear hw0 hw1 hk hr2
  go_wp2_with fail
  refine J1.out.mono ?_
  rintro e w2 ⟨vs, vf, rfl, po, hr, hm⟩
  obtain ⟨g1, g2, g3, g4, vb, hvb, -, -⟩ := hr
  have n3 := hm.at N1.out (by omega)
  have PO := hide po
  have hs2 := hm.size
  have Y2 : Hid (Below W.heap.size W w2) := HB1.out.trans (hm.below (by omega) (fun j e => by omega))
  obtain ⟨ls, lf, -, -, ov, ow, -⟩ := po
  obtain ⟨a1, d1, rfl⟩ := own_len ov
  obtain ⟨a2, d2, rfl⟩ := own_len ow
  obtain ⟨w3, hw3⟩ : ∃ X, X = w2.alloc (.cells #[.slice a1 ls.length d1, .slice a2 lf.length d2] 27) := ⟨_, rfl⟩
  obtain ⟨t, htt⟩ : ∃ t, t = w2.heap.size := ⟨_, rfl⟩
  have b3 : Below w2.heap.size w2 w3 := hw3 ▸ below_alloc w2 _
  have n4 : w3.heap[t]? = some (.cells #[.slice a1 ls.length d1, .slice a2 lf.length d2] 27 (0, 0)) := by rw [hw3, htt]; exact heap_alloc_new w2 _
  have n5 := (b3.block r2 (lt_of_block n3)).trans n3
  have n6 := (b3.block k (lt_of_block hvb)).trans hvb
  have hkt : k < t := htt ▸ lt_of_block hvb
  have P3 := hide (PO.out.mv (Mv.of_below b3 (fun _ => False)) (fun _ _ _ e => e))
  have Y3 := hide (below_on Y2.out b3)
  have c1 : w3.cell? ⟨k, 1, none⟩ = some (.int .i64 (st.at' : Int)) := by rw [cell_of_row w3 _ _ _ 72 (0, 0) n6]; rfl
  have c3 : w3.cell? ⟨k, 3, none⟩ = some (.bool st.bad) := by rw [cell_of_row w3 _ _ _ 72 (0, 0) n6]; rfl
  obtain ⟨y0, y1⟩ := row2 n4
  obtain ⟨q0, q1⟩ := row2 n5
  have z : ∀ q, w3.frozen? ⟨r2, q, none⟩ = false := fun q => frozen_of_row w3 r2 q _ 27 n5
  have N5 := hide n5
  have hY3 := Y3.out.size
  clear hm J1 PO hvb n3 n4 n5 n6 b3 ov ow
  go_upto_region 3 with fail
  rw [← hw3, ← htt]
  have HTT := hide htt
  clear hw3 htt
  have hr3 : r2 < w3.heap.size := lt_of_block N5.out
  have BAD : Hid ((((w3.setCell ⟨r2, 0, none⟩ (.slice none 0 0)).setCell ⟨r2, 1, none⟩ (.slice none 0 0)).alloc (.cells #[.int .i64 (st.at' : Int), .int .i64 130] 76)).drew.heap[r2]? = some (.cells #[.slice none 0 0, .slice none 0 0] 27 (0, 0)) ∧ (R = .inl st.at' → DcOut W R (.returned (.tuple #[.agg #[.slice none 0 0, .slice none 0 0], .iface 74 (.pointer (some ⟨w3.heap.size, 0, none⟩))])) ((((w3.setCell ⟨r2, 0, none⟩ (.slice none 0 0)).setCell ⟨r2, 1, none⟩ (.slice none 0 0)).alloc (.cells #[.int .i64 (st.at' : Int), .int .i64 130] 76)).drew))) := by
    obtain ⟨w4, hw4⟩ : ∃ X, X = (w3.setCell ⟨r2, 0, none⟩ (.slice none 0 0)).setCell ⟨r2, 1, none⟩ (.slice none 0 0) := ⟨_, rfl⟩
    have m : Mv w3 w4 (fun j => j = r2) := by rw [hw4]; exact ((Mv.refl w3 (fun j => j = r2)).set (g := r2) rfl 0 (.slice none 0 0)).set (g := r2) rfl 1 (.slice none 0 0)
    have e4 : w4.heap.size = w3.heap.size := by rw [hw4]; simp
    have r4 : w4.heap[r2]? = some (.cells #[.slice none 0 0, .slice none 0 0] 27 (0, 0)) := by rw [hw4]; exact heap_setCell_same _ r2 1 _ 27 _ (heap_setCell_same w3 r2 0 _ 27 _ N5.out)
    rw [← hw4]
    have bb : Below w4.heap.size w4 (w4.alloc (.cells #[.int .i64 (st.at' : Int), .int .i64 130] 76)).drew := below_on (below_alloc w4 _) (below_drew _)
    refine ⟨(bb.block r2 (lt_of_block r4)).trans r4, fun e => ?_⟩
    rw [e]
    refine ⟨below_on (Y3.out.trans (m.below (by omega) (fun j e => by omega))) bb, w3.heap.size, rfl, by omega, ?_⟩
    rw [← e4]
    exact heap_alloc_new w4 _
  by_cases hok : (st.bad || decide (st.at' < b.length)) = true
  · have hR2 : R = .inl st.at' := by rw [HR.out, if_pos hok]
    have HR2 := hide hR2
    clear HR hR2
    have SS : w3.drew.cell? ⟨k, 1, none⟩ = some (.int .i64 (st.at' : Int)) := c1
    have lt' : st.bad = true ∨ (st.bad = false ∧ st.at' < b.length) := by
      cases hb : st.bad with
      | true => exact .inl rfl
      | false => rw [hb] at hok; exact .inr ⟨rfl, by simpa using hok⟩
    rcases lt' with hb | ⟨hb, hlt⟩
    · rw [hb] at c3
      go_upto_region 4 with fail
      go_region
      all_goals go_wp2_with fail
      all_goals exact bodyPost_ret (v := .tuple #[.agg #[.slice none 0 0, .slice none 0 0], .iface 74 (.pointer (some ⟨w3.heap.size, 0, none⟩))]) (res_pg rfl rfl rfl BAD.out.1) rfl (BAD.out.2 HR2.out)
    · rw [hb] at c3
      have t1 : (st.at' : Int) < (b.length : Int) := by omega
      go_upto_region 4 with fail
      go_region
      all_goals go_wp2_with fail
      all_goals exact bodyPost_ret (v := .tuple #[.agg #[.slice none 0 0, .slice none 0 0], .iface 74 (.pointer (some ⟨w3.heap.size, 0, none⟩))]) (res_pg rfl rfl rfl BAD.out.1) rfl (BAD.out.2 HR2.out)
  · have hR2 : R = .inr pv := by rw [HR.out, if_neg hok]
    have hb : st.bad = false := by
      cases hb : st.bad with
      | true => rw [hb] at hok; simp at hok
      | false => rfl
    rw [hb] at c3 hok
    have hge : ¬ (st.at' : Int) < (b.length : Int) := by
      intro e
      apply hok
      simp
      omega
    have mz := ((Mv.refl w3 (fun j => j = r2)).set (g := r2) rfl 0 (.slice a1 ls.length d1)).set (g := r2) rfl 1 (.slice a2 lf.length d2)
    have F : Hid (((w3.setCell ⟨r2, 0, none⟩ (.slice a1 ls.length d1)).setCell ⟨r2, 1, none⟩ (.slice a2 lf.length d2)).heap[r2]? = some (.cells #[.slice a1 ls.length d1, .slice a2 lf.length d2] 27 (0, 0))) := heap_setCell_same _ r2 1 _ 27 _ (heap_setCell_same w3 r2 0 _ 27 _ N5.out)
    have G : Hid (DcOut W R (.returned (.tuple #[.agg #[.slice a1 ls.length d1, .slice a2 lf.length d2], .nilIface])) ((w3.setCell ⟨r2, 0, none⟩ (.slice a1 ls.length d1)).setCell ⟨r2, 1, none⟩ (.slice a2 lf.length d2))) := by
      rw [hR2]
      exact ⟨Y3.out.trans (mz.below (by omega) (fun j e => by omega)), _, _, rfl, (P3.out.mv mz (fun j h1 _ e => by omega)).lower (by omega)⟩
    clear HR hR2 hok mz BAD
    go_wp2_with fail
    exact bodyPost_ret (v := .tuple #[.agg #[.slice a1 ls.length d1, .slice a2 lf.length d2], .nilIface]) (res_pg rfl rfl rfl F.out) rfl G.out
theorem decode_any {W : World} {v : Value} (b : List UInt8) (h : Bs W v b) (hl : b.length ≤ 281474976710656) (ht : Tb W) : Calls Tryz.prog 7 #[v] W (DcOut W (decF b)) := decode_at b h hl ht
end Go.Proofs.YtpolajoephjdhaaGreatDoor
