/-
  The head of all laws.
-/
import Derived.Test.YtpolajoephjdhaaGreatDoorShM
namespace Go.Proofs.YtpolajoephjdhaaGreatDoor
open Go.RowKit
set_option maxRecDepth 1000000
def ExX (W : World) (t g c : Nat) : Prop := W.cell? ⟨t, 3, none⟩ = some (.slice (some ⟨g, 0, none⟩) 1 c) ∧ W.cell? ⟨g, 1, none⟩ = some (.int .i64 7)
theorem cell_later {W W' : World} {a : Addr} {v : Value} (h : W.cell? a = some v) (hb : Below W.heap.size W W') : W'.cell? a = some v := (hb.cell (World.block_lt_of_cell? W _ h)).trans h
theorem ExX.later {W W' : World} {t g c : Nat} (h : ExX W t g c) (hb : Below W.heap.size W W') : ExX W' t g c := ⟨cell_later h.1 hb, cell_later h.2 hb⟩
set_option maxHeartbeats 8000000 in
theorem shown_any (W : World) (hk : Kd W) : Calls Tryz.prog 6 #[] W fun e w' => e = .returned (.bool true) ∧ Below W.heap.size W w' ∧ Kd w' := by
  obtain ⟨w0, hw0⟩ : ∃ X, X = W.alloc (.cells #[.int .i64 2, .int .i64 0, .int .i64 1, .int .i64 (-3), .int .i64 6, .int .i64 0, .int .i64 22, .int .i64 0] 56) := ⟨_, rfl⟩
  obtain ⟨w1, hw1⟩ : ∃ X, X = w0.alloc (.cells #[.string ⟨#[102]⟩, .int .i64 1, .int .i64 2, .slice (some ⟨W.heap.size, 0, none⟩) 4 4] 45) := ⟨_, rfl⟩
  have B0 : Below W.heap.size W w0 := hw0 ▸ below_alloc W _
  have B1 : Below w0.heap.size w0 w1 := hw1 ▸ below_alloc w0 _
  have n0 : w0.heap[W.heap.size]? = some (.cells #[.int .i64 2, .int .i64 0, .int .i64 1, .int .i64 (-3), .int .i64 6, .int .i64 0, .int .i64 22, .int .i64 0] 56 (0, 0)) := by rw [hw0]; exact heap_alloc_new W _
  have n1 := (B1.block W.heap.size (lt_of_block n0)).trans n0
  have e0 : w0.heap.size = W.heap.size + 1 := by rw [hw0]; exact Array.size_push ..
  have n2 : w1.heap[W.heap.size + 1]? = some (.cells #[.string ⟨#[102]⟩, .int .i64 1, .int .i64 2, .slice (some ⟨W.heap.size, 0, none⟩) 4 4] 45 (0, 0)) := by rw [hw1, ← e0]; exact heap_alloc_new w0 _
  have K1 := (hk.later B0).later B1
  have Y1 := hide (below_on B0 B1)
  have L1 := hide (list_ex n1 K1)
  have d0 : w1.cell? ⟨W.heap.size + 1, 0, none⟩ = some (.string ⟨#[102]⟩) := by rw [cell_of_row w1 _ _ _ 45 (0, 0) n2]; rfl
  have d1 : w1.cell? ⟨W.heap.size + 1, 1, none⟩ = some (.int .i64 1) := by rw [cell_of_row w1 _ _ _ 45 (0, 0) n2]; rfl
  have d2 : w1.cell? ⟨W.heap.size + 1, 2, none⟩ = some (.int .i64 2) := by rw [cell_of_row w1 _ _ _ 45 (0, 0) n2]; rfl
  have d3 : w1.cell? ⟨W.heap.size + 1, 3, none⟩ = some (.slice (some ⟨W.heap.size, 0, none⟩) 4 4) := by rw [cell_of_row w1 _ _ _ 45 (0, 0) n2]; rfl
  clear B0 B1 n0 n1 n2 e0 hk
  go_enter Tryz.func6, Tryz.ntmps6
  go_upto_region 2 with fail
  rw [← hw0, ← hw1]
  clear hw0 hw1
  go_wp2_with fail
  refine L1.out.mono ?_
  rintro e w2 ⟨rfl, hb2⟩
  have K2 := K1.later hb2
  have Y2 := hide (below_on Y1.out hb2)
  clear K1 Y1 L1 hb2 d0 d1 d2 d3
  go_wp2_with fail
  refine (read_ex2 K2).mono ?_
  rintro e w3 ⟨hb3, g3, c3, rfl, x3⟩
  have K3 := K2.later hb3
  have Y3 := hide (below_on Y2.out hb3)
  clear hb3 K2 Y2
  obtain ⟨w4, hw4⟩ : ∃ X, X = w3.alloc (.cells #[.string ⟨#[102]⟩, .int .i64 1, .int .i64 2, .slice (some ⟨g3, 0, none⟩) 1 c3] 45) := ⟨_, rfl⟩
  have b4 : Below w3.heap.size w3 w4 := hw4 ▸ below_alloc w3 _
  have K4 := K3.later b4
  have Y4 := hide (below_on Y3.out b4)
  have n4 : w4.heap[w3.heap.size]? = some (.cells #[.string ⟨#[102]⟩, .int .i64 1, .int .i64 2, .slice (some ⟨g3, 0, none⟩) 1 c3] 45 (0, 0)) := by rw [hw4]; exact heap_alloc_new w3 _
  have X4 : Hid (ExX w4 w3.heap.size g3 c3) := ⟨by rw [cell_of_row w4 _ _ _ 45 (0, 0) n4]; rfl, cell_later x3 b4⟩
  clear x3 K3 Y3 b4 n4
  go_upto_region 4 with fail
  rw [← hw4]
  clear hw4
  generalize w3.heap.size = t3 at *
  go_wp2_with fail
  refine (read_ex3 K4).mono ?_
  rintro e w5 ⟨hb5, g5, rfl, n5⟩
  have K5 := K4.later hb5
  have Y5 := hide (below_on Y4.out hb5)
  have X5 := hide (X4.out.later hb5)
  clear hb5 K4 Y4 X4
  obtain ⟨w6, hw6⟩ : ∃ X, X = w5.alloc (.cells #[.string ⟨#[]⟩, .int .i64 0, .int .i64 0, .slice none 0 0] 45) := ⟨_, rfl⟩
  have b6 : Below w5.heap.size w5 w6 := hw6 ▸ below_alloc w5 _
  have K6 := K5.later b6
  have Y6 := hide (below_on Y5.out b6)
  have X6 := hide (X5.out.later b6)
  have n6 := hide ((b6.block g5 (lt_of_block n5)).trans n5)
  clear n5 K5 Y5 X5 b6
  go_upto_region 5 with fail
  rw [← hw6]
  clear hw6
  go_wp2_with fail
  refine (fault_some (a := 6) (er := 130) n6.out (by decide)).mono ?_
  rintro e w7 ⟨rfl, hb7⟩
  have K7 := K6.later hb7
  have Y7 := hide (below_on Y6.out hb7)
  have X7 := hide (X6.out.later hb7)
  clear n6 K6 Y6 X6 hb7
  go_wp2_with fail
  refine (eff_ex K7).mono ?_
  rintro e w8 ⟨rfl, hb8⟩
  have K8 := K7.later hb8
  have Y8 := hide (below_on Y7.out hb8)
  have X8 := hide (X7.out.later hb8)
  clear K7 Y7 X7 hb8
  go_wp2_with fail
  refine (enc_ex K8).mono ?_
  rintro e w9 ⟨hb9, v9, rfl, s9⟩
  have K9 := K8.later hb9
  have Y9 := hide (below_on Y8.out hb9)
  have X9 := hide (X8.out.later hb9)
  have S9 := hide s9
  clear K8 Y8 X8 hb9 s9
  obtain ⟨wa, hwa⟩ : ∃ X, X = w9.alloc (.cells #[.int .u8 0, .int .u8 0, .int .u8 0] 5) := ⟨_, rfl⟩
  have ba : Below w9.heap.size w9 wa := hwa ▸ below_alloc w9 _
  have na : wa.heap[w9.heap.size]? = some (.cells #[.int .u8 0, .int .u8 0, .int .u8 0] 5 (0, 0)) := by rw [hwa]; exact heap_alloc_new w9 _
  have Ka := K9.later ba
  have Ya := hide (below_on Y9.out ba)
  have Xa := hide (X9.out.later ba)
  have Sa := hide (S9.out.below ba (Nat.le_refl _))
  have Na := hide na
  clear K9 Y9 X9 S9 ba na
  go_wp2_with fail
  rw [← hwa]
  clear hwa
  refine (dec_ex1 Na.out Ka).mono ?_
  rintro e wb ⟨hbb, gb, rfl, nb⟩
  have Kb := Ka.later hbb
  have Yb := hide (below_on Ya.out hbb)
  have Xb := hide (Xa.out.later hbb)
  have Sb := hide (Sa.out.below hbb (Nat.le_refl _))
  clear Ka Ya Xa Sa Na hbb
  obtain ⟨wc, hwc⟩ : ∃ X, X = wb.alloc (.cells #[.slice none 0 0, .slice none 0 0] 27) := ⟨_, rfl⟩
  have bc : Below wb.heap.size wb wc := hwc ▸ below_alloc wb _
  have Kc := Kb.later bc
  have Yc := hide (below_on Yb.out bc)
  have Xc := hide (Xb.out.later bc)
  have Sc := hide (Sb.out.below bc (Nat.le_refl _))
  have nc := hide ((bc.block gb (lt_of_block nb)).trans nb)
  clear nb Kb Yb Xb Sb bc
  go_upto_region 9 with fail
  rw [← hwc]
  clear hwc
  go_wp2_with fail
  refine (fault_some (a := 2) (er := 130) nc.out (by decide)).mono ?_
  rintro e wd ⟨rfl, hbd⟩
  have Kd' := Kc.later hbd
  have Yd := hide (below_on Yc.out hbd)
  have Xd := hide (Xc.out.later hbd)
  have Sd := hide (Sc.out.below hbd (Nat.le_refl _))
  clear nc Kc Yc Xc Sc hbd
  obtain ⟨we, hwe⟩ : ∃ X, X = wd.alloc (.cells #[.int .u8 0, .int .u8 1, .int .u8 1, .int .u8 102, .int .u8 0, .int .u8 0, .int .u8 1, .int .u8 22] 5) := ⟨_, rfl⟩
  have be : Below wd.heap.size wd we := hwe ▸ below_alloc wd _
  have ne : we.heap[wd.heap.size]? = some (.cells #[.int .u8 0, .int .u8 1, .int .u8 1, .int .u8 102, .int .u8 0, .int .u8 0, .int .u8 1, .int .u8 22] 5 (0, 0)) := by rw [hwe]; exact heap_alloc_new wd _
  have Ke := Kd'.later be
  have Ye := hide (below_on Yd.out be)
  have Xe := hide (Xd.out.later be)
  have Se := hide (Sd.out.below be (Nat.le_refl _))
  have Ne := hide ne
  clear Kd' Yd Xd Sd be ne
  go_wp2_with fail
  rw [← hwe]
  clear hwe
  refine (dec_ex2 Ne.out Ke).mono ?_
  rintro e wf ⟨hbf, a, c, f, d, q, r, rfl, qf⟩
  have Kf := Ke.later hbf
  have Yf := hide (below_on Ye.out hbf)
  have Xf := hide (Xe.out.later hbf)
  have Sf := hide (Se.out.below hbf (Nat.le_refl _))
  clear Ke Ye Xe Se Ne hbf
  obtain ⟨wg, hwg⟩ : ∃ X, X = wf.alloc (.cells #[.slice a 0 c, .slice (some ⟨f, 0, none⟩) 1 d] 27) := ⟨_, rfl⟩
  have bg : Below wf.heap.size wf wg := hwg ▸ below_alloc wf _
  have ng : wg.heap[wf.heap.size]? = some (.cells #[.slice a 0 c, .slice (some ⟨f, 0, none⟩) 1 d] 27 (0, 0)) := by rw [hwg]; exact heap_alloc_new wf _
  have Kg := Kf.later bg
  have Yg := hide (below_on Yf.out bg)
  have Xg := hide (Xf.out.later bg)
  have cv := conv_bs (Sf.out.below bg (Nat.le_refl _))
  have q1 : wg.cell? ⟨wf.heap.size, 1, none⟩ = some (.slice (some ⟨f, 0, none⟩) 1 d) := by rw [cell_of_row wg _ _ _ 27 (0, 0) ng]; rfl
  have q2 := cell_later qf bg
  have x1 := Xg.out.1
  have x2 := Xg.out.2
  clear Kf Yf Xf Sf bg ng qf
  go_upto_region 11 with fail
  rw [← hwg]
  clear hwg
  generalize wf.heap.size = t7 at *
  go_wp2_with fail
  refine (name_ex Kg).mono ?_
  rintro e wh ⟨rfl, hbh⟩
  have Kh := Kg.later hbh
  have Yh := hide (below_on Yg.out hbh)
  clear Kg Yg hbh
  go_wp2_with fail
  refine (numb_ex Kh).mono ?_
  rintro e wi ⟨rfl, rfl⟩
  go_wp2_with fail
  go_ret
  exact ⟨rfl, Yh.out, Kh⟩
end Go.Proofs.YtpolajoephjdhaaGreatDoor
