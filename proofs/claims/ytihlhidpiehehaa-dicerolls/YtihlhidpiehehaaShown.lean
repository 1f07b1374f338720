/-
  The head of all statements; DiceMixes.
-/
import Derived.Test.YtihlhidpiehehaaShC
import Derived.Test.YtihlhidpiehehaaRows
namespace Go.Proofs.Ytihlhidpiehehaa
open Go.RowKit
theorem seed_1 : seedS 1 2 3 4 = 15374388949593934587 := by kernel_rfl
theorem mix_a : mixI 15374388949593934587 = 7495491187389282457 := by kernel_rfl
theorem mix_b : mixI 8328359695207581456 = 11129214680172423972 := by kernel_rfl
theorem end_m : endI 1000000 = 18446744073709000000 := by kernel_rfl
theorem bel_a : belA 1000000 15374388949593934587 = 282457 := by
  unfold belA
  rw [if_neg (by omega), end_m, stop_now (by rw [mix_a]; omega), mix_a]
  omega
theorem bel_as : belS 1000000 15374388949593934587 = 8328359695207581456 := by
  unfold belS
  rw [if_neg (by omega), end_m, stop_now (by rw [mix_a]; omega)]
  unfold nxt
  omega
theorem bel_b : belA 1000000 8328359695207581456 = 423972 := by
  unfold belA
  rw [if_neg (by omega), end_m, stop_now (by rw [mix_b]; omega), mix_b]
  omega
theorem shown_any (w : World) : Calls Try.prog 6 #[] w fun e w' => e = .returned (.bool true) ∧ Below w.heap.size w w' := by
  have JN := hide (new_any 1 2 3 4 w)
  have J0 := hide (fun W => mix_any 0 W (by omega) (by omega))
  have J1 := hide (fun W => mix_any 1 W (by omega) (by omega))
  have JB := hide (fun (W : World) (g : Nat) (s : Int) (h : Dz W g s) => below_any h 1000000 (by omega) (by omega))
  rw [mix_0] at J0
  rw [mix_1] at J1
  rw [seed_1] at JN
  go_enter Try.func6, Try.ntmps6
  go_wp2_with fail
  refine JN.out.mono ?_
  rintro e w1 ⟨g, rfl, hg, hd, hb⟩
  have HD := hide hd
  have HB := hide hb
  have HG := hide hg
  clear hd hb hg
  go_wp2_with fail
  refine (J0.out _).mono ?_
  rintro e w1 ⟨rfl, rfl⟩
  go_wp2_with fail
  refine (J1.out _).mono ?_
  rintro e w1 ⟨rfl, rfl⟩
  have JX := hide (JB.out _ _ _ HD.out)
  rw [bel_a, bel_as] at JX
  go_wp2_with fail
  refine JX.out.mono ?_
  rintro e w2 ⟨rfl, hd, hm⟩
  have HD2 := hide hd
  have HM2 := hide hm
  have JY := hide (JB.out _ _ _ HD2.out)
  rw [bel_b] at JY
  clear hd hm
  go_wp2_with fail
  refine JY.out.mono ?_
  rintro e w3 ⟨rfl, hd, hm⟩
  have HM3 := hide (HM2.out.trans hm (fun _ _ e => e))
  clear hd hm
  go_wp2_with fail
  go_ret
  exact ⟨rfl, HB.out.trans (HM3.out.below HB.out.size (fun k e => by rw [e]; exact HG.out))⟩
theorem mixes_walk (x : Int) (w : World) (h0 : 0 ≤ x) (h1 : x < 18446744073709551616) : Calls Try.prog 3 #[.int .u64 x] w fun e w' => e = .returned (.bool true) ∧ Below w.heap.size w w' := by
  have JS := hide (shown_any w)
  have J0 := hide (fun W => mix_any x W h0 h1)
  have J1 := hide (fun W => dmix_any x W h0 h1)
  generalize mixI x = m at *
  go_enter Try.func3, Try.ntmps3
  go_wp2_with fail
  refine JS.out.mono ?_
  rintro e w1 ⟨rfl, hb⟩
  have HB := hide hb
  clear hb
  go_wp2_with fail
  refine (J0.out _).mono ?_
  rintro e w2 ⟨rfl, rfl⟩
  go_wp2_with fail
  refine (J1.out _).mono ?_
  rintro e w2 ⟨rfl, rfl⟩
  go_wp2_with fail
  go_ret
  exact ⟨rfl, HB.out⟩
end Go.Proofs.Ytihlhidpiehehaa
