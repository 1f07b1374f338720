/-
  The law's shown: the document's first example.
-/
import Derived.Test.YtmceoelafmlpjaaCrash
import Derived.Lib.SlBytesConst
namespace Go.Proofs.Ytmceoelafmlpjaa
open Go.RowKit
set_option maxHeartbeats 4000000 in
set_option maxRecDepth 100000 in
theorem shown_any (w : World) : Calls Try.prog 6 #[] w fun e w' => e = .returned (.bool true) ∧ Below w.heap.size w w' := by
  have kc : Hid (∀ (w : World) (C : Array Value) (n c : Nat), (convert 22 22 (.slice (some ⟨w.heap.size, 0, none⟩) n c)).run Try.prog (w.alloc (.cells C 5)) = .ok (.slice (some ⟨w.heap.size, 0, none⟩) n c) (w.alloc (.cells C 5 (C.size, C.size + 1)))) := fun w C n c => Lib.run_convert_bytes_const (P := Try.prog) w 22 5 C n c Try.underlying22 Try.underlying5
  have hal : ∀ (W : World) o, Below W.heap.size W (W.alloc o) := fun W o => (Below.refl W.heap.size W).alloc (Nat.le_refl _) o
  have HAL := hide hal
  have k1 := kc.out w #[.int .u8 97, .int .u8 98] 2 2
  simp only [List.size_toArray, List.length_cons, List.length_nil, Nat.reduceAdd] at k1
  have b1 : Bs (w.alloc (.cells #[.int .u8 97, .int .u8 98] 5 (2, 3))) (.slice (some ⟨w.heap.size, 0, none⟩) 2 2) [97, 98] := mark_bs w [97, 98] (2, 3) (by decide)
  have HN := hide (new_any _ _ _ b1 (by simp))
  clear hal b1
  go_enter Try.func6, Try.ntmps6
  go_wp2_with fail
  refine HN.out.mono ?_
  rintro e w1 ⟨g, v1, rfl, hs1, hb1⟩
  have HS1 := hide hs1
  have BE1 := hide ((HAL.out w _).trans (hb1.mono (by simp)))
  clear hs1 hb1 HN k1
  have k2 := kc.out w1 #[.int .u8 99, .int .u8 100, .int .u8 101] 3 3
  simp only [List.size_toArray, List.length_cons, List.length_nil, Nat.reduceAdd] at k2
  have b2 : Bs (w1.alloc (.cells #[.int .u8 99, .int .u8 100, .int .u8 101] 5 (3, 4))) (.slice (some ⟨w1.heap.size, 0, none⟩) 3 3) [99, 100, 101] := mark_bs w1 [99, 100, 101] (3, 4) (by decide)
  have HA := hide (append_free g _ v1 _ _ _ _ _ (HS1.out.later (HAL.out w1 _)) b2 (.inr ⟨_, _, _, rfl⟩) (by simp))
  clear b2
  go_wp2_with fail
  refine HA.out.mono ?_
  rintro e w2 ⟨v2, rfl, hs2, ho2⟩
  have BE2 := hide ((BE1.out.trans ((HAL.out w1 _).mono BE1.out.size)).trans ((ho2.below (HS1.out.later (HAL.out w1 _))).mono (by simp)))
  have HS2 := hide hs2
  have HST := hide (state_any g _ v2 _ _ _ _ _ hs2)
  clear hs2 ho2 HA k2 HS1 BE1
  go_wp2_with fail
  refine HST.out.mono ?_
  rintro e w3 ⟨rfl, hb3⟩
  have HS3 := hide (HS2.out.later hb3)
  have BE3 := hide (BE2.out.trans (hb3.mono BE2.out.size))
  clear hb3 HST HS2 BE2
  have k3 := kc.out w3 #[.int .u8 120, .int .u8 121] 2 2
  simp only [List.size_toArray, List.length_cons, List.length_nil, Nat.reduceAdd] at k3
  have b3 : Bs (w3.alloc (.cells #[.int .u8 120, .int .u8 121] 5 (2, 3))) (.slice (some ⟨w3.heap.size, 0, none⟩) 2 2) [120, 121] := mark_bs w3 [120, 121] (2, 3) (by decide)
  have HC := hide (crash_any g _ v2 _ _ _ _ 2 _ _ (HS3.out.later (HAL.out w3 _)) b3 (.inr ⟨_, _, _, rfl⟩) (by simp))
  clear b3
  go_wp2_with fail
  refine HC.out.mono ?_
  rintro e w4 ⟨v4, rfl, hs4, ho4⟩
  have BE4 := hide ((BE3.out.trans ((HAL.out w3 _).mono BE3.out.size)).trans ((ho4.below (HS3.out.later (HAL.out w3 _))).mono (by simp)))
  have HS4 : Hid (St w4 _ g v4 [97, 98, 99, 100, 120, 121] 6 false (-1)) := hs4
  have HST := hide (state_any g _ v4 _ _ _ _ _ HS4.out)
  clear hs4 ho4 HC k3 HS3 BE3
  go_wp2_with fail
  refine HST.out.mono ?_
  rintro e w5 ⟨rfl, hb5⟩
  have HS5 := hide (HS4.out.later hb5)
  have BE5 := hide (BE4.out.trans (hb5.mono BE4.out.size))
  have HR := hide (restart_any g _ v4 _ _ _ _ _ HS5.out)
  clear hb5 HST HS4 BE4
  go_wp2_with fail
  refine HR.out.mono ?_
  rintro e w6 ⟨rfl, hs6, ho6⟩
  have BE6 := hide (BE5.out.trans ((ho6.below HS5.out).mono (by simp)))
  have HS6 := hide hs6
  have HB := hide (bytes_on g _ v4 _ _ _ _ hs6)
  clear hs6 ho6 HR HS5 BE5
  go_wp2_with fail
  refine HB.out.mono ?_
  rintro e w7 ⟨rfl, hr7, hb7⟩
  have cv := conv_bs (hr7.bs (n := 6) (c := 6) (Nat.le_refl _) (Nat.le_refl _) (by decide))
  have BE7 := hide (BE6.out.trans (hb7.mono BE6.out.size))
  clear hr7 hb7 HB HS6 BE6
  go_wp2_with fail
  go_ret
  exact ⟨rfl, BE7.out⟩
end Go.Proofs.Ytmceoelafmlpjaa
