import Derived.Test.YtkohlhnkaklnpaaRdJ
/-
  RecordReads: the two lists are as their owner wrote them.
-/
namespace Go.Proofs.Ytkohlhnkaklnpaa
open Go.RowKit Go.Shelf
attribute [local go_sem] Oper.semAt_some
set_option maxRecDepth 100000
set_option maxHeartbeats 8000000 in
theorem seg28 {w0 wA W : World} {stop : Int} {A : Act} {b : List UInt8} {ds : List (List UInt8)} {aB KK nk c : Nat} {ao : Option Addr} {va vk : Value} {K Z : Nat → Prop} {b1 m1 n1 b2 m2 n2 : Nat} {v29 v32 : Value} (hst : St w0 wA stop) (hb : Below wA.heap.size wA W) (hk : Kz W wA.heap.size nk K vk) (hnk : nk ≤ 8000000) (hTT : Rc.Told b ds KK) (hT0 : (Rc.get (b.drop KK)).2 = 0) (hbl : b.length ≤ 1048576) (hv : Bs w0 (.slice ao b.length c) b) (hal : Keeps Z W (Al aB va ds)) (dKZ : ∀ k, Z k → ¬ K k)
    (hw1 : Wr W b1 m1 v29 n1 n1 [102, 105, 114, 115, 116]) (hw2 : Wr W b2 m2 v32 n2 n2 [115, 101, 99, 111, 110, 100])
    (hs : A.tmps.size = 464) (hd : A.defers = []) (h0 : A.tmps.getD 0 undef = .slice ao b.length c) (h3 : A.tmps.getD 3 undef = .pointer (some ⟨w0.heap.size, 0, none⟩)) (h4 : A.tmps.getD 4 undef = .pointer (some ⟨w0.heap.size + 1, 0, none⟩)) (h5 : A.tmps.getD 5 undef = vk) (h24 : A.tmps.getD 24 undef = .pointer (some ⟨aB, 0, none⟩)) (h29 : A.tmps.getD 29 undef = v29) (h32 : A.tmps.getD 32 undef = v32) : Goes 28 w0 A W := by
  obtain ⟨s, eA, hsk⟩ := act_open A _ hs hd
  rw [hsk] at h0 h3 h4 h5 h24 h29 h32
  rw [eA, h0, h3, h4, h5, h24, h29, h32]
  clear eA hsk h0 h3 h4 h5 h24 h29 h32 hs hd
  have w1 := written_any b1 m1 n1 v29 _ W hw1
  have w2 := written_any b2 m2 n2 v32 _ W hw2
  have HE := hide (fun (A' : Act) => seg31 (A := A') hst hb hk hnk hTT hT0 hbl hv hal dKZ)
  have HW1 := hide w1
  have HW2 := hide w2
  clear hst hb hk hTT hT0 hv hal dKZ hw1 hw2 w1 w2
  unfold Goes
  conv => arg 2; whnf
  refine goes_seq (k := 29) ?_
  go_wp2_with fail
  refine HW1.out.mono ?_
  rintro e w' ⟨rfl, rfl⟩
  go_wp2_with fail
  unfold Goes
  conv => arg 2; whnf
  refine goes_seq (k := 30) ?_
  go_wp2_with fail
  refine HW2.out.mono ?_
  rintro e w' ⟨rfl, rfl⟩
  go_wp2_with fail
  unfold Goes
  conv => arg 2; whnf
  refine goes_seq (k := 31) ?_
  go_wp2_with fail
  exact HE.out _ rfl rfl rfl rfl rfl rfl rfl
end Go.Proofs.Ytkohlhnkaklnpaa
