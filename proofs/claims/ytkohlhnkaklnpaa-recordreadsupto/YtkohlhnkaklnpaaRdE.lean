import Derived.Test.YtkohlhnkaklnpaaRdH
import Derived.Test.YtkohlhnkaklnpaaMr13
/-
  RecordReads: a list is copied by append.
-/
namespace Go.Proofs.Ytkohlhnkaklnpaa
open Go.RowKit Go.Shelf
attribute [local go_sem] Oper.semAt_some
set_option maxRecDepth 100000
set_option maxHeartbeats 8000000 in
theorem seg20 {w0 W : World} {A : Act} {B n cl : Nat} {al : Option Addr} {vk : Value} {us : List Value} {ds : List (List UInt8)} (ho : W.ownsRow B 22 1 (.slice al n cl) n us) (hp : Pieces W B us ds) (hn6 : n ≤ 1000000) (_hB : B ≤ W.heap.size)
    (hs : A.tmps.size = 464) (hd : A.defers = []) (h5 : A.tmps.getD 5 undef = vk) (hl : A.tmps.getD 17 undef = .slice al n cl)
    (hn : ∀ (A' : Act) (w' : World) (ao : Option Addr) (c : Nat), w'.ownsRow W.heap.size 22 1 (.slice ao n c) n us → Below W.heap.size W w' → Sm (fun k => if k = 27 then .slice ao n c else A.tmps.getD k undef) A' → A'.tmps.getD 5 undef = vk → Goes 21 w0 A' w') : Goes 20 w0 A W := by
  obtain ⟨s, eA, hsk⟩ := act_open A _ hs hd
  have ef : (fun k => A.tmps.getD k undef) = s := funext hsk
  have ef2 : ∀ v : Value, (fun k => if k = 27 then v else A.tmps.getD k undef) = fun k => if k = 27 then v else s k := fun v => funext fun k => by rw [hsk]
  simp only [ef2] at hn
  rw [hsk] at h5 hl
  rw [eA, h5, hl]
  clear eA hsk ef ef2 h5 hs hd
  obtain ⟨hc1, hc2⟩ := own_cap2 ⟨us, ho⟩
  have hE1 : Hid ((W.alloc (.cells #[] 22)).ownsRow W.heap.size 22 1 (.slice (some ⟨W.heap.size, 0, none⟩) 0 0) 0 []) := own_empty W
  have hal : Below W.heap.size W (W.alloc (.cells #[] 22)) := (Below.refl _ W).alloc (Nat.le_refl _) _
  have HAL := hide hal
  have hU1 : Hid ((W.alloc (.cells #[] 22)).ownsRow B 22 1 (.slice al n cl) n us) := ho.kept (grown_later hal) (by cases (Value.slice al n cl).ownBlock <;> simp)
  have HONE := hide (pieces_one hp)
  have HE := hide hn
  have HL := hide hl
  clear hn hl ho hal hp
  unfold Goes
  conv => arg 2; whnf
  refine goes_seq (k := 21) ?_
  go_wp2_with (at_builtin; refine wpList_append_ll _ rfl _ _ rfl W.heap.size B _ _ _ rfl hE1.out _ _ us rfl hU1.out HONE.out (by omega) (by simp) ?_)
  intro v2 w2 ho2 hg2 ha2
  have hs2 := hg2.size
  have hsa : (W.alloc (.cells #[] 22)).heap.size = W.heap.size + 1 := World.size_alloc _ _
  have hb2 : Below W.heap.size W w2 := HAL.out.grown hg2 (by omega) (fun k e => (hE1.out.lt k e).1)
  obtain ⟨ao2, c2, rfl⟩ := own_len ho2
  have HE2 := hide (fun (A : Act) => HE.out A w2 ao2 c2 (by simpa using ho2) hb2)
  clear ho2 hg2 ha2 hb2 hsa hs2 HE HAL hE1 hU1 HONE
  go_wp2_with fail
  exact HE2.out _ ⟨rfl, rfl, rfl, rfl, rfl, HL.out.symm, rfl, rfl, rfl, rfl, rfl, rfl⟩ rfl
set_option maxHeartbeats 8000000 in
theorem seg21 {w0 W : World} {A : Act} {B n cl : Nat} {al : Option Addr} {vk : Value} {us : List Value} {ds : List (List UInt8)} (ho : W.ownsRow B 22 1 (.slice al n cl) n us) (hp : Pieces W B us ds) (hn6 : n ≤ 1000000) (_hB : B ≤ W.heap.size)
    (hs : A.tmps.size = 464) (hd : A.defers = []) (h5 : A.tmps.getD 5 undef = vk) (hl : A.tmps.getD 19 undef = .slice al n cl)
    (hn : ∀ (A' : Act) (w' : World) (ao : Option Addr) (c : Nat), w'.ownsRow W.heap.size 22 1 (.slice ao n c) n us → Below W.heap.size W w' → Sm (fun k => if k = 28 then .slice ao n c else A.tmps.getD k undef) A' → A'.tmps.getD 5 undef = vk → Goes 22 w0 A' w') : Goes 21 w0 A W := by
  obtain ⟨s, eA, hsk⟩ := act_open A _ hs hd
  have ef : (fun k => A.tmps.getD k undef) = s := funext hsk
  have ef2 : ∀ v : Value, (fun k => if k = 28 then v else A.tmps.getD k undef) = fun k => if k = 28 then v else s k := fun v => funext fun k => by rw [hsk]
  simp only [ef2] at hn
  rw [hsk] at h5 hl
  rw [eA, h5, hl]
  clear eA hsk ef ef2 h5 hs hd
  obtain ⟨hc1, hc2⟩ := own_cap2 ⟨us, ho⟩
  have hE1 : Hid ((W.alloc (.cells #[] 22)).ownsRow W.heap.size 22 1 (.slice (some ⟨W.heap.size, 0, none⟩) 0 0) 0 []) := own_empty W
  have hal : Below W.heap.size W (W.alloc (.cells #[] 22)) := (Below.refl _ W).alloc (Nat.le_refl _) _
  have HAL := hide hal
  have hU1 : Hid ((W.alloc (.cells #[] 22)).ownsRow B 22 1 (.slice al n cl) n us) := ho.kept (grown_later hal) (by cases (Value.slice al n cl).ownBlock <;> simp)
  have HONE := hide (pieces_one hp)
  have HE := hide hn
  have HL := hide hl
  clear hn hl ho hal hp
  unfold Goes
  conv => arg 2; whnf
  refine goes_seq (k := 22) ?_
  go_wp2_with (at_builtin; refine wpList_append_ll _ rfl _ _ rfl W.heap.size B _ _ _ rfl hE1.out _ _ us rfl hU1.out HONE.out (by omega) (by simp) ?_)
  intro v2 w2 ho2 hg2 ha2
  have hs2 := hg2.size
  have hsa : (W.alloc (.cells #[] 22)).heap.size = W.heap.size + 1 := World.size_alloc _ _
  have hb2 : Below W.heap.size W w2 := HAL.out.grown hg2 (by omega) (fun k e => (hE1.out.lt k e).1)
  obtain ⟨ao2, c2, rfl⟩ := own_len ho2
  have HE2 := hide (fun (A : Act) => HE.out A w2 ao2 c2 (by simpa using ho2) hb2)
  clear ho2 hg2 ha2 hb2 hsa hs2 HE HAL hE1 hU1 HONE
  go_wp2_with fail
  exact HE2.out _ ⟨rfl, rfl, rfl, rfl, rfl, rfl, HL.out.symm, rfl, rfl, rfl, rfl, rfl⟩ rfl
end Go.Proofs.Ytkohlhnkaklnpaa
