import Derived.Test.YtkohlhnkaklnpaaRdH
import Derived.Test.YtkohlhnkaklnpaaMr12
/-
  RecordReads: a list is overwritten, and one of its own comes of it.
-/
namespace Go.Proofs.Ytkohlhnkaklnpaa
open Go.RowKit Go.Shelf
attribute [local go_sem] Oper.semAt_some
set_option maxRecDepth 100000
set_option maxHeartbeats 8000000 in
theorem seg22 {w0 W : World} {A : Act} {B n cl : Nat} {al : Option Addr} {vk : Value} {us : List Value} (ho : W.ownsRow B 22 1 (.slice al n cl) n us) (hn6 : n ≤ 1000000) (hB : B ≤ W.heap.size)
    (hs : A.tmps.size = 464) (hd : A.defers = []) (h5 : A.tmps.getD 5 undef = vk) (hl : A.tmps.getD 17 undef = .slice al n cl)
    (hn : ∀ (A' : Act) (w' : World) (v' : Value), Wr w' B W.heap.size v' (n + 64) (n + 64) [102, 105, 114, 115, 116] → (∀ k, v'.ownBlock = some k → (Value.slice al n cl).ownBlock = some k ∨ W.heap.size ≤ k) → Fr W w' (Value.slice al n cl).ownBlock none → Sm (fun k => if k = 29 then v' else A.tmps.getD k undef) A' → A'.tmps.getD 5 undef = vk → Goes 23 w0 A' w') : Goes 22 w0 A W := by
  obtain ⟨s, eA, hsk⟩ := act_open A _ hs hd
  have ef : (fun k => A.tmps.getD k undef) = s := funext hsk
  have ef2 : ∀ v : Value, (fun k => if k = 29 then v else A.tmps.getD k undef) = fun k => if k = 29 then v else s k := fun v => funext fun k => by rw [hsk]
  simp only [ef2] at hn
  rw [hsk] at h5 hl
  rw [eA, h5, hl]
  clear eA hsk ef ef2 h5 hs hd
  have HOU := hide (outer_any B n (.slice al n cl) us [102, 105, 114, 115, 116] W ho (by simp) (by omega) hB)
  have HE := hide hn
  have HL := hide hl
  clear hn hl ho
  unfold Goes
  conv => arg 2; whnf
  refine goes_seq (k := 23) ?_
  go_wp2_with fail
  refine HOU.out.mono ?_
  rintro e w2 ⟨v', rfl, hwr, hvb, hfr⟩
  have HE2 := hide (fun (A : Act) => HE.out A w2 v' hwr hvb hfr)
  clear hwr hvb hfr HE HOU
  go_wp2_with fail
  exact HE2.out _ ⟨rfl, rfl, rfl, rfl, rfl, HL.out.symm, rfl, rfl, rfl, rfl, rfl, rfl⟩ rfl
set_option maxHeartbeats 8000000 in
theorem seg25 {w0 W : World} {A : Act} {B n cl : Nat} {al : Option Addr} {vk : Value} {us : List Value} (ho : W.ownsRow B 22 1 (.slice al n cl) n us) (hn6 : n ≤ 1000000) (hB : B ≤ W.heap.size)
    (hs : A.tmps.size = 464) (hd : A.defers = []) (h5 : A.tmps.getD 5 undef = vk) (hl : A.tmps.getD 19 undef = .slice al n cl)
    (hn : ∀ (A' : Act) (w' : World) (v' : Value), Wr w' B W.heap.size v' (n + 64) (n + 64) [115, 101, 99, 111, 110, 100] → (∀ k, v'.ownBlock = some k → (Value.slice al n cl).ownBlock = some k ∨ W.heap.size ≤ k) → Fr W w' (Value.slice al n cl).ownBlock none → Sm (fun k => if k = 32 then v' else A.tmps.getD k undef) A' → A'.tmps.getD 5 undef = vk → Goes 26 w0 A' w') : Goes 25 w0 A W := by
  obtain ⟨s, eA, hsk⟩ := act_open A _ hs hd
  have ef : (fun k => A.tmps.getD k undef) = s := funext hsk
  have ef2 : ∀ v : Value, (fun k => if k = 32 then v else A.tmps.getD k undef) = fun k => if k = 32 then v else s k := fun v => funext fun k => by rw [hsk]
  simp only [ef2] at hn
  rw [hsk] at h5 hl
  rw [eA, h5, hl]
  clear eA hsk ef ef2 h5 hs hd
  have HOU := hide (outer_any B n (.slice al n cl) us [115, 101, 99, 111, 110, 100] W ho (by simp) (by omega) hB)
  have HE := hide hn
  have HL := hide hl
  clear hn hl ho
  unfold Goes
  conv => arg 2; whnf
  refine goes_seq (k := 26) ?_
  go_wp2_with fail
  refine HOU.out.mono ?_
  rintro e w2 ⟨v', rfl, hwr, hvb, hfr⟩
  have HE2 := hide (fun (A : Act) => HE.out A w2 v' hwr hvb hfr)
  clear hwr hvb hfr HE HOU
  go_wp2_with fail
  exact HE2.out _ ⟨rfl, rfl, rfl, rfl, rfl, rfl, HL.out.symm, rfl, rfl, rfl, rfl, rfl⟩ rfl
end Go.Proofs.Ytkohlhnkaklnpaa
