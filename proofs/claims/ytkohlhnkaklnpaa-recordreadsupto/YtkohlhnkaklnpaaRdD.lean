import Derived.Test.YtkohlhnkaklnpaaRdH
/-
  RecordReads: three lists are held against one another.
-/
namespace Go.Proofs.Ytkohlhnkaklnpaa
open Go.RowKit Go.Shelf
attribute [local go_sem] Oper.semAt_some
set_option maxRecDepth 100000
/-- The loop of statement 19. -/
noncomputable def blk19 : Code := match tailN 19 body16 with
  | .seq (.seq _ x) _ => x
  | c => c
set_option maxHeartbeats 8000000 in
theorem seg19b {w0 W : World} {A : Act} {ds : List (List UInt8)} {aB c17 c19 : Nat} {ao17 ao19 : Option Addr} {vk va : Value} (hn6 : ds.length ≤ 1000000) (hal : Al aB va ds W)
    (hel : ∀ i (h : i < ds.length), (∃ g u1 u2 u3, ao17 = some ⟨g, 0, none⟩ ∧ W.cell? ⟨g, i, none⟩ = some (.slice u1 u2 u3) ∧ Bs W (.slice u1 u2 u3) ds[i]) ∧ (∃ g u1 u2 u3, ao19 = some ⟨g, 0, none⟩ ∧ W.cell? ⟨g, i, none⟩ = some (.slice u1 u2 u3) ∧ Bs W (.slice u1 u2 u3) ds[i])) (hc17 : ds.length ≤ c17 ∧ c17 ≤ 9223372036854775807) (hc19 : ds.length ≤ c19 ∧ c19 ≤ 9223372036854775807)
    (hs : A.tmps.size = 464) (hd : A.defers = []) (h5 : A.tmps.getD 5 undef = vk) (h26 : A.tmps.getD 26 undef = .int .i64 0) (h24 : A.tmps.getD 24 undef = .pointer (some ⟨aB, 0, none⟩)) (h17 : A.tmps.getD 17 undef = .slice ao17 ds.length c17) (h19 : A.tmps.getD 19 undef = .slice ao19 ds.length c19)
    (hn : ∀ (A' : Act) (wr : World), Below W.heap.size W wr → Sm (fun k => A.tmps.getD k undef) A' → A'.tmps.getD 5 undef = vk → Goes 20 w0 A' wr) : Code.wp Try.prog blk19 (Exit.then (Goes 20 w0) (QR w0)) A W := by
  obtain ⟨s, eA, hsk⟩ := act_open A _ hs hd
  have ef : (fun k => A.tmps.getD k undef) = s := funext hsk
  rw [ef] at hn
  rw [hsk] at h5 h26 h17 h19 h24
  rw [eA, h5, h26, h24, h17, h19]
  clear eA hsk ef h5 h26 hs hd
  obtain ⟨aa, ca, rfl, hca1, hca2⟩ := hal.form
  have cbox := hal.box
  have HEL : Hid (∀ i (h : i < ds.length), ((∃ g u1 u2 u3, ao17 = some ⟨g, 0, none⟩ ∧ W.cell? ⟨g, i, none⟩ = some (.slice u1 u2 u3) ∧ Bs W (.slice u1 u2 u3) ds[i]) ∧ (∃ g u1 u2 u3, ao19 = some ⟨g, 0, none⟩ ∧ W.cell? ⟨g, i, none⟩ = some (.slice u1 u2 u3) ∧ Bs W (.slice u1 u2 u3) ds[i])) ∧ (∃ g u1 u2 u3, aa = some ⟨g, 0, none⟩ ∧ W.cell? ⟨g, i, none⟩ = some (.slice u1 u2 u3) ∧ Bs W (.slice u1 u2 u3) ds[i])) := fun i h => ⟨hel i h, hal.at i h⟩
  have HE := hide hn
  obtain ⟨n, hnn⟩ : ∃ n, n = ds.length := ⟨_, rfl⟩
  have HL := hide (And.intro h17 (And.intro h19 h24))
  obtain ⟨hc1, hc2⟩ := hc17
  obtain ⟨hc3, hc4⟩ := hc19
  rw [← hnn] at hn6 hca1 hc1 hc3 cbox HL ⊢
  have HN := hide hnn
  clear hn h17 h19 h24 hal hel hnn
  conv => arg 2; whnf
  go_wp2_with fail
  go_loopg [26] n (fun q vc wr => ∃ i : Nat, q = n - i ∧ i ≤ n ∧ vc = .int .i64 (i : Int) ∧ Hid (Below W.heap.size W wr))
  case atStart => exact ⟨0, rfl, by omega, rfl, Below.refl _ _⟩
  case round =>
    obtain ⟨i, hq, hi, rfl, HB⟩ := hrel
    by_cases hlt : i < n
    · have e1 : (i : Int) < (n : Int) := by omega
      have hid : i < ds.length := by have := HN.out; omega
      obtain ⟨⟨⟨g17, x1, x2, x3, rfl, cx, hx⟩, ⟨g19, y1, y2, y3, rfl, cy, hy⟩⟩, ⟨ga, t1, t2, t3, rfl, ct, ht⟩⟩ := HEL.out i hid
      obtain ⟨D, hD⟩ : ∃ D, D = ds[i] := ⟨_, rfl⟩
      rw [← hD] at hx hy ht
      have hbr := HB.out.drew
      have SS : Hid ((wr.drew.cell? ⟨g17, i, none⟩ = some (.slice x1 x2 x3) ∧ wr.drew.cell? ⟨g19, i, none⟩ = some (.slice y1 y2 y3) ∧ wr.drew.cell? ⟨ga, i, none⟩ = some (.slice t1 t2 t3) ∧ wr.drew.cell? ⟨aB, 0, none⟩ = some (.slice (some ⟨ga, 0, none⟩) n ca)) ∧ (convert 22 9 (.slice x1 x2 x3)).run Try.prog wr.drew = .ok (.string ⟨D.toArray⟩) wr.drew ∧ (convert 22 9 (.slice y1 y2 y3)).run Try.prog wr.drew = .ok (.string ⟨D.toArray⟩) wr.drew ∧ (convert 22 9 (.slice t1 t2 t3)).run Try.prog wr.drew = .ok (.string ⟨D.toArray⟩) wr.drew) :=
        ⟨⟨(hbr.cell (p := ⟨g17, i, none⟩) (World.block_lt_of_cell? W _ cx)).trans cx, (hbr.cell (p := ⟨g19, i, none⟩) (World.block_lt_of_cell? W _ cy)).trans cy, (hbr.cell (p := ⟨ga, i, none⟩) (World.block_lt_of_cell? W _ ct)).trans ct, (hbr.cell (p := ⟨aB, 0, none⟩) (World.block_lt_of_cell? W _ cbox)).trans cbox⟩, conv_bs (on_bs hx hbr), conv_bs (on_bs hy hbr), conv_bs (on_bs ht hbr)⟩
      have z1 : ((ByteArray.mk (List.toArray D)).toList == (ByteArray.mk (List.toArray D)).toList) = true := by simp
      have HBd := hide hbr
      clear hx hy ht hD hbr cx cy ct HEL
      go_wp2_with fail
      go_region_held3 (fun V => (V.cell? ⟨g17, i, none⟩ = some (.slice x1 x2 x3) ∧ V.cell? ⟨g19, i, none⟩ = some (.slice y1 y2 y3) ∧ V.cell? ⟨ga, i, none⟩ = some (.slice t1 t2 t3) ∧ V.cell? ⟨aB, 0, none⟩ = some (.slice (some ⟨ga, 0, none⟩) n ca)) ∧ (convert 22 9 (.slice x1 x2 x3)).run Try.prog V = .ok (.string ⟨D.toArray⟩) V ∧ (convert 22 9 (.slice y1 y2 y3)).run Try.prog V = .ok (.string ⟨D.toArray⟩) V ∧ (convert 22 9 (.slice t1 t2 t3)).run Try.prog V = .ok (.string ⟨D.toArray⟩) V) (exact SS.out) (fail)
      all_goals
        go_wp2_with fail
        go_roundg (n - (i + 1))
        case measure => omega
        case rel => exact ⟨i + 1, rfl, by omega, by simp, HBd⟩
    · have e1 : ¬ (i : Int) < (n : Int) := by omega
      have cbw : wr.cell? ⟨aB, 0, none⟩ = some (.slice aa n ca) := (HB.out.cell (p := ⟨aB, 0, none⟩) (World.block_lt_of_cell? _ _ cbox)).trans cbox
      clear HEL
      go_wp2_with fail
      exact HE.out _ wr HB.out ⟨rfl, rfl, rfl, rfl, rfl, HL.out.1.symm, HL.out.2.1.symm, HL.out.2.2.symm, rfl, rfl, rfl, rfl⟩ rfl
end Go.Proofs.Ytkohlhnkaklnpaa
