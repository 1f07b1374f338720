import Derived.Test.YtkohlhnkaklnpaaRdH
/-
  RecordReads: lists that are held against the document's.
-/
namespace Go.Proofs.Ytkohlhnkaklnpaa
open Go.RowKit Go.Shelf
attribute [local go_sem] Oper.semAt_some
set_option maxRecDepth 100000
set_option maxHeartbeats 8000000 in
theorem seg24 {w0 W : World} {A : Act} {ds : List (List UInt8)} {aB cl : Nat} {al : Option Addr} {vk va : Value} (hn6 : ds.length ≤ 1000000) (hal : Al aB va ds W) (hel : ∀ i (h : i < ds.length), ∃ g u1 u2 u3, al = some ⟨g, 0, none⟩ ∧ W.cell? ⟨g, i, none⟩ = some (.slice u1 u2 u3) ∧ Bs W (.slice u1 u2 u3) ds[i])
    (hs : A.tmps.size = 464) (hd : A.defers = []) (h5 : A.tmps.getD 5 undef = vk) (h24 : A.tmps.getD 24 undef = .pointer (some ⟨aB, 0, none⟩)) (hl : A.tmps.getD 19 undef = .slice al ds.length cl)
    (hn : ∀ (A' : Act) (wr : World), Below W.heap.size W wr → Sm (fun k => A.tmps.getD k undef) A' → A'.tmps.getD 5 undef = vk → Goes 25 w0 A' wr) : Goes 24 w0 A W := by
  obtain ⟨s, eA, hsk⟩ := act_open A _ hs hd
  have ef : (fun k => A.tmps.getD k undef) = s := funext hsk
  rw [ef] at hn
  rw [hsk] at h5 hl h24
  rw [eA, h5, h24, hl]
  clear eA hsk ef h5 hs hd
  obtain ⟨aa, ca, rfl, hca1, hca2⟩ := hal.form
  have cbox := hal.box
  have HEL : Hid (∀ i (h : i < ds.length), (∃ g u1 u2 u3, al = some ⟨g, 0, none⟩ ∧ W.cell? ⟨g, i, none⟩ = some (.slice u1 u2 u3) ∧ Bs W (.slice u1 u2 u3) ds[i]) ∧ (∃ g u1 u2 u3, aa = some ⟨g, 0, none⟩ ∧ W.cell? ⟨g, i, none⟩ = some (.slice u1 u2 u3) ∧ Bs W (.slice u1 u2 u3) ds[i])) := fun i h => ⟨hel i h, hal.at i h⟩
  have HE := hide hn
  have H24 := hide h24
  obtain ⟨n, hnn⟩ : ∃ n, n = ds.length := ⟨_, rfl⟩
  rw [← hnn] at hn6 hca1 hl cbox ⊢
  have HN := hide hnn
  have HL := hide hl
  clear hn hl h24 hal hel hnn
  unfold Goes
  conv => arg 2; whnf
  refine goes_seq (k := 25) ?_
  go_wp2_with fail
  go_loopg [31] n (fun q vc wr => ∃ i : Nat, q = n - i ∧ i ≤ n ∧ vc = .int .i64 (i : Int) ∧ Hid (Below W.heap.size W wr))
  case atStart => exact ⟨0, rfl, by omega, rfl, Below.refl _ _⟩
  case round =>
    obtain ⟨i, hq, hi, rfl, HB⟩ := hrel
    have cbw : wr.cell? ⟨aB, 0, none⟩ = some (.slice aa n ca) := (HB.out.cell (p := ⟨aB, 0, none⟩) (World.block_lt_of_cell? _ _ cbox)).trans cbox
    by_cases hlt : i < n
    · have e1 : (i : Int) < (n : Int) := by omega
      have hid : i < ds.length := by have := HN.out; omega
      obtain ⟨⟨gl, x1, x2, x3, rfl, cx, hx⟩, ⟨ga, t1, t2, t3, rfl, ct, ht⟩⟩ := HEL.out i hid
      obtain ⟨D, hD⟩ : ∃ D, D = ds[i] := ⟨_, rfl⟩
      rw [← hD] at hx ht
      have hbr := HB.out.drew
      have SS : Hid ((wr.drew.cell? ⟨gl, i, none⟩ = some (.slice x1 x2 x3) ∧ wr.drew.cell? ⟨ga, i, none⟩ = some (.slice t1 t2 t3) ∧ wr.drew.cell? ⟨aB, 0, none⟩ = some (.slice (some ⟨ga, 0, none⟩) n ca)) ∧ (convert 22 9 (.slice x1 x2 x3)).run Try.prog wr.drew = .ok (.string ⟨D.toArray⟩) wr.drew ∧ (convert 22 9 (.slice t1 t2 t3)).run Try.prog wr.drew = .ok (.string ⟨D.toArray⟩) wr.drew) :=
        ⟨⟨(hbr.cell (p := ⟨gl, i, none⟩) (World.block_lt_of_cell? W _ cx)).trans cx, (hbr.cell (p := ⟨ga, i, none⟩) (World.block_lt_of_cell? W _ ct)).trans ct, cbw⟩, conv_bs (on_bs hx hbr), conv_bs (on_bs ht hbr)⟩
      have z1 : ((ByteArray.mk (List.toArray D)).toList == (ByteArray.mk (List.toArray D)).toList) = true := by simp
      have HBd := hide hbr
      clear hx ht hD hbr cx ct HEL
      go_wp2_with fail
      go_region_held3 (fun V => (V.cell? ⟨gl, i, none⟩ = some (.slice x1 x2 x3) ∧ V.cell? ⟨ga, i, none⟩ = some (.slice t1 t2 t3) ∧ V.cell? ⟨aB, 0, none⟩ = some (.slice (some ⟨ga, 0, none⟩) n ca)) ∧ (convert 22 9 (.slice x1 x2 x3)).run Try.prog V = .ok (.string ⟨D.toArray⟩) V ∧ (convert 22 9 (.slice t1 t2 t3)).run Try.prog V = .ok (.string ⟨D.toArray⟩) V) (exact SS.out) (fail)
      all_goals
        go_wp2_with fail
        go_roundg (n - (i + 1))
        case measure => omega
        case rel => exact ⟨i + 1, rfl, by omega, by simp, HBd⟩
    · have e1 : ¬ (i : Int) < (n : Int) := by omega
      clear HEL
      go_wp2_with fail
      exact HE.out _ wr HB.out ⟨rfl, rfl, rfl, rfl, rfl, rfl, HL.out.symm, H24.out.symm, rfl, rfl, rfl, rfl⟩ rfl
set_option maxHeartbeats 8000000 in
theorem seg26 {w0 W : World} {A : Act} {ds : List (List UInt8)} {aB cl : Nat} {al : Option Addr} {vk va : Value} (hn6 : ds.length ≤ 1000000) (hal : Al aB va ds W) (hel : ∀ i (h : i < ds.length), ∃ g u1 u2 u3, al = some ⟨g, 0, none⟩ ∧ W.cell? ⟨g, i, none⟩ = some (.slice u1 u2 u3) ∧ Bs W (.slice u1 u2 u3) ds[i])
    (hs : A.tmps.size = 464) (hd : A.defers = []) (h5 : A.tmps.getD 5 undef = vk) (h24 : A.tmps.getD 24 undef = .pointer (some ⟨aB, 0, none⟩)) (hl : A.tmps.getD 28 undef = .slice al ds.length cl)
    (hn : ∀ (A' : Act) (wr : World), Below W.heap.size W wr → Sm (fun k => A.tmps.getD k undef) A' → A'.tmps.getD 5 undef = vk → Goes 27 w0 A' wr) : Goes 26 w0 A W := by
  obtain ⟨s, eA, hsk⟩ := act_open A _ hs hd
  have ef : (fun k => A.tmps.getD k undef) = s := funext hsk
  rw [ef] at hn
  rw [hsk] at h5 hl h24
  rw [eA, h5, h24, hl]
  clear eA hsk ef h5 hs hd
  obtain ⟨aa, ca, rfl, hca1, hca2⟩ := hal.form
  have cbox := hal.box
  have HEL : Hid (∀ i (h : i < ds.length), (∃ g u1 u2 u3, al = some ⟨g, 0, none⟩ ∧ W.cell? ⟨g, i, none⟩ = some (.slice u1 u2 u3) ∧ Bs W (.slice u1 u2 u3) ds[i]) ∧ (∃ g u1 u2 u3, aa = some ⟨g, 0, none⟩ ∧ W.cell? ⟨g, i, none⟩ = some (.slice u1 u2 u3) ∧ Bs W (.slice u1 u2 u3) ds[i])) := fun i h => ⟨hel i h, hal.at i h⟩
  have HE := hide hn
  have H24 := hide h24
  obtain ⟨n, hnn⟩ : ∃ n, n = ds.length := ⟨_, rfl⟩
  rw [← hnn] at hn6 hca1 hl cbox ⊢
  have HN := hide hnn
  have HL := hide hl
  clear hn hl h24 hal hel hnn
  unfold Goes
  conv => arg 2; whnf
  refine goes_seq (k := 27) ?_
  go_wp2_with fail
  go_loopg [33] n (fun q vc wr => ∃ i : Nat, q = n - i ∧ i ≤ n ∧ vc = .int .i64 (i : Int) ∧ Hid (Below W.heap.size W wr))
  case atStart => exact ⟨0, rfl, by omega, rfl, Below.refl _ _⟩
  case round =>
    obtain ⟨i, hq, hi, rfl, HB⟩ := hrel
    have cbw : wr.cell? ⟨aB, 0, none⟩ = some (.slice aa n ca) := (HB.out.cell (p := ⟨aB, 0, none⟩) (World.block_lt_of_cell? _ _ cbox)).trans cbox
    by_cases hlt : i < n
    · have e1 : (i : Int) < (n : Int) := by omega
      have hid : i < ds.length := by have := HN.out; omega
      obtain ⟨⟨gl, x1, x2, x3, rfl, cx, hx⟩, ⟨ga, t1, t2, t3, rfl, ct, ht⟩⟩ := HEL.out i hid
      obtain ⟨D, hD⟩ : ∃ D, D = ds[i] := ⟨_, rfl⟩
      rw [← hD] at hx ht
      have hbr := HB.out.drew
      have SS : Hid ((wr.drew.cell? ⟨gl, i, none⟩ = some (.slice x1 x2 x3) ∧ wr.drew.cell? ⟨ga, i, none⟩ = some (.slice t1 t2 t3) ∧ wr.drew.cell? ⟨aB, 0, none⟩ = some (.slice (some ⟨ga, 0, none⟩) n ca)) ∧ (convert 22 9 (.slice x1 x2 x3)).run Try.prog wr.drew = .ok (.string ⟨D.toArray⟩) wr.drew ∧ (convert 22 9 (.slice t1 t2 t3)).run Try.prog wr.drew = .ok (.string ⟨D.toArray⟩) wr.drew) :=
        ⟨⟨(hbr.cell (p := ⟨gl, i, none⟩) (World.block_lt_of_cell? W _ cx)).trans cx, (hbr.cell (p := ⟨ga, i, none⟩) (World.block_lt_of_cell? W _ ct)).trans ct, cbw⟩, conv_bs (on_bs hx hbr), conv_bs (on_bs ht hbr)⟩
      have z1 : ((ByteArray.mk (List.toArray D)).toList == (ByteArray.mk (List.toArray D)).toList) = true := by simp
      have HBd := hide hbr
      clear hx ht hD hbr cx ct HEL
      go_wp2_with fail
      go_region_held3 (fun V => (V.cell? ⟨gl, i, none⟩ = some (.slice x1 x2 x3) ∧ V.cell? ⟨ga, i, none⟩ = some (.slice t1 t2 t3) ∧ V.cell? ⟨aB, 0, none⟩ = some (.slice (some ⟨ga, 0, none⟩) n ca)) ∧ (convert 22 9 (.slice x1 x2 x3)).run Try.prog V = .ok (.string ⟨D.toArray⟩) V ∧ (convert 22 9 (.slice t1 t2 t3)).run Try.prog V = .ok (.string ⟨D.toArray⟩) V) (exact SS.out) (fail)
      all_goals
        go_wp2_with fail
        go_roundg (n - (i + 1))
        case measure => omega
        case rel => exact ⟨i + 1, rfl, by omega, by simp, HBd⟩
    · have e1 : ¬ (i : Int) < (n : Int) := by omega
      clear HEL
      go_wp2_with fail
      exact HE.out _ wr HB.out ⟨rfl, rfl, rfl, rfl, rfl, rfl, rfl, H24.out.symm, rfl, HL.out.symm, rfl, rfl⟩ rfl
end Go.Proofs.Ytkohlhnkaklnpaa
