import Derived.Test.YtkohlhnkaklnpaaRdX
import Derived.Test.YtkohlhnkaklnpaaAppLl
import Derived.Test.YtkohlhnkaklnpaaOuter
/-
  RecordReads: lists that are kept, one by one.
-/
namespace Go.Proofs.Ytkohlhnkaklnpaa
open Go.RowKit Go.Shelf
attribute [local go_sem] Oper.semAt_some
set_option maxRecDepth 100000
/-- The slots that are asked for later. -/
def Sm (f : Nat → Value) (A' : Act) : Prop := A'.tmps.size = 464 ∧ A'.defers = [] ∧ A'.tmps.getD 0 undef = f 0 ∧ A'.tmps.getD 3 undef = f 3 ∧ A'.tmps.getD 4 undef = f 4 ∧ A'.tmps.getD 17 undef = f 17 ∧ A'.tmps.getD 19 undef = f 19 ∧ A'.tmps.getD 24 undef = f 24 ∧ A'.tmps.getD 27 undef = f 27 ∧ A'.tmps.getD 28 undef = f 28 ∧ A'.tmps.getD 29 undef = f 29 ∧ A'.tmps.getD 32 undef = f 32
set_option maxHeartbeats 8000000 in
theorem seg27 {w0 wA W : World} {A : Act} {ds : List (List UInt8)} {nk cl : Nat} {al : Option Addr} {vk : Value} {K Z : Nat → Prop} {us : List Value} {R : World → Prop} (hb : Below wA.heap.size wA W) (hk : Kz W wA.heap.size nk K vk) (hnk : nk ≤ 8000000) (hn6 : ds.length ≤ 1000000) (hdl : ∀ d ∈ ds, d.length ≤ 100000000)
    (hp : Pieces W wA.heap.size us ds) (th : Keeps Z W (fun V => V.ownsRow 0 22 1 (.slice al ds.length cl) ds.length us ∧ R V)) (dK : ∀ k, Z k → ¬ K k) (dU : ∀ k, Of us k → ¬ Z k) (dKU : ∀ k, Of us k → ¬ K k)
    (hs : A.tmps.size = 464) (hd : A.defers = []) (h5 : A.tmps.getD 5 undef = vk) (hl : A.tmps.getD 28 undef = .slice al ds.length cl)
    (hn : ∀ (A' : Act) (wr : World) (vk' : Value), Kl W wr wA.heap.size nk K us ds.length vk' → Sm (fun k => A.tmps.getD k undef) A' → A'.tmps.getD 5 undef = vk' → Goes 28 w0 A' wr) : Goes 27 w0 A W := by
  obtain ⟨s, eA, hsk⟩ := act_open A _ hs hd
  have ef : (fun k => A.tmps.getD k undef) = s := funext hsk
  rw [ef] at hn
  rw [hsk] at h5 hl
  rw [eA, h5, hl]
  clear eA hsk ef h5 hs hd
  obtain ⟨hc1, hc2⟩ := own_cap2 ⟨us, th.here.1⟩
  obtain ⟨ak, mk, ck, rfl⟩ := hk.form
  obtain ⟨n, hnn⟩ : ∃ n, n = ds.length := ⟨_, rfl⟩
  have hvl : us.length = ds.length := hp.1
  have dU' : ∀ u ∈ us, ∀ k, u.ownBlock = some k → ¬ Z k := fun u hu k e => dU k ⟨u, hu, e⟩
  have dW : ∀ k, K k → ∀ u ∈ us, u.ownBlock ≠ some k := fun k e u hu e' => dKU k ⟨u, hu, e'⟩ e
  have HE := hide hn
  have H := hide (And.intro hb (And.intro hk (And.intro hdl (And.intro hp (And.intro th (And.intro dK (And.intro dU' dW)))))))
  have HN := hide (And.intro hnn hvl)
  rw [← hnn] at hn6 hc1 hl ⊢
  have HL := hide hl
  clear hb hk hdl hp th dK dU dKU dU' dW hvl hn hl
  unfold Goes
  conv => arg 2; whnf
  refine goes_seq (k := 28) ?_
  go_wp2_with fail
  go_loopg [5, 34] n (fun q v5 vc wr => ∃ i : Nat, q = n - i ∧ i ≤ n ∧ vc = .int .i64 (i : Int) ∧ ∃ a m c, v5 = .slice a m c ∧ Hid (Kl W wr wA.heap.size nk K us i (.slice a m c)))
  case atStart => exact ⟨0, rfl, by omega, rfl, _, _, _, rfl, Kl.start H.out.2.1⟩
  case round =>
    obtain ⟨i, hq, hi, rfl, ak2, mk2, ck2, rfl, HK⟩ := hrel
    obtain ⟨hb, hk, hdl, hp, th, dK, dV, dW⟩ := H.out
    obtain ⟨hnn, hvl⟩ := HN.out
    have tb := (th.mv HK.out.2 (kt_off dK dV)).here
    by_cases hlt : i < n
    · have e1 : (i : Int) < (n : Int) := by omega
      have hiv : i < us.length := by omega
      have hid : i < ds.length := by omega
      have ho := tb.1
      rw [← hnn] at ho
      obtain ⟨gl, rfl, hu, cv⟩ := row_elem ho hlt
      have hpc := pieces_at hp HK.out.2 dW hiv hid
      have step := HK.out.step hp hiv dW hb.size (by omega) hdl
      obtain ⟨x1, x2, x3, ex⟩ := hpc.shape
      rw [ex] at cv step
      have HST := hide step
      clear ho hpc step ex th tb hp dK dV dW hdl hk hb hnn hvl hu
      go_wp2_with fail
      refine HST.out.mono ?_
      rintro e w2 ⟨ak3, mk3, ck3, rfl, hK3⟩
      have HK3 := hide hK3
      clear hK3 HST
      go_wp2_with fail
      go_roundg (n - (i + 1))
      case measure => omega
      case rel => exact ⟨i + 1, rfl, by omega, by simp, _, _, _, rfl, HK3⟩
    · have e1 : ¬ (i : Int) < (n : Int) := by omega
      obtain rfl : i = n := by omega
      rw [hnn] at HK HL
      have HE2 := hide (fun (A : Act) => HE.out A wr _ HK.out)
      clear th tb hp dK dV dW hdl hk hb hnn hvl
      go_wp2_with fail
      exact HE2.out _ ⟨rfl, rfl, rfl, rfl, rfl, rfl, rfl, rfl, rfl, HL.out.symm, rfl, rfl⟩ rfl
set_option maxHeartbeats 8000000 in
theorem seg23 {w0 wA W : World} {A : Act} {ds : List (List UInt8)} {nk cl : Nat} {al : Option Addr} {vk : Value} {K Z : Nat → Prop} {us : List Value} {R : World → Prop} (hb : Below wA.heap.size wA W) (hk : Kz W wA.heap.size nk K vk) (hnk : nk ≤ 8000000) (hn6 : ds.length ≤ 1000000) (hdl : ∀ d ∈ ds, d.length ≤ 100000000)
    (hp : Pieces W wA.heap.size us ds) (th : Keeps Z W (fun V => V.ownsRow 0 22 1 (.slice al ds.length cl) ds.length us ∧ R V)) (dK : ∀ k, Z k → ¬ K k) (dU : ∀ k, Of us k → ¬ Z k) (dKU : ∀ k, Of us k → ¬ K k)
    (hs : A.tmps.size = 464) (hd : A.defers = []) (h5 : A.tmps.getD 5 undef = vk) (hl : A.tmps.getD 27 undef = .slice al ds.length cl)
    (hn : ∀ (A' : Act) (wr : World) (vk' : Value), Kl W wr wA.heap.size nk K us ds.length vk' → Sm (fun k => A.tmps.getD k undef) A' → A'.tmps.getD 5 undef = vk' → Goes 24 w0 A' wr) : Goes 23 w0 A W := by
  obtain ⟨s, eA, hsk⟩ := act_open A _ hs hd
  have ef : (fun k => A.tmps.getD k undef) = s := funext hsk
  rw [ef] at hn
  rw [hsk] at h5 hl
  rw [eA, h5, hl]
  clear eA hsk ef h5 hs hd
  obtain ⟨hc1, hc2⟩ := own_cap2 ⟨us, th.here.1⟩
  obtain ⟨ak, mk, ck, rfl⟩ := hk.form
  obtain ⟨n, hnn⟩ : ∃ n, n = ds.length := ⟨_, rfl⟩
  have hvl : us.length = ds.length := hp.1
  have dU' : ∀ u ∈ us, ∀ k, u.ownBlock = some k → ¬ Z k := fun u hu k e => dU k ⟨u, hu, e⟩
  have dW : ∀ k, K k → ∀ u ∈ us, u.ownBlock ≠ some k := fun k e u hu e' => dKU k ⟨u, hu, e'⟩ e
  have HE := hide hn
  have H := hide (And.intro hb (And.intro hk (And.intro hdl (And.intro hp (And.intro th (And.intro dK (And.intro dU' dW)))))))
  have HN := hide (And.intro hnn hvl)
  rw [← hnn] at hn6 hc1 hl ⊢
  have HL := hide hl
  clear hb hk hdl hp th dK dU dKU dU' dW hvl hn hl
  unfold Goes
  conv => arg 2; whnf
  refine goes_seq (k := 24) ?_
  go_wp2_with fail
  go_loopg [5, 30] n (fun q v5 vc wr => ∃ i : Nat, q = n - i ∧ i ≤ n ∧ vc = .int .i64 (i : Int) ∧ ∃ a m c, v5 = .slice a m c ∧ Hid (Kl W wr wA.heap.size nk K us i (.slice a m c)))
  case atStart => exact ⟨0, rfl, by omega, rfl, _, _, _, rfl, Kl.start H.out.2.1⟩
  case round =>
    obtain ⟨i, hq, hi, rfl, ak2, mk2, ck2, rfl, HK⟩ := hrel
    obtain ⟨hb, hk, hdl, hp, th, dK, dV, dW⟩ := H.out
    obtain ⟨hnn, hvl⟩ := HN.out
    have tb := (th.mv HK.out.2 (kt_off dK dV)).here
    by_cases hlt : i < n
    · have e1 : (i : Int) < (n : Int) := by omega
      have hiv : i < us.length := by omega
      have hid : i < ds.length := by omega
      have ho := tb.1
      rw [← hnn] at ho
      obtain ⟨gl, rfl, hu, cv⟩ := row_elem ho hlt
      have hpc := pieces_at hp HK.out.2 dW hiv hid
      have step := HK.out.step hp hiv dW hb.size (by omega) hdl
      obtain ⟨x1, x2, x3, ex⟩ := hpc.shape
      rw [ex] at cv step
      have HST := hide step
      clear ho hpc step ex th tb hp dK dV dW hdl hk hb hnn hvl hu
      go_wp2_with fail
      refine HST.out.mono ?_
      rintro e w2 ⟨ak3, mk3, ck3, rfl, hK3⟩
      have HK3 := hide hK3
      clear hK3 HST
      go_wp2_with fail
      go_roundg (n - (i + 1))
      case measure => omega
      case rel => exact ⟨i + 1, rfl, by omega, by simp, _, _, _, rfl, HK3⟩
    · have e1 : ¬ (i : Int) < (n : Int) := by omega
      obtain rfl : i = n := by omega
      rw [hnn] at HK HL
      have HE2 := hide (fun (A : Act) => HE.out A wr _ HK.out)
      clear th tb hp dK dV dW hdl hk hb hnn hvl
      go_wp2_with fail
      exact HE2.out _ ⟨rfl, rfl, rfl, rfl, rfl, rfl, rfl, rfl, HL.out.symm, rfl, rfl, rfl⟩ rfl
end Go.Proofs.Ytkohlhnkaklnpaa

/-
  RecordReads: three lists are held against one another.
-/
namespace Go.Proofs.Ytkohlhnkaklnpaa
open Go.RowKit Go.Shelf
attribute [local go_sem] Oper.semAt_some
set_option maxRecDepth 100000
/-- The loop of statement 19. -/
noncomputable def blk19 : Code := match tailN 19 body16 with
  | .seq (.seq _ x) _ => x
  | c => c
set_option maxHeartbeats 8000000 in
theorem seg19b {w0 W : World} {A : Act} {ds : List (List UInt8)} {aB c17 c19 : Nat} {ao17 ao19 : Option Addr} {vk va : Value} (hn6 : ds.length ≤ 1000000) (hal : Al aB va ds W)
    (hel : ∀ i (h : i < ds.length), (∃ g u1 u2 u3, ao17 = some ⟨g, 0, none⟩ ∧ W.cell? ⟨g, i, none⟩ = some (.slice u1 u2 u3) ∧ Bs W (.slice u1 u2 u3) ds[i]) ∧ (∃ g u1 u2 u3, ao19 = some ⟨g, 0, none⟩ ∧ W.cell? ⟨g, i, none⟩ = some (.slice u1 u2 u3) ∧ Bs W (.slice u1 u2 u3) ds[i])) (hc17 : ds.length ≤ c17 ∧ c17 ≤ 9223372036854775807) (hc19 : ds.length ≤ c19 ∧ c19 ≤ 9223372036854775807)
    (hs : A.tmps.size = 464) (hd : A.defers = []) (h5 : A.tmps.getD 5 undef = vk) (h26 : A.tmps.getD 26 undef = .int .i64 0) (h24 : A.tmps.getD 24 undef = .pointer (some ⟨aB, 0, none⟩)) (h17 : A.tmps.getD 17 undef = .slice ao17 ds.length c17) (h19 : A.tmps.getD 19 undef = .slice ao19 ds.length c19)
    (hn : ∀ (A' : Act) (wr : World), Below W.heap.size W wr → Sm (fun k => A.tmps.getD k undef) A' → A'.tmps.getD 5 undef = vk → Goes 20 w0 A' wr) : Code.wp Try.prog blk19 (Exit.then (Goes 20 w0) (QR w0)) A W := by
  obtain ⟨s, eA, hsk⟩ := act_open A _ hs hd
  have ef : (fun k => A.tmps.getD k undef) = s := funext hsk
  rw [ef] at hn
  rw [hsk] at h5 h26 h17 h19 h24
  rw [eA, h5, h26, h24, h17, h19]
  clear eA hsk ef h5 h26 hs hd
  obtain ⟨aa, ca, rfl, hca1, hca2⟩ := hal.form
  have cbox := hal.box
  have HEL : Hid (∀ i (h : i < ds.length), ((∃ g u1 u2 u3, ao17 = some ⟨g, 0, none⟩ ∧ W.cell? ⟨g, i, none⟩ = some (.slice u1 u2 u3) ∧ Bs W (.slice u1 u2 u3) ds[i]) ∧ (∃ g u1 u2 u3, ao19 = some ⟨g, 0, none⟩ ∧ W.cell? ⟨g, i, none⟩ = some (.slice u1 u2 u3) ∧ Bs W (.slice u1 u2 u3) ds[i])) ∧ (∃ g u1 u2 u3, aa = some ⟨g, 0, none⟩ ∧ W.cell? ⟨g, i, none⟩ = some (.slice u1 u2 u3) ∧ Bs W (.slice u1 u2 u3) ds[i])) := fun i h => ⟨hel i h, hal.at i h⟩
  have HE := hide hn
  obtain ⟨n, hnn⟩ : ∃ n, n = ds.length := ⟨_, rfl⟩
  have HL := hide (And.intro h17 (And.intro h19 h24))
  obtain ⟨hc1, hc2⟩ := hc17
  obtain ⟨hc3, hc4⟩ := hc19
  rw [← hnn] at hn6 hca1 hc1 hc3 cbox HL ⊢
  have HN := hide hnn
  clear hn h17 h19 h24 hal hel hnn
  conv => arg 2; whnf
  go_wp2_with fail
  go_loopg [26] n (fun q vc wr => ∃ i : Nat, q = n - i ∧ i ≤ n ∧ vc = .int .i64 (i : Int) ∧ Hid (Below W.heap.size W wr))
  case atStart => exact ⟨0, rfl, by omega, rfl, Below.refl _ _⟩
  case round =>
    obtain ⟨i, hq, hi, rfl, HB⟩ := hrel
    by_cases hlt : i < n
    · have e1 : (i : Int) < (n : Int) := by omega
      have hid : i < ds.length := by have := HN.out; omega
      obtain ⟨⟨⟨g17, x1, x2, x3, rfl, cx, hx⟩, ⟨g19, y1, y2, y3, rfl, cy, hy⟩⟩, ⟨ga, t1, t2, t3, rfl, ct, ht⟩⟩ := HEL.out i hid
      obtain ⟨D, hD⟩ : ∃ D, D = ds[i] := ⟨_, rfl⟩
      rw [← hD] at hx hy ht
      have hbr := HB.out.drew
      have SS : Hid ((wr.drew.cell? ⟨g17, i, none⟩ = some (.slice x1 x2 x3) ∧ wr.drew.cell? ⟨g19, i, none⟩ = some (.slice y1 y2 y3) ∧ wr.drew.cell? ⟨ga, i, none⟩ = some (.slice t1 t2 t3) ∧ wr.drew.cell? ⟨aB, 0, none⟩ = some (.slice (some ⟨ga, 0, none⟩) n ca)) ∧ (convert 22 9 (.slice x1 x2 x3)).run Try.prog wr.drew = .ok (.string ⟨D.toArray⟩) wr.drew ∧ (convert 22 9 (.slice y1 y2 y3)).run Try.prog wr.drew = .ok (.string ⟨D.toArray⟩) wr.drew ∧ (convert 22 9 (.slice t1 t2 t3)).run Try.prog wr.drew = .ok (.string ⟨D.toArray⟩) wr.drew) :=
        ⟨⟨(hbr.cell (p := ⟨g17, i, none⟩) (World.block_lt_of_cell? W _ cx)).trans cx, (hbr.cell (p := ⟨g19, i, none⟩) (World.block_lt_of_cell? W _ cy)).trans cy, (hbr.cell (p := ⟨ga, i, none⟩) (World.block_lt_of_cell? W _ ct)).trans ct, (hbr.cell (p := ⟨aB, 0, none⟩) (World.block_lt_of_cell? W _ cbox)).trans cbox⟩, conv_bs (on_bs hx hbr), conv_bs (on_bs hy hbr), conv_bs (on_bs ht hbr)⟩
      have z1 : ((ByteArray.mk (List.toArray D)).toList == (ByteArray.mk (List.toArray D)).toList) = true := by simp
      have HBd := hide hbr
      clear hx hy ht hD hbr cx cy ct HEL
      go_wp2_with fail
      go_region_held3 (fun V => (V.cell? ⟨g17, i, none⟩ = some (.slice x1 x2 x3) ∧ V.cell? ⟨g19, i, none⟩ = some (.slice y1 y2 y3) ∧ V.cell? ⟨ga, i, none⟩ = some (.slice t1 t2 t3) ∧ V.cell? ⟨aB, 0, none⟩ = some (.slice (some ⟨ga, 0, none⟩) n ca)) ∧ (convert 22 9 (.slice x1 x2 x3)).run Try.prog V = .ok (.string ⟨D.toArray⟩) V ∧ (convert 22 9 (.slice y1 y2 y3)).run Try.prog V = .ok (.string ⟨D.toArray⟩) V ∧ (convert 22 9 (.slice t1 t2 t3)).run Try.prog V = .ok (.string ⟨D.toArray⟩) V) (exact SS.out) (fail)
      all_goals
        go_wp2_with fail
        go_roundg (n - (i + 1))
        case measure => omega
        case rel => exact ⟨i + 1, rfl, by omega, by simp, HBd⟩
    · have e1 : ¬ (i : Int) < (n : Int) := by omega
      have cbw : wr.cell? ⟨aB, 0, none⟩ = some (.slice aa n ca) := (HB.out.cell (p := ⟨aB, 0, none⟩) (World.block_lt_of_cell? _ _ cbox)).trans cbox
      clear HEL
      go_wp2_with fail
      exact HE.out _ wr HB.out ⟨rfl, rfl, rfl, rfl, rfl, HL.out.1.symm, HL.out.2.1.symm, HL.out.2.2.symm, rfl, rfl, rfl, rfl⟩ rfl
end Go.Proofs.Ytkohlhnkaklnpaa

/-
  RecordReads: a list is copied by append.
-/
namespace Go.Proofs.Ytkohlhnkaklnpaa
open Go.RowKit Go.Shelf
attribute [local go_sem] Oper.semAt_some
set_option maxRecDepth 100000
set_option maxHeartbeats 8000000 in
theorem seg20 {w0 W : World} {A : Act} {B n cl : Nat} {al : Option Addr} {vk : Value} {us : List Value} {ds : List (List UInt8)} (ho : W.ownsRow B 22 1 (.slice al n cl) n us) (hp : Pieces W B us ds) (hn6 : n ≤ 1000000) (_hB : B ≤ W.heap.size)
    (hs : A.tmps.size = 464) (hd : A.defers = []) (h5 : A.tmps.getD 5 undef = vk) (hl : A.tmps.getD 17 undef = .slice al n cl)
    (hn : ∀ (A' : Act) (w' : World) (ao : Option Addr) (c : Nat), w'.ownsRow W.heap.size 22 1 (.slice ao n c) n us → Below W.heap.size W w' → Sm (fun k => if k = 27 then .slice ao n c else A.tmps.getD k undef) A' → A'.tmps.getD 5 undef = vk → Goes 21 w0 A' w') : Goes 20 w0 A W := by
  obtain ⟨s, eA, hsk⟩ := act_open A _ hs hd
  have ef : (fun k => A.tmps.getD k undef) = s := funext hsk
  have ef2 : ∀ v : Value, (fun k => if k = 27 then v else A.tmps.getD k undef) = fun k => if k = 27 then v else s k := fun v => funext fun k => by rw [hsk]
  simp only [ef2] at hn
  rw [hsk] at h5 hl
  rw [eA, h5, hl]
  clear eA hsk ef ef2 h5 hs hd
  obtain ⟨hc1, hc2⟩ := own_cap2 ⟨us, ho⟩
  have hE1 : Hid ((W.alloc (.cells #[] 22)).ownsRow W.heap.size 22 1 (.slice (some ⟨W.heap.size, 0, none⟩) 0 0) 0 []) := own_empty W
  have hal : Below W.heap.size W (W.alloc (.cells #[] 22)) := (Below.refl _ W).alloc (Nat.le_refl _) _
  have HAL := hide hal
  have hU1 : Hid ((W.alloc (.cells #[] 22)).ownsRow B 22 1 (.slice al n cl) n us) := ho.kept (grown_later hal) (by cases (Value.slice al n cl).ownBlock <;> simp)
  have HONE := hide (pieces_one hp)
  have HE := hide hn
  have HL := hide hl
  clear hn hl ho hal hp
  unfold Goes
  conv => arg 2; whnf
  refine goes_seq (k := 21) ?_
  go_wp2_with (at_builtin; refine wpList_append_ll _ rfl _ _ rfl W.heap.size B _ _ _ rfl hE1.out _ _ us rfl hU1.out HONE.out (by omega) (by simp) ?_)
  intro v2 w2 ho2 hg2 ha2
  have hs2 := hg2.size
  have hsa : (W.alloc (.cells #[] 22)).heap.size = W.heap.size + 1 := World.size_alloc _ _
  have hb2 : Below W.heap.size W w2 := HAL.out.grown hg2 (by omega) (fun k e => (hE1.out.lt k e).1)
  obtain ⟨ao2, c2, rfl⟩ := own_len ho2
  have HE2 := hide (fun (A : Act) => HE.out A w2 ao2 c2 (by simpa using ho2) hb2)
  clear ho2 hg2 ha2 hb2 hsa hs2 HE HAL hE1 hU1 HONE
  go_wp2_with fail
  exact HE2.out _ ⟨rfl, rfl, rfl, rfl, rfl, HL.out.symm, rfl, rfl, rfl, rfl, rfl, rfl⟩ rfl
set_option maxHeartbeats 8000000 in
theorem seg21 {w0 W : World} {A : Act} {B n cl : Nat} {al : Option Addr} {vk : Value} {us : List Value} {ds : List (List UInt8)} (ho : W.ownsRow B 22 1 (.slice al n cl) n us) (hp : Pieces W B us ds) (hn6 : n ≤ 1000000) (_hB : B ≤ W.heap.size)
    (hs : A.tmps.size = 464) (hd : A.defers = []) (h5 : A.tmps.getD 5 undef = vk) (hl : A.tmps.getD 19 undef = .slice al n cl)
    (hn : ∀ (A' : Act) (w' : World) (ao : Option Addr) (c : Nat), w'.ownsRow W.heap.size 22 1 (.slice ao n c) n us → Below W.heap.size W w' → Sm (fun k => if k = 28 then .slice ao n c else A.tmps.getD k undef) A' → A'.tmps.getD 5 undef = vk → Goes 22 w0 A' w') : Goes 21 w0 A W := by
  obtain ⟨s, eA, hsk⟩ := act_open A _ hs hd
  have ef : (fun k => A.tmps.getD k undef) = s := funext hsk
  have ef2 : ∀ v : Value, (fun k => if k = 28 then v else A.tmps.getD k undef) = fun k => if k = 28 then v else s k := fun v => funext fun k => by rw [hsk]
  simp only [ef2] at hn
  rw [hsk] at h5 hl
  rw [eA, h5, hl]
  clear eA hsk ef ef2 h5 hs hd
  obtain ⟨hc1, hc2⟩ := own_cap2 ⟨us, ho⟩
  have hE1 : Hid ((W.alloc (.cells #[] 22)).ownsRow W.heap.size 22 1 (.slice (some ⟨W.heap.size, 0, none⟩) 0 0) 0 []) := own_empty W
  have hal : Below W.heap.size W (W.alloc (.cells #[] 22)) := (Below.refl _ W).alloc (Nat.le_refl _) _
  have HAL := hide hal
  have hU1 : Hid ((W.alloc (.cells #[] 22)).ownsRow B 22 1 (.slice al n cl) n us) := ho.kept (grown_later hal) (by cases (Value.slice al n cl).ownBlock <;> simp)
  have HONE := hide (pieces_one hp)
  have HE := hide hn
  have HL := hide hl
  clear hn hl ho hal hp
  unfold Goes
  conv => arg 2; whnf
  refine goes_seq (k := 22) ?_
  go_wp2_with (at_builtin; refine wpList_append_ll _ rfl _ _ rfl W.heap.size B _ _ _ rfl hE1.out _ _ us rfl hU1.out HONE.out (by omega) (by simp) ?_)
  intro v2 w2 ho2 hg2 ha2
  have hs2 := hg2.size
  have hsa : (W.alloc (.cells #[] 22)).heap.size = W.heap.size + 1 := World.size_alloc _ _
  have hb2 : Below W.heap.size W w2 := HAL.out.grown hg2 (by omega) (fun k e => (hE1.out.lt k e).1)
  obtain ⟨ao2, c2, rfl⟩ := own_len ho2
  have HE2 := hide (fun (A : Act) => HE.out A w2 ao2 c2 (by simpa using ho2) hb2)
  clear ho2 hg2 ha2 hb2 hsa hs2 HE HAL hE1 hU1 HONE
  go_wp2_with fail
  exact HE2.out _ ⟨rfl, rfl, rfl, rfl, rfl, rfl, HL.out.symm, rfl, rfl, rfl, rfl, rfl⟩ rfl
end Go.Proofs.Ytkohlhnkaklnpaa

/-
  RecordReads: a list is overwritten, and one of its own comes of it.
-/
namespace Go.Proofs.Ytkohlhnkaklnpaa
open Go.RowKit Go.Shelf
attribute [local go_sem] Oper.semAt_some
set_option maxRecDepth 100000
set_option maxHeartbeats 8000000 in
theorem seg22 {w0 W : World} {A : Act} {B n cl : Nat} {al : Option Addr} {vk : Value} {us : List Value} (ho : W.ownsRow B 22 1 (.slice al n cl) n us) (hn6 : n ≤ 1000000) (hB : B ≤ W.heap.size)
    (hs : A.tmps.size = 464) (hd : A.defers = []) (h5 : A.tmps.getD 5 undef = vk) (hl : A.tmps.getD 17 undef = .slice al n cl)
    (hn : ∀ (A' : Act) (w' : World) (v' : Value), Wr w' B W.heap.size v' (n + 64) (n + 64) [102, 105, 114, 115, 116] → (∀ k, v'.ownBlock = some k → (Value.slice al n cl).ownBlock = some k ∨ W.heap.size ≤ k) → Fr W w' (Value.slice al n cl).ownBlock none → Sm (fun k => if k = 29 then v' else A.tmps.getD k undef) A' → A'.tmps.getD 5 undef = vk → Goes 23 w0 A' w') : Goes 22 w0 A W := by
  obtain ⟨s, eA, hsk⟩ := act_open A _ hs hd
  have ef : (fun k => A.tmps.getD k undef) = s := funext hsk
  have ef2 : ∀ v : Value, (fun k => if k = 29 then v else A.tmps.getD k undef) = fun k => if k = 29 then v else s k := fun v => funext fun k => by rw [hsk]
  simp only [ef2] at hn
  rw [hsk] at h5 hl
  rw [eA, h5, hl]
  clear eA hsk ef ef2 h5 hs hd
  have HOU := hide (outer_any B n (.slice al n cl) us [102, 105, 114, 115, 116] W ho (by simp) (by omega) hB)
  have HE := hide hn
  have HL := hide hl
  clear hn hl ho
  unfold Goes
  conv => arg 2; whnf
  refine goes_seq (k := 23) ?_
  go_wp2_with fail
  refine HOU.out.mono ?_
  rintro e w2 ⟨v', rfl, hwr, hvb, hfr⟩
  have HE2 := hide (fun (A : Act) => HE.out A w2 v' hwr hvb hfr)
  clear hwr hvb hfr HE HOU
  go_wp2_with fail
  exact HE2.out _ ⟨rfl, rfl, rfl, rfl, rfl, HL.out.symm, rfl, rfl, rfl, rfl, rfl, rfl⟩ rfl
set_option maxHeartbeats 8000000 in
theorem seg25 {w0 W : World} {A : Act} {B n cl : Nat} {al : Option Addr} {vk : Value} {us : List Value} (ho : W.ownsRow B 22 1 (.slice al n cl) n us) (hn6 : n ≤ 1000000) (hB : B ≤ W.heap.size)
    (hs : A.tmps.size = 464) (hd : A.defers = []) (h5 : A.tmps.getD 5 undef = vk) (hl : A.tmps.getD 19 undef = .slice al n cl)
    (hn : ∀ (A' : Act) (w' : World) (v' : Value), Wr w' B W.heap.size v' (n + 64) (n + 64) [115, 101, 99, 111, 110, 100] → (∀ k, v'.ownBlock = some k → (Value.slice al n cl).ownBlock = some k ∨ W.heap.size ≤ k) → Fr W w' (Value.slice al n cl).ownBlock none → Sm (fun k => if k = 32 then v' else A.tmps.getD k undef) A' → A'.tmps.getD 5 undef = vk → Goes 26 w0 A' w') : Goes 25 w0 A W := by
  obtain ⟨s, eA, hsk⟩ := act_open A _ hs hd
  have ef : (fun k => A.tmps.getD k undef) = s := funext hsk
  have ef2 : ∀ v : Value, (fun k => if k = 32 then v else A.tmps.getD k undef) = fun k => if k = 32 then v else s k := fun v => funext fun k => by rw [hsk]
  simp only [ef2] at hn
  rw [hsk] at h5 hl
  rw [eA, h5, hl]
  clear eA hsk ef ef2 h5 hs hd
  have HOU := hide (outer_any B n (.slice al n cl) us [115, 101, 99, 111, 110, 100] W ho (by simp) (by omega) hB)
  have HE := hide hn
  have HL := hide hl
  clear hn hl ho
  unfold Goes
  conv => arg 2; whnf
  refine goes_seq (k := 26) ?_
  go_wp2_with fail
  refine HOU.out.mono ?_
  rintro e w2 ⟨v', rfl, hwr, hvb, hfr⟩
  have HE2 := hide (fun (A : Act) => HE.out A w2 v' hwr hvb hfr)
  clear hwr hvb hfr HE HOU
  go_wp2_with fail
  exact HE2.out _ ⟨rfl, rfl, rfl, rfl, rfl, rfl, HL.out.symm, rfl, rfl, rfl, rfl, rfl⟩ rfl
end Go.Proofs.Ytkohlhnkaklnpaa

/-
  RecordReads: lists that are held against the document's.
-/
namespace Go.Proofs.Ytkohlhnkaklnpaa
open Go.RowKit Go.Shelf
attribute [local go_sem] Oper.semAt_some
set_option maxRecDepth 100000
set_option maxHeartbeats 8000000 in
theorem seg24 {w0 W : World} {A : Act} {ds : List (List UInt8)} {aB cl : Nat} {al : Option Addr} {vk va : Value} (hn6 : ds.length ≤ 1000000) (hal : Al aB va ds W) (hel : ∀ i (h : i < ds.length), ∃ g u1 u2 u3, al = some ⟨g, 0, none⟩ ∧ W.cell? ⟨g, i, none⟩ = some (.slice u1 u2 u3) ∧ Bs W (.slice u1 u2 u3) ds[i])
    (hs : A.tmps.size = 464) (hd : A.defers = []) (h5 : A.tmps.getD 5 undef = vk) (h24 : A.tmps.getD 24 undef = .pointer (some ⟨aB, 0, none⟩)) (hl : A.tmps.getD 19 undef = .slice al ds.length cl)
    (hn : ∀ (A' : Act) (wr : World), Below W.heap.size W wr → Sm (fun k => A.tmps.getD k undef) A' → A'.tmps.getD 5 undef = vk → Goes 25 w0 A' wr) : Goes 24 w0 A W := by
  obtain ⟨s, eA, hsk⟩ := act_open A _ hs hd
  have ef : (fun k => A.tmps.getD k undef) = s := funext hsk
  rw [ef] at hn
  rw [hsk] at h5 hl h24
  rw [eA, h5, h24, hl]
  clear eA hsk ef h5 hs hd
  obtain ⟨aa, ca, rfl, hca1, hca2⟩ := hal.form
  have cbox := hal.box
  have HEL : Hid (∀ i (h : i < ds.length), (∃ g u1 u2 u3, al = some ⟨g, 0, none⟩ ∧ W.cell? ⟨g, i, none⟩ = some (.slice u1 u2 u3) ∧ Bs W (.slice u1 u2 u3) ds[i]) ∧ (∃ g u1 u2 u3, aa = some ⟨g, 0, none⟩ ∧ W.cell? ⟨g, i, none⟩ = some (.slice u1 u2 u3) ∧ Bs W (.slice u1 u2 u3) ds[i])) := fun i h => ⟨hel i h, hal.at i h⟩
  have HE := hide hn
  have H24 := hide h24
  obtain ⟨n, hnn⟩ : ∃ n, n = ds.length := ⟨_, rfl⟩
  rw [← hnn] at hn6 hca1 hl cbox ⊢
  have HN := hide hnn
  have HL := hide hl
  clear hn hl h24 hal hel hnn
  unfold Goes
  conv => arg 2; whnf
  refine goes_seq (k := 25) ?_
  go_wp2_with fail
  go_loopg [31] n (fun q vc wr => ∃ i : Nat, q = n - i ∧ i ≤ n ∧ vc = .int .i64 (i : Int) ∧ Hid (Below W.heap.size W wr))
  case atStart => exact ⟨0, rfl, by omega, rfl, Below.refl _ _⟩
  case round =>
    obtain ⟨i, hq, hi, rfl, HB⟩ := hrel
    have cbw : wr.cell? ⟨aB, 0, none⟩ = some (.slice aa n ca) := (HB.out.cell (p := ⟨aB, 0, none⟩) (World.block_lt_of_cell? _ _ cbox)).trans cbox
    by_cases hlt : i < n
    · have e1 : (i : Int) < (n : Int) := by omega
      have hid : i < ds.length := by have := HN.out; omega
      obtain ⟨⟨gl, x1, x2, x3, rfl, cx, hx⟩, ⟨ga, t1, t2, t3, rfl, ct, ht⟩⟩ := HEL.out i hid
      obtain ⟨D, hD⟩ : ∃ D, D = ds[i] := ⟨_, rfl⟩
      rw [← hD] at hx ht
      have hbr := HB.out.drew
      have SS : Hid ((wr.drew.cell? ⟨gl, i, none⟩ = some (.slice x1 x2 x3) ∧ wr.drew.cell? ⟨ga, i, none⟩ = some (.slice t1 t2 t3) ∧ wr.drew.cell? ⟨aB, 0, none⟩ = some (.slice (some ⟨ga, 0, none⟩) n ca)) ∧ (convert 22 9 (.slice x1 x2 x3)).run Try.prog wr.drew = .ok (.string ⟨D.toArray⟩) wr.drew ∧ (convert 22 9 (.slice t1 t2 t3)).run Try.prog wr.drew = .ok (.string ⟨D.toArray⟩) wr.drew) :=
        ⟨⟨(hbr.cell (p := ⟨gl, i, none⟩) (World.block_lt_of_cell? W _ cx)).trans cx, (hbr.cell (p := ⟨ga, i, none⟩) (World.block_lt_of_cell? W _ ct)).trans ct, cbw⟩, conv_bs (on_bs hx hbr), conv_bs (on_bs ht hbr)⟩
      have z1 : ((ByteArray.mk (List.toArray D)).toList == (ByteArray.mk (List.toArray D)).toList) = true := by simp
      have HBd := hide hbr
      clear hx ht hD hbr cx ct HEL
      go_wp2_with fail
      go_region_held3 (fun V => (V.cell? ⟨gl, i, none⟩ = some (.slice x1 x2 x3) ∧ V.cell? ⟨ga, i, none⟩ = some (.slice t1 t2 t3) ∧ V.cell? ⟨aB, 0, none⟩ = some (.slice (some ⟨ga, 0, none⟩) n ca)) ∧ (convert 22 9 (.slice x1 x2 x3)).run Try.prog V = .ok (.string ⟨D.toArray⟩) V ∧ (convert 22 9 (.slice t1 t2 t3)).run Try.prog V = .ok (.string ⟨D.toArray⟩) V) (exact SS.out) (fail)
      all_goals
        go_wp2_with fail
        go_roundg (n - (i + 1))
        case measure => omega
        case rel => exact ⟨i + 1, rfl, by omega, by simp, HBd⟩
    · have e1 : ¬ (i : Int) < (n : Int) := by omega
      clear HEL
      go_wp2_with fail
      exact HE.out _ wr HB.out ⟨rfl, rfl, rfl, rfl, rfl, rfl, HL.out.symm, H24.out.symm, rfl, rfl, rfl, rfl⟩ rfl
set_option maxHeartbeats 8000000 in
theorem seg26 {w0 W : World} {A : Act} {ds : List (List UInt8)} {aB cl : Nat} {al : Option Addr} {vk va : Value} (hn6 : ds.length ≤ 1000000) (hal : Al aB va ds W) (hel : ∀ i (h : i < ds.length), ∃ g u1 u2 u3, al = some ⟨g, 0, none⟩ ∧ W.cell? ⟨g, i, none⟩ = some (.slice u1 u2 u3) ∧ Bs W (.slice u1 u2 u3) ds[i])
    (hs : A.tmps.size = 464) (hd : A.defers = []) (h5 : A.tmps.getD 5 undef = vk) (h24 : A.tmps.getD 24 undef = .pointer (some ⟨aB, 0, none⟩)) (hl : A.tmps.getD 28 undef = .slice al ds.length cl)
    (hn : ∀ (A' : Act) (wr : World), Below W.heap.size W wr → Sm (fun k => A.tmps.getD k undef) A' → A'.tmps.getD 5 undef = vk → Goes 27 w0 A' wr) : Goes 26 w0 A W := by
  obtain ⟨s, eA, hsk⟩ := act_open A _ hs hd
  have ef : (fun k => A.tmps.getD k undef) = s := funext hsk
  rw [ef] at hn
  rw [hsk] at h5 hl h24
  rw [eA, h5, h24, hl]
  clear eA hsk ef h5 hs hd
  obtain ⟨aa, ca, rfl, hca1, hca2⟩ := hal.form
  have cbox := hal.box
  have HEL : Hid (∀ i (h : i < ds.length), (∃ g u1 u2 u3, al = some ⟨g, 0, none⟩ ∧ W.cell? ⟨g, i, none⟩ = some (.slice u1 u2 u3) ∧ Bs W (.slice u1 u2 u3) ds[i]) ∧ (∃ g u1 u2 u3, aa = some ⟨g, 0, none⟩ ∧ W.cell? ⟨g, i, none⟩ = some (.slice u1 u2 u3) ∧ Bs W (.slice u1 u2 u3) ds[i])) := fun i h => ⟨hel i h, hal.at i h⟩
  have HE := hide hn
  have H24 := hide h24
  obtain ⟨n, hnn⟩ : ∃ n, n = ds.length := ⟨_, rfl⟩
  rw [← hnn] at hn6 hca1 hl cbox ⊢
  have HN := hide hnn
  have HL := hide hl
  clear hn hl h24 hal hel hnn
  unfold Goes
  conv => arg 2; whnf
  refine goes_seq (k := 27) ?_
  go_wp2_with fail
  go_loopg [33] n (fun q vc wr => ∃ i : Nat, q = n - i ∧ i ≤ n ∧ vc = .int .i64 (i : Int) ∧ Hid (Below W.heap.size W wr))
  case atStart => exact ⟨0, rfl, by omega, rfl, Below.refl _ _⟩
  case round =>
    obtain ⟨i, hq, hi, rfl, HB⟩ := hrel
    have cbw : wr.cell? ⟨aB, 0, none⟩ = some (.slice aa n ca) := (HB.out.cell (p := ⟨aB, 0, none⟩) (World.block_lt_of_cell? _ _ cbox)).trans cbox
    by_cases hlt : i < n
    · have e1 : (i : Int) < (n : Int) := by omega
      have hid : i < ds.length := by have := HN.out; omega
      obtain ⟨⟨gl, x1, x2, x3, rfl, cx, hx⟩, ⟨ga, t1, t2, t3, rfl, ct, ht⟩⟩ := HEL.out i hid
      obtain ⟨D, hD⟩ : ∃ D, D = ds[i] := ⟨_, rfl⟩
      rw [← hD] at hx ht
      have hbr := HB.out.drew
      have SS : Hid ((wr.drew.cell? ⟨gl, i, none⟩ = some (.slice x1 x2 x3) ∧ wr.drew.cell? ⟨ga, i, none⟩ = some (.slice t1 t2 t3) ∧ wr.drew.cell? ⟨aB, 0, none⟩ = some (.slice (some ⟨ga, 0, none⟩) n ca)) ∧ (convert 22 9 (.slice x1 x2 x3)).run Try.prog wr.drew = .ok (.string ⟨D.toArray⟩) wr.drew ∧ (convert 22 9 (.slice t1 t2 t3)).run Try.prog wr.drew = .ok (.string ⟨D.toArray⟩) wr.drew) :=
        ⟨⟨(hbr.cell (p := ⟨gl, i, none⟩) (World.block_lt_of_cell? W _ cx)).trans cx, (hbr.cell (p := ⟨ga, i, none⟩) (World.block_lt_of_cell? W _ ct)).trans ct, cbw⟩, conv_bs (on_bs hx hbr), conv_bs (on_bs ht hbr)⟩
      have z1 : ((ByteArray.mk (List.toArray D)).toList == (ByteArray.mk (List.toArray D)).toList) = true := by simp
      have HBd := hide hbr
      clear hx ht hD hbr cx ct HEL
      go_wp2_with fail
      go_region_held3 (fun V => (V.cell? ⟨gl, i, none⟩ = some (.slice x1 x2 x3) ∧ V.cell? ⟨ga, i, none⟩ = some (.slice t1 t2 t3) ∧ V.cell? ⟨aB, 0, none⟩ = some (.slice (some ⟨ga, 0, none⟩) n ca)) ∧ (convert 22 9 (.slice x1 x2 x3)).run Try.prog V = .ok (.string ⟨D.toArray⟩) V ∧ (convert 22 9 (.slice t1 t2 t3)).run Try.prog V = .ok (.string ⟨D.toArray⟩) V) (exact SS.out) (fail)
      all_goals
        go_wp2_with fail
        go_roundg (n - (i + 1))
        case measure => omega
        case rel => exact ⟨i + 1, rfl, by omega, by simp, HBd⟩
    · have e1 : ¬ (i : Int) < (n : Int) := by omega
      clear HEL
      go_wp2_with fail
      exact HE.out _ wr HB.out ⟨rfl, rfl, rfl, rfl, rfl, rfl, rfl, H24.out.symm, rfl, HL.out.symm, rfl, rfl⟩ rfl
end Go.Proofs.Ytkohlhnkaklnpaa
