import Derived.Test.YtkohlhnkaklnpaaRdX
/-
  RecordReads: lists that are kept, one by one.
-/
namespace Go.Proofs.Ytkohlhnkaklnpaa
open Go.RowKit Go.Shelf
attribute [local go_sem] Oper.semAt_some
set_option maxRecDepth 100000
/-- The slots that are asked for later. -/
def Sm (f : Nat → Value) (A' : Act) : Prop := A'.tmps.size = 464 ∧ A'.defers = [] ∧ A'.tmps.getD 0 undef = f 0 ∧ A'.tmps.getD 3 undef = f 3 ∧ A'.tmps.getD 4 undef = f 4 ∧ A'.tmps.getD 17 undef = f 17 ∧ A'.tmps.getD 19 undef = f 19 ∧ A'.tmps.getD 24 undef = f 24 ∧ A'.tmps.getD 27 undef = f 27 ∧ A'.tmps.getD 28 undef = f 28 ∧ A'.tmps.getD 29 undef = f 29 ∧ A'.tmps.getD 32 undef = f 32
set_option maxHeartbeats 8000000 in
theorem seg27 {w0 wA W : World} {A : Act} {ds : List (List UInt8)} {nk cl : Nat} {al : Option Addr} {vk : Value} {K Z : Nat → Prop} {us : List Value} {R : World → Prop} (hb : Below wA.heap.size wA W) (hk : Kz W wA.heap.size nk K vk) (hnk : nk ≤ 8000000) (hn6 : ds.length ≤ 1000000) (hdl : ∀ d ∈ ds, d.length ≤ 100000000)
    (hp : Pieces W wA.heap.size us ds) (th : Keeps Z W (fun V => V.ownsRow 0 22 1 (.slice al ds.length cl) ds.length us ∧ R V)) (dK : ∀ k, Z k → ¬ K k) (dU : ∀ k, Of us k → ¬ Z k) (dKU : ∀ k, Of us k → ¬ K k)
    (hs : A.tmps.size = 464) (hd : A.defers = []) (h5 : A.tmps.getD 5 undef = vk) (hl : A.tmps.getD 28 undef = .slice al ds.length cl)
    (hn : ∀ (A' : Act) (wr : World) (vk' : Value), Kl W wr wA.heap.size nk K us ds.length vk' → Sm (fun k => A.tmps.getD k undef) A' → A'.tmps.getD 5 undef = vk' → Goes 28 w0 A' wr) : Goes 27 w0 A W := by
  obtain ⟨s, eA, hsk⟩ := act_open A _ hs hd
  have ef : (fun k => A.tmps.getD k undef) = s := funext hsk
  rw [ef] at hn
  rw [hsk] at h5 hl
  rw [eA, h5, hl]
  clear eA hsk ef h5 hs hd
  obtain ⟨hc1, hc2⟩ := own_cap2 ⟨us, th.here.1⟩
  obtain ⟨ak, mk, ck, rfl⟩ := hk.form
  obtain ⟨n, hnn⟩ : ∃ n, n = ds.length := ⟨_, rfl⟩
  have hvl : us.length = ds.length := hp.1
  have dU' : ∀ u ∈ us, ∀ k, u.ownBlock = some k → ¬ Z k := fun u hu k e => dU k ⟨u, hu, e⟩
  have dW : ∀ k, K k → ∀ u ∈ us, u.ownBlock ≠ some k := fun k e u hu e' => dKU k ⟨u, hu, e'⟩ e
  have HE := hide hn
  have H := hide (And.intro hb (And.intro hk (And.intro hdl (And.intro hp (And.intro th (And.intro dK (And.intro dU' dW)))))))
  have HN := hide (And.intro hnn hvl)
  rw [← hnn] at hn6 hc1 hl ⊢
  have HL := hide hl
  clear hb hk hdl hp th dK dU dKU dU' dW hvl hn hl
  unfold Goes
  conv => arg 2; whnf
  refine goes_seq (k := 28) ?_
  go_wp2_with fail
  go_loopg [5, 34] n (fun q v5 vc wr => ∃ i : Nat, q = n - i ∧ i ≤ n ∧ vc = .int .i64 (i : Int) ∧ ∃ a m c, v5 = .slice a m c ∧ Hid (Kl W wr wA.heap.size nk K us i (.slice a m c)))
  case atStart => exact ⟨0, rfl, by omega, rfl, _, _, _, rfl, Kl.start H.out.2.1⟩
  case round =>
    obtain ⟨i, hq, hi, rfl, ak2, mk2, ck2, rfl, HK⟩ := hrel
    obtain ⟨hb, hk, hdl, hp, th, dK, dV, dW⟩ := H.out
    obtain ⟨hnn, hvl⟩ := HN.out
    have tb := (th.mv HK.out.2 (kt_off dK dV)).here
    by_cases hlt : i < n
    · have e1 : (i : Int) < (n : Int) := by omega
      have hiv : i < us.length := by omega
      have hid : i < ds.length := by omega
      have ho := tb.1
      rw [← hnn] at ho
      obtain ⟨gl, rfl, hu, cv⟩ := row_elem ho hlt
      have hpc := pieces_at hp HK.out.2 dW hiv hid
      have step := HK.out.step hp hiv dW hb.size (by omega) hdl
      obtain ⟨x1, x2, x3, ex⟩ := hpc.shape
      rw [ex] at cv step
      have HST := hide step
      clear ho hpc step ex th tb hp dK dV dW hdl hk hb hnn hvl hu
      go_wp2_with fail
      refine HST.out.mono ?_
      rintro e w2 ⟨ak3, mk3, ck3, rfl, hK3⟩
      have HK3 := hide hK3
      clear hK3 HST
      go_wp2_with fail
      go_roundg (n - (i + 1))
      case measure => omega
      case rel => exact ⟨i + 1, rfl, by omega, by simp, _, _, _, rfl, HK3⟩
    · have e1 : ¬ (i : Int) < (n : Int) := by omega
      obtain rfl : i = n := by omega
      rw [hnn] at HK HL
      have HE2 := hide (fun (A : Act) => HE.out A wr _ HK.out)
      clear th tb hp dK dV dW hdl hk hb hnn hvl
      go_wp2_with fail
      exact HE2.out _ ⟨rfl, rfl, rfl, rfl, rfl, rfl, rfl, rfl, rfl, HL.out.symm, rfl, rfl⟩ rfl
set_option maxHeartbeats 8000000 in
theorem seg23 {w0 wA W : World} {A : Act} {ds : List (List UInt8)} {nk cl : Nat} {al : Option Addr} {vk : Value} {K Z : Nat → Prop} {us : List Value} {R : World → Prop} (hb : Below wA.heap.size wA W) (hk : Kz W wA.heap.size nk K vk) (hnk : nk ≤ 8000000) (hn6 : ds.length ≤ 1000000) (hdl : ∀ d ∈ ds, d.length ≤ 100000000)
    (hp : Pieces W wA.heap.size us ds) (th : Keeps Z W (fun V => V.ownsRow 0 22 1 (.slice al ds.length cl) ds.length us ∧ R V)) (dK : ∀ k, Z k → ¬ K k) (dU : ∀ k, Of us k → ¬ Z k) (dKU : ∀ k, Of us k → ¬ K k)
    (hs : A.tmps.size = 464) (hd : A.defers = []) (h5 : A.tmps.getD 5 undef = vk) (hl : A.tmps.getD 27 undef = .slice al ds.length cl)
    (hn : ∀ (A' : Act) (wr : World) (vk' : Value), Kl W wr wA.heap.size nk K us ds.length vk' → Sm (fun k => A.tmps.getD k undef) A' → A'.tmps.getD 5 undef = vk' → Goes 24 w0 A' wr) : Goes 23 w0 A W := by
  obtain ⟨s, eA, hsk⟩ := act_open A _ hs hd
  have ef : (fun k => A.tmps.getD k undef) = s := funext hsk
  rw [ef] at hn
  rw [hsk] at h5 hl
  rw [eA, h5, hl]
  clear eA hsk ef h5 hs hd
  obtain ⟨hc1, hc2⟩ := own_cap2 ⟨us, th.here.1⟩
  obtain ⟨ak, mk, ck, rfl⟩ := hk.form
  obtain ⟨n, hnn⟩ : ∃ n, n = ds.length := ⟨_, rfl⟩
  have hvl : us.length = ds.length := hp.1
  have dU' : ∀ u ∈ us, ∀ k, u.ownBlock = some k → ¬ Z k := fun u hu k e => dU k ⟨u, hu, e⟩
  have dW : ∀ k, K k → ∀ u ∈ us, u.ownBlock ≠ some k := fun k e u hu e' => dKU k ⟨u, hu, e'⟩ e
  have HE := hide hn
  have H := hide (And.intro hb (And.intro hk (And.intro hdl (And.intro hp (And.intro th (And.intro dK (And.intro dU' dW)))))))
  have HN := hide (And.intro hnn hvl)
  rw [← hnn] at hn6 hc1 hl ⊢
  have HL := hide hl
  clear hb hk hdl hp th dK dU dKU dU' dW hvl hn hl
  unfold Goes
  conv => arg 2; whnf
  refine goes_seq (k := 24) ?_
  go_wp2_with fail
  go_loopg [5, 30] n (fun q v5 vc wr => ∃ i : Nat, q = n - i ∧ i ≤ n ∧ vc = .int .i64 (i : Int) ∧ ∃ a m c, v5 = .slice a m c ∧ Hid (Kl W wr wA.heap.size nk K us i (.slice a m c)))
  case atStart => exact ⟨0, rfl, by omega, rfl, _, _, _, rfl, Kl.start H.out.2.1⟩
  case round =>
    obtain ⟨i, hq, hi, rfl, ak2, mk2, ck2, rfl, HK⟩ := hrel
    obtain ⟨hb, hk, hdl, hp, th, dK, dV, dW⟩ := H.out
    obtain ⟨hnn, hvl⟩ := HN.out
    have tb := (th.mv HK.out.2 (kt_off dK dV)).here
    by_cases hlt : i < n
    · have e1 : (i : Int) < (n : Int) := by omega
      have hiv : i < us.length := by omega
      have hid : i < ds.length := by omega
      have ho := tb.1
      rw [← hnn] at ho
      obtain ⟨gl, rfl, hu, cv⟩ := row_elem ho hlt
      have hpc := pieces_at hp HK.out.2 dW hiv hid
      have step := HK.out.step hp hiv dW hb.size (by omega) hdl
      obtain ⟨x1, x2, x3, ex⟩ := hpc.shape
      rw [ex] at cv step
      have HST := hide step
      clear ho hpc step ex th tb hp dK dV dW hdl hk hb hnn hvl hu
      go_wp2_with fail
      refine HST.out.mono ?_
      rintro e w2 ⟨ak3, mk3, ck3, rfl, hK3⟩
      have HK3 := hide hK3
      clear hK3 HST
      go_wp2_with fail
      go_roundg (n - (i + 1))
      case measure => omega
      case rel => exact ⟨i + 1, rfl, by omega, by simp, _, _, _, rfl, HK3⟩
    · have e1 : ¬ (i : Int) < (n : Int) := by omega
      obtain rfl : i = n := by omega
      rw [hnn] at HK HL
      have HE2 := hide (fun (A : Act) => HE.out A wr _ HK.out)
      clear th tb hp dK dV dW hdl hk hb hnn hvl
      go_wp2_with fail
      exact HE2.out _ ⟨rfl, rfl, rfl, rfl, rfl, rfl, rfl, rfl, HL.out.symm, rfl, rfl, rfl⟩ rfl
end Go.Proofs.Ytkohlhnkaklnpaa
