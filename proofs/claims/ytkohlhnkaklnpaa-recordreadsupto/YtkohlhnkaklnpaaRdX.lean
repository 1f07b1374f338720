/-
  RecordReads: what was told the first time is kept.
-/
import Derived.Test.YtkohlhnkaklnpaaRdY
namespace Go.Proofs.Ytkohlhnkaklnpaa
open Go.RowKit Go.Shelf
attribute [local go_sem] Oper.semAt_some
set_option maxRecDepth 100000
/-- Blocks of a list of values. -/
def Of (us : List Value) : Nat → Prop := fun k => ∃ u ∈ us, u.ownBlock = some k
theorem kt_of {K0 : Nat → Prop} {us : List Value} {i : Nat} {k : Nat} (h : Kt K0 us i k) : K0 k ∨ Of us k := by
  rcases h with h | ⟨j, hj, _, e⟩
  · exact .inl h
  · exact .inr ⟨_, List.getElem_mem hj, e⟩
theorem pieces_keep {W : World} {B : Nat} {vs : List Value} {ds : List (List UInt8)} (h : Pieces W B vs ds) : Keeps (Of vs) W (fun V => Pieces V B vs ds) := by
  refine ⟨fun k ⟨u, hu, e⟩ => (h.lt u hu k e).2, fun V _ hv => ⟨h.1, fun i i1 i2 => ⟨(h.2.1 i i1 i2).1.on (fun k e => hv k ⟨_, List.getElem_mem i1, e⟩), (h.2.1 i i1 i2).2⟩, h.2.2⟩⟩
set_option maxHeartbeats 8000000 in
theorem seg38 {w0 wA W : World} {stop : Int} {A : Act} {vk va l0 l1 : Value} {nk D0 D1 aB tB : Nat} {K Z : Nat → Prop} {us vs : List Value} {ds ds0 : List (List UInt8)} (hst : St w0 wA stop) (hb : Below wA.heap.size wA W) (hk : Kz W wA.heap.size nk K vk) (hnk : nk ≤ 8000000)
    (hn6 : ds.length ≤ 1000000) (hdl : ∀ d ∈ ds, d.length ≤ 100000000) (hdl0 : ∀ d ∈ ds0, d.length ≤ 100000000) (hn0 : ds0.length ≤ 1000000) (hp : Pieces W wA.heap.size vs ds) (hp0 : Pieces W wA.heap.size us ds0) (th : Keeps Z W (Tl aB tB D0 D1 va l0 l1 us vs ds0.length ds))
    (dK : ∀ k, Z k → ¬ K k) (dU : ∀ k, Of us k → ¬ Z k) (dV : ∀ k, Of vs k → ¬ Z k) (dKU : ∀ k, Of us k → ¬ K k) (dKV : ∀ k, Of vs k → ¬ K k) (dUV : ∀ k, Of vs k → ¬ Of us k)
    (hD : D0 ≠ D1) (g0 : wA.heap.size ≤ D0) (g1 : wA.heap.size ≤ D1)
    (hs : A.tmps.size = 464) (hd : A.defers = [mark D1, mark D0]) (h4 : A.tmps.getD 4 undef = .pointer (some ⟨w0.heap.size + 1, 0, none⟩)) (h5 : A.tmps.getD 5 undef = vk) (h24 : A.tmps.getD 24 undef = .pointer (some ⟨aB, 0, none⟩)) (h41 : A.tmps.getD 41 undef = .pointer (some ⟨tB, 0, none⟩)) :
    Goes 38 w0 A W := by
  obtain ⟨s, eA, hsk⟩ := act_open A _ hs hd
  rw [hsk] at h4 h5 h24 h41
  rw [eA, h4, h5, h24, h41]
  clear eA hsk h4 h5 h24 h41 hs hd
  obtain ⟨a0, c0, rfl⟩ := own_len th.here.2.1
  obtain ⟨hc1, hc2⟩ := own_cap2 ⟨us, th.here.2.1⟩
  obtain ⟨ak, mk, ck, rfl⟩ := hk.form
  obtain ⟨n, hn⟩ : ∃ n, n = ds0.length := ⟨_, rfl⟩
  have hvl : us.length = ds0.length := hp0.1
  have dU' : ∀ u ∈ us, ∀ k, u.ownBlock = some k → ¬ Z k := fun u hu k e => dU k ⟨u, hu, e⟩
  have dW : ∀ k, K k → ∀ u ∈ us, u.ownBlock ≠ some k := fun k e u hu e' => dKU k ⟨u, hu, e'⟩ e
  have HE : Hid (∀ (A : Act) (wr : World) (vk' : Value), Kl W wr wA.heap.size nk K us ds0.length vk' → A.tmps.size = 464 → A.defers = [mark D1, mark D0] → A.tmps.getD 4 undef = .pointer (some ⟨w0.heap.size + 1, 0, none⟩) → A.tmps.getD 5 undef = vk' → A.tmps.getD 24 undef = .pointer (some ⟨aB, 0, none⟩) → A.tmps.getD 41 undef = .pointer (some ⟨tB, 0, none⟩) → Goes 39 w0 A wr) := by
    intro A wr vk' hkl
    have hz := th.1
    have hv := (pieces_keep hp).mv hkl.2 (fun k e e' => by
      rcases kt_of e' with h | h
      · exact dKV k e h
      · exact dUV k e h)
    refine seg39 hst (hkl.down hb (fun k e => (hk.lt k e).1) hp0) hkl.1 (by omega) hn6 hdl hv.here (th.mv hkl.2 (kt_off dK dU')) (fun k e e' => ?_) (fun u hu k e => dV k ⟨u, hu, e⟩) (fun k e u hu e' => ?_) hD g0 g1
    · rcases e' with e' | e'
      · exact kt_off dK dU' k e e'
      · have := hz k e
        omega
    · rcases e with e | e
      · rcases kt_of e with h | h
        · exact dKV k ⟨u, hu, e'⟩ h
        · exact dUV k ⟨u, hu, e'⟩ h
      · have := (hp.lt u hu k e').2
        omega
  have H := hide (And.intro hb (And.intro hk (And.intro hdl0 (And.intro hp0 (And.intro th (And.intro dK (And.intro dU' dW)))))))
  have HN := hide (And.intro hn hvl)
  rw [← hn] at hn0 hc1
  clear hst hb hk hdl hdl0 hp hp0 th dK dU dV dKU dKV dUV dU' dW hD g0 g1 hvl hn6
  unfold Goes
  conv => arg 2; whnf
  refine goes_seq (k := 39) ?_
  go_wp2_with fail
  go_loopg [5, 49] n (fun q v5 v49 wr => ∃ i : Nat, q = n - i ∧ i ≤ n ∧ v49 = .int .i64 (i : Int) ∧ ∃ a m c, v5 = .slice a m c ∧ Hid (Kl W wr wA.heap.size nk K us i (.slice a m c)))
  case atStart => exact ⟨0, rfl, by omega, rfl, _, _, _, rfl, Kl.start H.out.2.1⟩
  case round =>
    obtain ⟨i, hq, hi, rfl, ak2, mk2, ck2, rfl, HK⟩ := hrel
    obtain ⟨hb, hk, hdl, hp, th, dK, dV, dW⟩ := H.out
    obtain ⟨hn, hvl⟩ := HN.out
    have th2 := th.mv HK.out.2 (kt_off dK dV)
    have tb := th2.here
    have ct : wr.cell? ⟨tB, 0, none⟩ = some (.slice a0 n c0) := by
      rw [hn]
      exact (cell_of_row _ _ 0 _ 56 (0, 0) tb.1).trans rfl
    by_cases hlt : i < n
    · have e1 : (i : Int) < (n : Int) := by omega
      have hiv : i < us.length := by omega
      have hid : i < ds0.length := by omega
      have ho := tb.2.1
      rw [← hn] at ho
      obtain ⟨gl, rfl, hu, cv⟩ := row_elem ho hlt
      have hpc := pieces_at hp HK.out.2 dW hiv hid
      have step := HK.out.step hp hiv dW hb.size (by omega) hdl
      obtain ⟨x1, x2, x3, ex⟩ := hpc.shape
      rw [ex] at cv step
      have HST := hide step
      clear ho hpc step ex th th2 tb hp dK dV dW hdl hk hb hn hvl hu
      go_wp2_with fail
      refine HST.out.mono ?_
      rintro e w2 ⟨ak3, mk3, ck3, rfl, hK3⟩
      have HK3 := hide hK3
      clear hK3 HST
      go_wp2_with fail
      go_roundg (n - (i + 1))
      case measure => omega
      case rel => exact ⟨i + 1, rfl, by omega, by simp, _, _, _, rfl, HK3⟩
    · have e1 : ¬ (i : Int) < (n : Int) := by omega
      obtain rfl : i = n := by omega
      rw [hn] at HK
      have HE2 := hide (fun (A : Act) => HE.out A wr _ HK.out)
      clear th th2 tb hp dK dV dW hdl hk hb hn hvl
      go_wp2_with fail
      exact HE2.out _ rfl rfl rfl rfl rfl rfl
end Go.Proofs.Ytkohlhnkaklnpaa
