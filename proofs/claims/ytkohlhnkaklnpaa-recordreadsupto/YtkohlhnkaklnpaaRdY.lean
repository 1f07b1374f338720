/-
  RecordReads: what was told the second time is held against the document's, and kept.
-/
import Derived.Test.YtkohlhnkaklnpaaRdZ
namespace Go.Proofs.Ytkohlhnkaklnpaa
open Go.RowKit Go.Shelf
attribute [local go_sem] Oper.semAt_some
set_option maxRecDepth 100000
/-- Two lists of what was told, in their box; the list of all; the marks. -/
def Tl (aB tB D0 D1 : Nat) (va l0 l1 : Value) (us vs : List Value) (n0 : Nat) (ds : List (List UInt8)) (V : World) : Prop :=
  V.heap[tB]? = some (.cells #[l0, l1] 56 (0, 0)) ∧ V.ownsRow 0 22 1 l0 n0 us ∧ V.ownsRow 0 22 1 l1 ds.length vs ∧ Al aB va ds V ∧ V.heap[D0]? = some (.deferred (some [])) ∧ V.heap[D1]? = some (.deferred (some []))
theorem pieces_at {W W' : World} {B i : Nat} {us : List Value} {ds : List (List UInt8)} {K0 : Nat → Prop} (hp : Pieces W B us ds) (hm : Mv W W' (Kt K0 us i)) (hK : ∀ k, K0 k → ∀ u ∈ us, u.ownBlock ≠ some k) (hi : i < us.length) (hid : i < ds.length) : Piece W' B us[i] ds[i] := by
  have hpi := (hp.2.1 i hi hid).1
  refine hpi.on (fun k e => hm.2.2.2.2 k (hpi.block k e).2 (fun e' => ?_))
  rcases e' with e' | ⟨j, hj, hji, e'⟩
  · exact hK k e' _ (List.getElem_mem hi) e
  · exact hp.2.2 j i hj hi (by omega) k e' e
theorem kt_off {K0 Z : Nat → Prop} {us : List Value} {i : Nat} (h1 : ∀ k, Z k → ¬ K0 k) (h2 : ∀ u ∈ us, ∀ k, u.ownBlock = some k → ¬ Z k) : ∀ k, Z k → ¬ Kt K0 us i k := fun k hz e => by
  rcases e with e | ⟨j, hj, _, e⟩
  · exact h1 k hz e
  · exact h2 _ (List.getElem_mem hj) k e hz
theorem Kl.later {w0 wr w' : World} {B nk i : Nat} {K0 : Nat → Prop} {us : List Value} {vk : Value} (h : Kl w0 wr B nk K0 us i vk) (hB : B ≤ w0.heap.size) (hb : Below wr.heap.size wr w') : Kl w0 w' B nk K0 us i vk := by
  have hs := hb.size
  refine ⟨(h.1.later hb).wider (Nat.le_refl _) (fun k e => ?_) (fun k e => ?_), h.2.later hb⟩
  · rcases e with e | e
    · exact .inl e
    · exact .inr ⟨e.1, by omega⟩
  · rcases e with e | e
    · have := h.1.lt k (.inl e)
      exact ⟨this.1, by omega⟩
    · exact ⟨Nat.le_trans hB e.1, e.2⟩
theorem Kl.down {w0 wr wA : World} {nk i : Nat} {K0 : Nat → Prop} {us : List Value} {ds : List (List UInt8)} {vk : Value} (h : Kl w0 wr wA.heap.size nk K0 us i vk) (hb : Below wA.heap.size wA w0) (hK : ∀ k, K0 k → wA.heap.size ≤ k) (hp : Pieces w0 wA.heap.size us ds) : Below wA.heap.size wA wr := by
  refine hb.trans (h.2.below hb.size (fun k e => ?_))
  rcases e with e | ⟨j, hj, _, e⟩
  · exact hK k e
  · exact ((hp.2.1 j hj (by rw [← hp.1]; exact hj)).1.block k e).1
set_option maxHeartbeats 8000000 in
theorem seg39 {w0 wA W : World} {stop : Int} {A : Act} {vk va l0 l1 : Value} {nk n0 D0 D1 aB tB : Nat} {K Z : Nat → Prop} {us vs : List Value} {ds : List (List UInt8)} (hst : St w0 wA stop) (hb : Below wA.heap.size wA W) (hk : Kz W wA.heap.size nk K vk) (hnk : nk ≤ 10000000)
    (hn6 : ds.length ≤ 1000000) (hdl : ∀ d ∈ ds, d.length ≤ 100000000) (hp : Pieces W wA.heap.size vs ds) (th : Keeps Z W (Tl aB tB D0 D1 va l0 l1 us vs n0 ds)) (dK : ∀ k, Z k → ¬ K k) (dV : ∀ u ∈ vs, ∀ k, u.ownBlock = some k → ¬ Z k) (dW : ∀ k, K k → ∀ u ∈ vs, u.ownBlock ≠ some k)
    (hD : D0 ≠ D1) (g0 : wA.heap.size ≤ D0) (g1 : wA.heap.size ≤ D1)
    (hs : A.tmps.size = 464) (hd : A.defers = [mark D1, mark D0]) (h4 : A.tmps.getD 4 undef = .pointer (some ⟨w0.heap.size + 1, 0, none⟩)) (h5 : A.tmps.getD 5 undef = vk) (h24 : A.tmps.getD 24 undef = .pointer (some ⟨aB, 0, none⟩)) (h41 : A.tmps.getD 41 undef = .pointer (some ⟨tB, 0, none⟩)) :
    Goes 39 w0 A W := by
  obtain ⟨s, eA, hsk⟩ := act_open A _ hs hd
  rw [hsk] at h4 h5 h24 h41
  rw [eA, h4, h5, h24, h41]
  clear eA hsk h4 h5 h24 h41 hs hd
  obtain ⟨aa, ca, rfl, hca1, hca2⟩ := th.here.2.2.2.1.form
  obtain ⟨a1, c1, rfl⟩ := own_len th.here.2.2.1
  obtain ⟨hc1, hc2⟩ := own_cap2 ⟨vs, th.here.2.2.1⟩
  obtain ⟨ak, mk, ck, rfl⟩ := hk.form
  obtain ⟨n, hn⟩ : ∃ n, n = ds.length := ⟨_, rfl⟩
  have hvl : vs.length = ds.length := hp.1
  have H := hide (And.intro hst (And.intro hb (And.intro hk (And.intro hdl (And.intro hp (And.intro th (And.intro dK (And.intro dV (And.intro dW (And.intro hD (And.intro g0 g1)))))))))))
  have HN := hide (And.intro hn hvl)
  rw [← hn] at hn6 hca1 hc1
  clear hst hb hk hdl hp th dK dV dW hD g0 g1 hvl
  unfold Goes
  conv => arg 2; whnf
  refine goes_seq (k := 40) ?_
  go_wp2_with fail
  go_loopg [5, 50] n (fun q v5 v50 wr => ∃ i : Nat, q = n - i ∧ i ≤ n ∧ v50 = .int .i64 (i : Int) ∧ ∃ a m c, v5 = .slice a m c ∧ Hid (Kl W wr wA.heap.size nk K vs i (.slice a m c)))
  case atStart => exact ⟨0, rfl, by omega, rfl, _, _, _, rfl, Kl.start H.out.2.2.1⟩
  case round =>
    obtain ⟨i, hq, hi, rfl, ak2, mk2, ck2, rfl, HK⟩ := hrel
    obtain ⟨hst, hb, hk, hdl, hp, th, dK, dV, dW, hD, g0, g1⟩ := H.out
    obtain ⟨hn, hvl⟩ := HN.out
    have th2 := th.mv HK.out.2 (kt_off dK dV)
    have tb := th2.here
    have ct : wr.cell? ⟨tB, 1, none⟩ = some (.slice a1 n c1) := by
      rw [hn]
      exact (cell_of_row _ _ 1 _ 56 (0, 0) tb.1).trans rfl
    by_cases hlt : i < n
    · have e1 : (i : Int) < (n : Int) := by omega
      have hiv : i < vs.length := by omega
      have hid : i < ds.length := by omega
      have ho := tb.2.2.1
      rw [← hn] at ho
      obtain ⟨gl, rfl, hu, cv⟩ := row_elem ho hlt
      obtain ⟨ga, t1, t2, t3, rfl, cta, bta⟩ := tb.2.2.2.1.at i hid
      have cbox := tb.2.2.2.1.box
      rw [← hn] at cbox
      have hpc := pieces_at hp HK.out.2 dW hiv hid
      have step := (HK.out.later hb.size (Below.refl wr.heap.size wr).drew).step hp hiv dW hb.size (by omega) hdl
      obtain ⟨x1, x2, x3, ex⟩ := hpc.shape
      rw [ex] at cv hpc step
      have bx := hpc.bs
      obtain ⟨D, hDD⟩ : ∃ D, D = ds[i] := ⟨_, rfl⟩
      rw [← hDD] at bx bta
      have hbr := (Below.refl wr.heap.size wr).drew
      have SS : Hid (((wr.drew.cell? ⟨tB, 1, none⟩ = some (.slice (some ⟨gl, 0, none⟩) n c1) ∧ wr.drew.cell? ⟨gl, i, none⟩ = some (.slice x1 x2 x3)) ∧ wr.drew.cell? ⟨ga, i, none⟩ = some (.slice t1 t2 t3) ∧ wr.drew.cell? ⟨aB, 0, none⟩ = some (.slice (some ⟨ga, 0, none⟩) n ca)) ∧ (convert 22 9 (.slice x1 x2 x3)).run Try.prog wr.drew = .ok (.string ⟨D.toArray⟩) wr.drew ∧ (convert 22 9 (.slice t1 t2 t3)).run Try.prog wr.drew = .ok (.string ⟨D.toArray⟩) wr.drew) :=
        ⟨⟨⟨ct, cv⟩, cta, cbox⟩, conv_bs (on_bs bx hbr), conv_bs (on_bs bta hbr)⟩
      have z1 : ((ByteArray.mk (List.toArray D)).toList == (ByteArray.mk (List.toArray D)).toList) = true := by simp
      have HST := hide step
      have ct2 : wr.drew.cell? ⟨tB, 1, none⟩ = some (.slice (some ⟨gl, 0, none⟩) n c1) := ct
      have cv2 : wr.drew.cell? ⟨gl, i, none⟩ = some (.slice x1 x2 x3) := cv
      clear ho bx bta hDD hbr cta cbox hpc step ex th th2 tb hp dK dV dW hdl hk hb hst hD g0 g1 hn hvl hu
      go_wp2_with fail
      go_region_held3 (fun W => ((W.cell? ⟨tB, 1, none⟩ = some (.slice (some ⟨gl, 0, none⟩) n c1) ∧ W.cell? ⟨gl, i, none⟩ = some (.slice x1 x2 x3)) ∧ W.cell? ⟨ga, i, none⟩ = some (.slice t1 t2 t3) ∧ W.cell? ⟨aB, 0, none⟩ = some (.slice (some ⟨ga, 0, none⟩) n ca)) ∧ (convert 22 9 (.slice x1 x2 x3)).run Try.prog W = .ok (.string ⟨D.toArray⟩) W ∧ (convert 22 9 (.slice t1 t2 t3)).run Try.prog W = .ok (.string ⟨D.toArray⟩) W) (exact SS.out) (fail)
      all_goals
        go_wp2_with fail
        refine HST.out.mono ?_
        rintro e w2 ⟨ak3, mk3, ck3, rfl, hK3⟩
        have HK3 := hide hK3
        clear hK3 HST SS
        go_wp2_with fail
        go_roundg (n - (i + 1))
        case measure => omega
        case rel => exact ⟨i + 1, rfl, by omega, by simp, _, _, _, rfl, HK3⟩
    · have e1 : ¬ (i : Int) < (n : Int) := by omega
      obtain rfl : i = n := by omega
      have hbr := HK.out.down hb (fun k e => (hk.lt k e).1) hp
      have hkk := HK.out.1
      have HE := hide (fun (A : Act) => seg40 (A := A) hst hbr hkk tb.2.2.2.2.1 tb.2.2.2.2.2 hD g0 g1)
      clear th th2 tb hp dK dV dW hdl hk hb hst hD g0 g1 hn hvl hbr hkk
      go_wp2_with fail
      exact HE.out _ rfl rfl rfl rfl
end Go.Proofs.Ytkohlhnkaklnpaa
