import Derived.Test.YtkohlhnkaklnpaaRdC
import Derived.Test.YtkohlhnkaklnpaaRdN
/-
  RecordReads: from statement 19 on.
-/
namespace Go.Proofs.Ytkohlhnkaklnpaa
open Go.RowKit Go.Shelf
theorem mid19b {w0 wA W : World} {stop : Int} {A : Act} {b : List UInt8} {ds : List (List UInt8)} {aB KK nk c c17 c19 : Nat} {ao a17 a19 : Option Addr} {va vk : Value} {K Za : Nat → Prop} {us ts : List Value} {p1 p2 p3 q : Nat}
    (hst : St w0 wA stop) (hb : Below wA.heap.size wA W) (hk : Kz W wA.heap.size nk K vk) (hnk : nk ≤ 1000) (hTT : Rc.Told b ds KK) (hT0 : (Rc.get (b.drop KK)).2 = 0) (hbl : b.length ≤ 1048576) (hv : Bs w0 (.slice ao b.length c) b) (hn6 : ds.length ≤ 1000000) (hdl : ∀ d ∈ ds, d.length ≤ 100000000)
    (hal : Keeps Za W (Al aB va ds)) (hpU : Pieces W wA.heap.size us ds) (hpT : Pieces W wA.heap.size ts ds)
    (h17o : W.ownsRow wA.heap.size 22 1 (.slice a17 ds.length c17) ds.length us) (h19o : W.ownsRow wA.heap.size 22 1 (.slice a19 ds.length c19) ds.length ts)
    (e1 : p1 ≤ p2) (e2 : p2 ≤ p3) (e3 : p3 ≤ q) (e4 : q ≤ W.heap.size)
    (bK : ∀ k, K k → k < p1) (bU : ∀ k, Of us k → p1 ≤ k ∧ k < p2) (b17 : ∀ k, (Value.slice a17 ds.length c17).ownBlock = some k → p1 ≤ k ∧ k < p2) (bT : ∀ k, Of ts k → p2 ≤ k ∧ k < p3) (b19 : ∀ k, (Value.slice a19 ds.length c19).ownBlock = some k → p2 ≤ k ∧ k < p3) (ba : ∀ k, Za k → p3 ≤ k ∧ k < q)
    (aU : ∀ k, Of us k → (Value.slice a17 ds.length c17).ownBlock ≠ some k) (aT : ∀ k, Of ts k → (Value.slice a19 ds.length c19).ownBlock ≠ some k)
    (hs : A.tmps.size = 464) (hd : A.defers = []) (h0 : A.tmps.getD 0 undef = .slice ao b.length c) (h3 : A.tmps.getD 3 undef = .pointer (some ⟨w0.heap.size, 0, none⟩)) (h4 : A.tmps.getD 4 undef = .pointer (some ⟨w0.heap.size + 1, 0, none⟩)) (h5 : A.tmps.getD 5 undef = vk) (h26 : A.tmps.getD 26 undef = .int .i64 0) (h24 : A.tmps.getD 24 undef = .pointer (some ⟨aB, 0, none⟩)) (h17 : A.tmps.getD 17 undef = .slice a17 ds.length c17) (h19 : A.tmps.getD 19 undef = .slice a19 ds.length c19) : Code.wp Try.prog blk19 (Exit.then (Goes 20 w0) (QR w0)) A W := by
  refine seg19b hn6 hal.here (fun i h => ⟨row_piece h17o hpU i h, row_piece h19o hpT i h⟩) (own_cap2 ⟨_, h17o⟩) (own_cap2 ⟨_, h19o⟩) hs hd h5 h26 h24 h17 h19 ?_
  intro A1 w1 hb1 hsm h51
  obtain ⟨g1, g2, g0, g3, g4, g17, g19, g24, g27, g28, g29, g32⟩ := hsm
  have g0 := g0.trans h0
  have g3 := g3.trans h3
  have g4 := g4.trans h4
  have g17 := g17.trans h17
  have g19 := g19.trans h19
  have g24 := g24.trans h24
  have hs1 := hb1.size
  have hbb1 := hb.trans (hb1.mono hb.size)
  have hal1 := hal.later hb1
  have kU1 := (pieces_keep hpU).later hb1
  have kT1 := (pieces_keep hpT).later hb1
  have k171 := (own_keep h17o).later hb1
  have k191 := (own_keep h19o).later hb1
  have hk1 := hk.later hb1
  clear hb hal hpU hpT h17o h19o hk h0 h3 h4 h17 h19 h24 h26 hs hd h5
  refine seg20 k171.here kU1.here hn6 hbb1.size g1 g2 h51 g17 ?_
  intro A2 w2 a27 c27 h27o hb2 hsm h52
  obtain ⟨f1, f2, f0, f3, f4, f17, f19, f24, f27, f28, f29, f32⟩ := hsm
  have f0 := f0.trans g0
  have f3 := f3.trans g3
  have f4 := f4.trans g4
  have f17 := f17.trans g17
  have f19 := f19.trans g19
  have f24 := f24.trans g24
  have f27 : A2.tmps.getD 27 undef = .slice a27 ds.length c27 := f27
  have hs2 := hb2.size
  have hbb2 := hbb1.trans (hb2.mono hbb1.size)
  have hal2 := hal1.later hb2
  have kU2 := kU1.later hb2
  have kT2 := kT1.later hb2
  have k172 := k171.later hb2
  have k192 := k191.later hb2
  have hk2 := hk1.later hb2
  have k272 := own_keep h27o
  have b27 : ∀ k, (Value.slice a27 ds.length c27).ownBlock = some k → q ≤ k := fun k e => by have := (h27o.lt k e).1; omega
  clear g0 g3 g4 g17 g19 g24 hbb1 hal1 kU1 kT1 k171 k191 hk1 h27o
  refine seg21 k192.here kT2.here hn6 hbb2.size f1 f2 h52 f19 ?_
  intro A3 w3 a28 c28 h28o hb3 hsm h53
  obtain ⟨g1, g2, g0, g3, g4, g17, g19, g24, g27, g28, g29, g32⟩ := hsm
  have g0 := g0.trans f0
  have g3 := g3.trans f3
  have g4 := g4.trans f4
  have g17 := g17.trans f17
  have g19 := g19.trans f19
  have g24 := g24.trans f24
  have g27 := g27.trans f27
  have g28 : A3.tmps.getD 28 undef = .slice a28 ds.length c28 := g28
  have hs3 := hb3.size
  have hbb3 := hbb2.trans (hb3.mono hbb2.size)
  have hal3 := hal2.later hb3
  have kU3 := kU2.later hb3
  have kT3 := kT2.later hb3
  have k173 := k172.later hb3
  have k193 := k192.later hb3
  have hk3 := hk2.later hb3
  have k273 := k272.later hb3
  have k283 := own_keep h28o
  have b28 : ∀ k, (Value.slice a28 ds.length c28).ownBlock = some k → q ≤ k := fun k e => by have := (h28o.lt k e).1; omega
  clear f0 f3 f4 f17 f19 f24 f27 hbb2 hal2 kU2 kT2 k172 k192 hk2 h28o k272
  refine seg22 k173.here hn6 hbb3.size g1 g2 h53 g17 ?_
  intro A4 w4 v29 hwr hvb hfr hsm h54
  obtain ⟨f1, f2, f0, f3, f4, f17, f19, f24, f27, f28, f29, f32⟩ := hsm
  have f0 := f0.trans g0
  have f3 := f3.trans g3
  have f4 := f4.trans g4
  have f19 := f19.trans g19
  have f24 := f24.trans g24
  have f27 := f27.trans g27
  have f28 := f28.trans g28
  have f29 : A4.tmps.getD 29 undef = v29 := f29
  have hs4 := hfr.2.2.2.1
  have hm := hfr.mv
  have off : ∀ k, ¬ (p1 ≤ k ∧ k < p2) ∨ (Value.slice a17 ds.length c17).ownBlock ≠ some k → ¬ ((Value.slice a17 ds.length c17).ownBlock = some k ∨ none = some k) := fun k h e => by
    rcases e with e | e
    · rcases h with h | h
      · exact h (b17 k e)
      · exact h e
    · cases e
  have hbb4 := hbb3.trans (hm.below hbb3.size (fun k e => by
    rcases e with e | e
    · exact (k173.here.lt k e).1
    · cases e))
  have hal4 := hal3.mv hm (fun k e => off k (.inl (by have := ba k e; omega)))
  have kU4 := kU3.mv hm (fun k e => off k (.inr (aU k e)))
  have kT4 := kT3.mv hm (fun k e => off k (.inl (by have := bT k e; omega)))
  have k194 := k193.mv hm (fun k e => off k (.inl (by have := b19 k e; omega)))
  have k274 := k273.mv hm (fun k e => off k (.inl (by have := b27 k e; omega)))
  have k284 := k283.mv hm (fun k e => off k (.inl (by have := b28 k e; omega)))
  have hk4 := hk3.mv hm (fun k e => off k (.inl (by have := bK k e; omega)))
  refine mid23 hst hbb4 hk4 hnk hTT hT0 hbl hv hn6 hdl hal4 kU4.here kT4.here (k274.imp (fun V h => own_low h (Nat.zero_le _))) (k284.imp (fun V h => own_low h (Nat.zero_le _))) k194.here (wr_keep hwr) e1 e2 e3 (by omega) bK bU bT b19 ba b27 b28 (fun k e => ?_) aT f1 f2 f0 f3 f4 h54 f24 f19 f27 f28 f29
  rcases e with e | e
  · rcases hvb k e with h | h
    · exact .inl ⟨(b17 k h).1, (b17 k h).2, fun h' => aU k h' h⟩
    · exact .inr (by omega)
  · exact .inr (by omega)
end Go.Proofs.Ytkohlhnkaklnpaa
