import Derived.Test.YtkohlhnkaklnpaaRm1
import Derived.Test.YtkohlhnkaklnpaaRm3
import Derived.Test.YtkohlhnkaklnpaaBulk
import Derived.Test.YtkohlhnkaklnpaaShown
/-
  RecordReads: from statement 23 on.
-/
namespace Go.Proofs.Ytkohlhnkaklnpaa
open Go.RowKit Go.Shelf
theorem own_keep {W : World} {B e s n : Nat} {v : Value} {us : List Value} (h : W.ownsRow B e s v n us) : Keeps (fun k => v.ownBlock = some k) W (fun V => V.ownsRow B e s v n us) := ⟨fun k e => (h.lt k e).2, fun _ _ hv => own_on h hv⟩
theorem wr_keep {W : World} {B M n : Nat} {v : Value} {T : List UInt8} (h : Wr W B M v n n T) : Keeps (fun k => v.ownBlock = some k ∨ (M ≤ k ∧ k < W.heap.size)) W (fun V => Wr V B M v n n T) := by
  obtain ⟨us, h1, h2⟩ := h
  refine ⟨fun k e => e.elim (fun e => (h1.lt k e).2) (fun e => e.2), fun V hs hv => ⟨us, own_on h1 (fun k e => hv k (.inl e)), fun i hi hn => ⟨⟨(h2 i hi hn).1.1.kept (fun k e _ => hv k (.inr ((h2 i hi hn).1.2 k e))), fun k e => ⟨((h2 i hi hn).1.2 k e).1, Nat.lt_of_lt_of_le ((h2 i hi hn).1.2 k e).2 hs⟩⟩, (h2 i hi hn).2⟩⟩⟩
theorem row_piece {w : World} {B B' : Nat} {ao : Option Addr} {c : Nat} {us : List Value} {ds : List (List UInt8)} (h1 : w.ownsRow B 22 1 (.slice ao ds.length c) ds.length us) (h2 : Pieces w B' us ds) (i : Nat) (hi : i < ds.length) : ∃ g u1 u2 u3, ao = some ⟨g, 0, none⟩ ∧ w.cell? ⟨g, i, none⟩ = some (Value.slice u1 u2 u3) ∧ Bs w (Value.slice u1 u2 u3) (ds[i]'hi) := by
  obtain ⟨g, e, hu, hc⟩ := row_elem h1 hi
  have hp := (h2.2.1 i hu hi).1
  obtain ⟨u1, u2, u3, eu⟩ := hp.shape
  rw [eu] at hc hp
  exact ⟨g, u1, u2, u3, e, hc, hp.bs⟩
theorem mid23 {w0 wA W : World} {stop : Int} {A : Act} {b : List UInt8} {ds : List (List UInt8)} {aB KK nk c c27 c28 c19 : Nat} {ao a27 a28 a19 : Option Addr} {va vk : Value} {K Za Z27 Z28 Z29 : Nat → Prop} {us ts : List Value} {b1 m1 n1 p1 p2 p3 q : Nat} {v29 : Value}
    (hst : St w0 wA stop) (hb : Below wA.heap.size wA W) (hk : Kz W wA.heap.size nk K vk) (hnk : nk ≤ 1000) (hTT : Rc.Told b ds KK) (hT0 : (Rc.get (b.drop KK)).2 = 0) (hbl : b.length ≤ 1048576) (hv : Bs w0 (.slice ao b.length c) b) (hn6 : ds.length ≤ 1000000) (hdl : ∀ d ∈ ds, d.length ≤ 100000000)
    (hal : Keeps Za W (Al aB va ds)) (hpU : Pieces W wA.heap.size us ds) (hpT : Pieces W wA.heap.size ts ds) (k27 : Keeps Z27 W (fun V => V.ownsRow 0 22 1 (.slice a27 ds.length c27) ds.length us)) (k28 : Keeps Z28 W (fun V => V.ownsRow 0 22 1 (.slice a28 ds.length c28) ds.length ts))
    (h19o : W.ownsRow wA.heap.size 22 1 (.slice a19 ds.length c19) ds.length ts) (hw1 : Keeps Z29 W (fun V => Wr V b1 m1 v29 n1 n1 [102, 105, 114, 115, 116]))
    (e1 : p1 ≤ p2) (e2 : p2 ≤ p3) (e3 : p3 ≤ q) (e4 : q ≤ W.heap.size)
    (bK : ∀ k, K k → k < p1) (bU : ∀ k, Of us k → p1 ≤ k ∧ k < p2) (bT : ∀ k, Of ts k → p2 ≤ k ∧ k < p3) (b19 : ∀ k, (Value.slice a19 ds.length c19).ownBlock = some k → p2 ≤ k ∧ k < p3) (ba : ∀ k, Za k → p3 ≤ k ∧ k < q) (b27 : ∀ k, Z27 k → q ≤ k) (b28 : ∀ k, Z28 k → q ≤ k)
    (b29 : ∀ k, Z29 k → (p1 ≤ k ∧ k < p2 ∧ ¬ Of us k) ∨ q ≤ k) (aT : ∀ k, Of ts k → (Value.slice a19 ds.length c19).ownBlock ≠ some k)
    (hs : A.tmps.size = 464) (hd : A.defers = []) (h0 : A.tmps.getD 0 undef = .slice ao b.length c) (h3 : A.tmps.getD 3 undef = .pointer (some ⟨w0.heap.size, 0, none⟩)) (h4 : A.tmps.getD 4 undef = .pointer (some ⟨w0.heap.size + 1, 0, none⟩)) (h5 : A.tmps.getD 5 undef = vk) (h24 : A.tmps.getD 24 undef = .pointer (some ⟨aB, 0, none⟩)) (h19 : A.tmps.getD 19 undef = .slice a19 ds.length c19) (h27 : A.tmps.getD 27 undef = .slice a27 ds.length c27) (h28 : A.tmps.getD 28 undef = .slice a28 ds.length c28) (h29 : A.tmps.getD 29 undef = v29) : Goes 23 w0 A W := by
  have z27 := k27.1
  have z28 := k28.1
  have z29 := hw1.1
  refine seg23 (Z := Z27) (R := fun _ => True) hb hk (by omega) hn6 hdl hpU (k27.imp (fun V h => ⟨h, trivial⟩)) (fun k e e' => ?_) (fun k e e' => ?_) (fun k e e' => ?_) hs hd h5 h27 ?_
  · have := b27 k e; have := bK k e'; omega
  · have := b27 k e'; have := bU k e; omega
  · have := bU k e; have := bK k e'; omega
  intro A1 w1 vk1 hkl hsm h51
  obtain ⟨g1, g2, g0, g3, g4, g17, g19, g24, g27, g28, g29, g32⟩ := hsm
  have g0 := g0.trans h0
  have g3 := g3.trans h3
  have g4 := g4.trans h4
  have g19 := g19.trans h19
  have g24 := g24.trans h24
  have g28 := g28.trans h28
  have g29 := g29.trans h29
  have hbb := hkl.down hb (fun k e => (hk.lt k e).1) hpU
  have hs1 := hkl.2.2.2.2.1
  have off : ∀ k, p2 ≤ k ∨ (p1 ≤ k ∧ ¬ Of us k) → ¬ Kt K us ds.length k := fun k h e => by
    rcases kt_of e with h' | h'
    · have := bK k h'; omega
    · rcases h with h | h
      · have := bU k h'; omega
      · exact h.2 h'
  have hal1 := hal.mv hkl.2 (fun k e => off k (.inl (by have := ba k e; omega)))
  have kT1 := (pieces_keep hpT).mv hkl.2 (fun k e => off k (.inl (bT k e).1))
  have k281 := k28.mv hkl.2 (fun k e => off k (.inl (by have := b28 k e; omega)))
  have k191 := (own_keep h19o).mv hkl.2 (fun k e => off k (.inl (b19 k e).1))
  have k291 := hw1.mv hkl.2 (fun k e => off k (by
    rcases b29 k e with h | h
    · exact .inr ⟨h.1, h.2.2⟩
    · exact .inl (by omega)))
  obtain ⟨K1, hK1⟩ : ∃ K1 : Nat → Prop, K1 = fun k => Kt K us ds.length k ∨ (W.heap.size ≤ k ∧ k < w1.heap.size) := ⟨_, rfl⟩
  have hk1 := hkl.1
  rw [← hK1] at hk1
  have off1 : ∀ k, k < W.heap.size → p2 ≤ k ∨ (p1 ≤ k ∧ ¬ Of us k) → ¬ K1 k := fun k hlt h e => by
    rw [hK1] at e
    rcases e with e | e
    · exact off k h e
    · omega
  clear hK1 hkl hpU hk hb hal hpT k27 k28 h19o hw1 h0 h3 h4 h5 h24 h19 h27 h28 h29 hs hd
  refine seg24 hn6 hal1.here (fun i h => row_piece k191.here kT1.here i h) g1 g2 h51 g24 g19 ?_
  intro A2 w2 hb2 hsm h52
  obtain ⟨f1, f2, f0, f3, f4, f17, f19, f24, f27, f28, f29, f32⟩ := hsm
  have f0 := f0.trans g0
  have f3 := f3.trans g3
  have f4 := f4.trans g4
  have f19 := f19.trans g19
  have f24 := f24.trans g24
  have f28 := f28.trans g28
  have f29 := f29.trans g29
  have hs2 := hb2.size
  have hbb2 := hbb.trans (hb2.mono hbb.size)
  have hal2 := hal1.later hb2
  have kT2 := kT1.later hb2
  have k282 := k281.later hb2
  have k192 := k191.later hb2
  have k292 := k291.later hb2
  have hk2 := hk1.later hb2
  have hlt1 := fun k e => (hk1.lt k e).2
  clear g0 g3 g4 g19 g24 g28 g29 hbb hal1 kT1 k281 k191 k291 hk1
  refine seg25 k192.here hn6 hbb2.size f1 f2 h52 f19 ?_
  intro A3 w3 v32 hwr hvb hfr hsm h53
  obtain ⟨g1, g2, g0, g3, g4, g17, g19, g24, g27, g28, g29, g32⟩ := hsm
  have g0 := g0.trans f0
  have g3 := g3.trans f3
  have g4 := g4.trans f4
  have g24 := g24.trans f24
  have g28 := g28.trans f28
  have g29 := g29.trans f29
  have g32 : A3.tmps.getD 32 undef = v32 := g32
  have hs3 := hfr.2.2.2.1
  have hm := hfr.mv
  have off3 : ∀ k, ¬ (p2 ≤ k ∧ k < p3) ∨ (Value.slice a19 ds.length c19).ownBlock ≠ some k → ¬ ((Value.slice a19 ds.length c19).ownBlock = some k ∨ none = some k) := fun k h e => by
    rcases e with e | e
    · rcases h with h | h
      · exact h (b19 k e)
      · exact h e
    · cases e
  have hbb3 := hbb2.trans (hm.below hbb2.size (fun k e => by
    rcases e with e | e
    · exact (k192.here.lt k e).1
    · cases e))
  have hal3 := hal2.mv hm (fun k e => off3 k (.inl (by have := ba k e; omega)))
  have kT3 := kT2.mv hm (fun k e => off3 k (.inr (aT k e)))
  have k283 := k282.mv hm (fun k e => off3 k (.inl (by have := b28 k e; omega)))
  have k293 := k292.mv hm (fun k e => off3 k (.inl (by have := b29 k e; omega)))
  have hk3 := hk2.mv hm (fun k e => off3 k (.inl (fun h => off1 k (by omega) (.inl h.1) e)))
  have k323 := wr_keep hwr
  clear f0 f3 f4 f19 f24 f28 f29 hbb2 hal2 kT2 k282 k192 k292 hk2 hwr hfr hm
  refine seg26 hn6 hal3.here (fun i h => row_piece k283.here kT3.here i h) g1 g2 h53 g24 g28 ?_
  intro A4 w4 hb4 hsm h54
  obtain ⟨f1, f2, f0, f3, f4, f17, f19, f24, f27, f28, f29, f32⟩ := hsm
  have f0 := f0.trans g0
  have f3 := f3.trans g3
  have f4 := f4.trans g4
  have f24 := f24.trans g24
  have f28 := f28.trans g28
  have f29 := f29.trans g29
  have f32 := f32.trans g32
  have hs4 := hb4.size
  have hbb4 := hbb3.trans (hb4.mono hbb3.size)
  have hal4 := hal3.later hb4
  have kT4 := kT3.later hb4
  have k284 := k283.later hb4
  have k294 := k293.later hb4
  have k324 := k323.later hb4
  have hk4 := hk3.later hb4
  clear g0 g3 g4 g24 g28 g29 g32 hbb3 hal3 kT3 k283 k293 k323 hk3
  refine seg27 (Z := Z28) (R := fun _ => True) hbb4 hk4 (by omega) hn6 hdl kT4.here (k284.imp (fun V h => ⟨h, trivial⟩)) (fun k e => off1 k (z28 k e) (.inl (by have := b28 k e; omega))) (fun k e e' => ?_) (fun k e => off1 k (by have := bT k e; omega) (.inl (bT k e).1)) f1 f2 h54 f28 ?_
  · have := b28 k e'; have := bT k e; omega
  intro A5 w5 vk5 hkl hsm h55
  obtain ⟨g1, g2, g0, g3, g4, g17, g19, g24, g27, g28, g29, g32⟩ := hsm
  have g0 := g0.trans f0
  have g3 := g3.trans f3
  have g4 := g4.trans f4
  have g24 := g24.trans f24
  have g29 := g29.trans f29
  have g32 := g32.trans f32
  have hbb5 := hkl.down hbb4 (fun k e => (hk4.lt k e).1) kT4.here
  have off5 : ∀ k, ¬ K1 k → ¬ Of ts k → ¬ Kt K1 ts ds.length k := fun k h h' e => (kt_of e).elim h h'
  have hal5 := hal4.mv hkl.2 (fun k e => off5 k (off1 k (by have := ba k e; omega) (.inl (by have := ba k e; omega))) (fun e' => by have := ba k e; have := bT k e'; omega))
  have k295 := k294.mv hkl.2 (fun k e => off5 k (off1 k (z29 k e) (by
    rcases b29 k e with h | h
    · exact .inr ⟨h.1, h.2.2⟩
    · exact .inl (by omega))) (fun e' => by have := b29 k e; have := bT k e'; omega))
  have k325 := k324.mv hkl.2 (fun k e => by
    have h : (Value.slice a19 ds.length c19).ownBlock = some k ∨ w2.heap.size ≤ k := by
      rcases e with e | e
      · exact hvb k e
      · exact .inr e.1
    rcases h with h | h
    · exact off5 k (off1 k (by have := b19 k h; omega) (.inl (b19 k h).1)) (fun e' => aT k e' h)
    · exact off5 k (fun e' => by have := hlt1 k e'; omega) (fun e' => by have := bT k e'; omega))
  refine seg28 hst hbb5 hkl.1 (by omega) hTT hT0 hbl hv hal5 (fun k e e' => ?_) k295.here k325.here g1 g2 g0 g3 g4 h55 g24 g29 g32
  have hh := ba k e
  rcases e' with e' | e'
  · exact off5 k (off1 k (by omega) (.inl (by omega))) (fun e' => by have := bT k e'; omega) e'
  · omega
end Go.Proofs.Ytkohlhnkaklnpaa

/-
  RecordReads: from statement 19 on.
-/
namespace Go.Proofs.Ytkohlhnkaklnpaa
open Go.RowKit Go.Shelf
theorem mid19b {w0 wA W : World} {stop : Int} {A : Act} {b : List UInt8} {ds : List (List UInt8)} {aB KK nk c c17 c19 : Nat} {ao a17 a19 : Option Addr} {va vk : Value} {K Za : Nat → Prop} {us ts : List Value} {p1 p2 p3 q : Nat}
    (hst : St w0 wA stop) (hb : Below wA.heap.size wA W) (hk : Kz W wA.heap.size nk K vk) (hnk : nk ≤ 1000) (hTT : Rc.Told b ds KK) (hT0 : (Rc.get (b.drop KK)).2 = 0) (hbl : b.length ≤ 1048576) (hv : Bs w0 (.slice ao b.length c) b) (hn6 : ds.length ≤ 1000000) (hdl : ∀ d ∈ ds, d.length ≤ 100000000)
    (hal : Keeps Za W (Al aB va ds)) (hpU : Pieces W wA.heap.size us ds) (hpT : Pieces W wA.heap.size ts ds)
    (h17o : W.ownsRow wA.heap.size 22 1 (.slice a17 ds.length c17) ds.length us) (h19o : W.ownsRow wA.heap.size 22 1 (.slice a19 ds.length c19) ds.length ts)
    (e1 : p1 ≤ p2) (e2 : p2 ≤ p3) (e3 : p3 ≤ q) (e4 : q ≤ W.heap.size)
    (bK : ∀ k, K k → k < p1) (bU : ∀ k, Of us k → p1 ≤ k ∧ k < p2) (b17 : ∀ k, (Value.slice a17 ds.length c17).ownBlock = some k → p1 ≤ k ∧ k < p2) (bT : ∀ k, Of ts k → p2 ≤ k ∧ k < p3) (b19 : ∀ k, (Value.slice a19 ds.length c19).ownBlock = some k → p2 ≤ k ∧ k < p3) (ba : ∀ k, Za k → p3 ≤ k ∧ k < q)
    (aU : ∀ k, Of us k → (Value.slice a17 ds.length c17).ownBlock ≠ some k) (aT : ∀ k, Of ts k → (Value.slice a19 ds.length c19).ownBlock ≠ some k)
    (hs : A.tmps.size = 464) (hd : A.defers = []) (h0 : A.tmps.getD 0 undef = .slice ao b.length c) (h3 : A.tmps.getD 3 undef = .pointer (some ⟨w0.heap.size, 0, none⟩)) (h4 : A.tmps.getD 4 undef = .pointer (some ⟨w0.heap.size + 1, 0, none⟩)) (h5 : A.tmps.getD 5 undef = vk) (h26 : A.tmps.getD 26 undef = .int .i64 0) (h24 : A.tmps.getD 24 undef = .pointer (some ⟨aB, 0, none⟩)) (h17 : A.tmps.getD 17 undef = .slice a17 ds.length c17) (h19 : A.tmps.getD 19 undef = .slice a19 ds.length c19) : Code.wp Try.prog blk19 (Exit.then (Goes 20 w0) (QR w0)) A W := by
  refine seg19b hn6 hal.here (fun i h => ⟨row_piece h17o hpU i h, row_piece h19o hpT i h⟩) (own_cap2 ⟨_, h17o⟩) (own_cap2 ⟨_, h19o⟩) hs hd h5 h26 h24 h17 h19 ?_
  intro A1 w1 hb1 hsm h51
  obtain ⟨g1, g2, g0, g3, g4, g17, g19, g24, g27, g28, g29, g32⟩ := hsm
  have g0 := g0.trans h0
  have g3 := g3.trans h3
  have g4 := g4.trans h4
  have g17 := g17.trans h17
  have g19 := g19.trans h19
  have g24 := g24.trans h24
  have hs1 := hb1.size
  have hbb1 := hb.trans (hb1.mono hb.size)
  have hal1 := hal.later hb1
  have kU1 := (pieces_keep hpU).later hb1
  have kT1 := (pieces_keep hpT).later hb1
  have k171 := (own_keep h17o).later hb1
  have k191 := (own_keep h19o).later hb1
  have hk1 := hk.later hb1
  clear hb hal hpU hpT h17o h19o hk h0 h3 h4 h17 h19 h24 h26 hs hd h5
  refine seg20 k171.here kU1.here hn6 hbb1.size g1 g2 h51 g17 ?_
  intro A2 w2 a27 c27 h27o hb2 hsm h52
  obtain ⟨f1, f2, f0, f3, f4, f17, f19, f24, f27, f28, f29, f32⟩ := hsm
  have f0 := f0.trans g0
  have f3 := f3.trans g3
  have f4 := f4.trans g4
  have f17 := f17.trans g17
  have f19 := f19.trans g19
  have f24 := f24.trans g24
  have f27 : A2.tmps.getD 27 undef = .slice a27 ds.length c27 := f27
  have hs2 := hb2.size
  have hbb2 := hbb1.trans (hb2.mono hbb1.size)
  have hal2 := hal1.later hb2
  have kU2 := kU1.later hb2
  have kT2 := kT1.later hb2
  have k172 := k171.later hb2
  have k192 := k191.later hb2
  have hk2 := hk1.later hb2
  have k272 := own_keep h27o
  have b27 : ∀ k, (Value.slice a27 ds.length c27).ownBlock = some k → q ≤ k := fun k e => by have := (h27o.lt k e).1; omega
  clear g0 g3 g4 g17 g19 g24 hbb1 hal1 kU1 kT1 k171 k191 hk1 h27o
  refine seg21 k192.here kT2.here hn6 hbb2.size f1 f2 h52 f19 ?_
  intro A3 w3 a28 c28 h28o hb3 hsm h53
  obtain ⟨g1, g2, g0, g3, g4, g17, g19, g24, g27, g28, g29, g32⟩ := hsm
  have g0 := g0.trans f0
  have g3 := g3.trans f3
  have g4 := g4.trans f4
  have g17 := g17.trans f17
  have g19 := g19.trans f19
  have g24 := g24.trans f24
  have g27 := g27.trans f27
  have g28 : A3.tmps.getD 28 undef = .slice a28 ds.length c28 := g28
  have hs3 := hb3.size
  have hbb3 := hbb2.trans (hb3.mono hbb2.size)
  have hal3 := hal2.later hb3
  have kU3 := kU2.later hb3
  have kT3 := kT2.later hb3
  have k173 := k172.later hb3
  have k193 := k192.later hb3
  have hk3 := hk2.later hb3
  have k273 := k272.later hb3
  have k283 := own_keep h28o
  have b28 : ∀ k, (Value.slice a28 ds.length c28).ownBlock = some k → q ≤ k := fun k e => by have := (h28o.lt k e).1; omega
  clear f0 f3 f4 f17 f19 f24 f27 hbb2 hal2 kU2 kT2 k172 k192 hk2 h28o k272
  refine seg22 k173.here hn6 hbb3.size g1 g2 h53 g17 ?_
  intro A4 w4 v29 hwr hvb hfr hsm h54
  obtain ⟨f1, f2, f0, f3, f4, f17, f19, f24, f27, f28, f29, f32⟩ := hsm
  have f0 := f0.trans g0
  have f3 := f3.trans g3
  have f4 := f4.trans g4
  have f19 := f19.trans g19
  have f24 := f24.trans g24
  have f27 := f27.trans g27
  have f28 := f28.trans g28
  have f29 : A4.tmps.getD 29 undef = v29 := f29
  have hs4 := hfr.2.2.2.1
  have hm := hfr.mv
  have off : ∀ k, ¬ (p1 ≤ k ∧ k < p2) ∨ (Value.slice a17 ds.length c17).ownBlock ≠ some k → ¬ ((Value.slice a17 ds.length c17).ownBlock = some k ∨ none = some k) := fun k h e => by
    rcases e with e | e
    · rcases h with h | h
      · exact h (b17 k e)
      · exact h e
    · cases e
  have hbb4 := hbb3.trans (hm.below hbb3.size (fun k e => by
    rcases e with e | e
    · exact (k173.here.lt k e).1
    · cases e))
  have hal4 := hal3.mv hm (fun k e => off k (.inl (by have := ba k e; omega)))
  have kU4 := kU3.mv hm (fun k e => off k (.inr (aU k e)))
  have kT4 := kT3.mv hm (fun k e => off k (.inl (by have := bT k e; omega)))
  have k194 := k193.mv hm (fun k e => off k (.inl (by have := b19 k e; omega)))
  have k274 := k273.mv hm (fun k e => off k (.inl (by have := b27 k e; omega)))
  have k284 := k283.mv hm (fun k e => off k (.inl (by have := b28 k e; omega)))
  have hk4 := hk3.mv hm (fun k e => off k (.inl (by have := bK k e; omega)))
  refine mid23 hst hbb4 hk4 hnk hTT hT0 hbl hv hn6 hdl hal4 kU4.here kT4.here (k274.imp (fun V h => own_low h (Nat.zero_le _))) (k284.imp (fun V h => own_low h (Nat.zero_le _))) k194.here (wr_keep hwr) e1 e2 e3 (by omega) bK bU bT b19 ba b27 b28 (fun k e => ?_) aT f1 f2 f0 f3 f4 h54 f24 f19 f27 f28 f29
  rcases e with e | e
  · rcases hvb k e with h | h
    · exact .inl ⟨(b17 k h).1, (b17 k h).2, fun h' => aU k h' h⟩
    · exact .inr (by omega)
  · exact .inr (by omega)
end Go.Proofs.Ytkohlhnkaklnpaa

/-
  RecordReads: from the start.
-/
namespace Go.Proofs.Ytkohlhnkaklnpaa
open Go.RowKit Go.Shelf
theorem then_mono {c : Code} {P : Program} {K K' : Act → World → Prop} {Q : Exit → Act → World → Prop} {a : Act} {w : World} (h : c.wp P (Exit.then K Q) a w) (hk : ∀ a w, K a w → K' a w) : c.wp P (Exit.then K' Q) a w := fun b k cs => by
  obtain ⟨e, a', w', q, r⟩ := h b k cs
  refine ⟨e, a', w', ?_, r⟩
  cases e <;> first | exact hk _ _ q | exact q
theorem Keeps.step {W W' : World} {Z : Nat → Prop} {P : World → Prop} (h : Keeps Z W P) (hs : W.heap.size ≤ W'.heap.size) (hk : ∀ k, Z k → W'.heap[k]? = W.heap[k]?) : Keeps Z W' P :=
  ⟨fun k e => Nat.lt_of_lt_of_le (h.1 k e) hs, fun V hs' hv => h.2 V (Nat.le_trans hs hs') (fun k e => (hv k e).trans (hk k e))⟩
theorem scanned_keep {w : World} {B : Nat} {v : Value} {ds : List (List UInt8)} (h : Scanned w B v ds) : ∃ us, Hid (Keeps (Iv B w.heap.size) w (fun V => V.ownsRow B 22 1 v ds.length us ∧ Pieces V B us ds)) ∧ Hid ((∀ k, Of us k → B ≤ k ∧ k < w.heap.size) ∧ (∀ k, v.ownBlock = some k → B ≤ k ∧ k < w.heap.size) ∧ ∀ k, Of us k → v.ownBlock ≠ some k) := by
  obtain ⟨us, h1, h2, h3⟩ := h
  have hU : ∀ k, Of us k → B ≤ k ∧ k < w.heap.size := fun k ⟨u, hu, e⟩ => h2.lt u hu k e
  have hV : ∀ k, v.ownBlock = some k → B ≤ k ∧ k < w.heap.size := fun k e => h1.lt k e
  exact ⟨us, ⟨fun k e => e.2, fun V hs hv => ⟨own_on h1 (fun k e => hv k (hV k e)), ((pieces_keep h2).2 V hs (fun k e => hv k (hU k e)))⟩⟩, hU, hV, fun k ⟨u, hu, e⟩ e' => h3 u hu k e e'⟩
theorem listed_low {w : World} {B B' : Nat} {v : Value} {ds : List (List UInt8)} (h : Listed w B v ds) (hB : B' ≤ B) : Listed w B' v ds := by
  obtain ⟨vs, h1, h2, h3⟩ := h
  exact ⟨vs, own_low h1 hB, h2, fun i a b => own_low (h3 i a b) hB⟩
set_option maxHeartbeats 8000000 in
set_option maxRecDepth 100000 in
theorem scanned_any (v : Value) (b : List UInt8) (stop : Int) (w : World) (h : Bs w v b) (hn : NilOr v) (hl : b.length ≤ 1048576) : Calls Try.prog 16 #[v, .int .i64 stop] w fun e w' => e = .returned (.bool true) ∧ Below w.heap.size w w' := by
  refine (callsIn_wide (n := 6)).1 ?_
  refine callsIn_of_wp_marks Try.func16 rfl trivial ?_ rfl
  simp only [Try.ntmps16, List.size_toArray, List.length_nil, List.length_cons, Nat.reduceAdd, Nat.reduceSub, Array.replicate_succ, Array.replicate_zero, List.push_toArray, List.append_toArray, List.nil_append, List.cons_append]
  refine wpIn_wide.2 ?_
  obtain ⟨ao, c, rfl, h1, h2, h3⟩ := id h
  have H := hide h
  have HN := hide hn
  unfold maxLen at h2
  clear h h3 hn
  go_wp2_with fail
  -- the two boxes
  have hA : Below w.heap.size w ((w.alloc (.cells #[.int .i64 stop] 3)).alloc (.cells #[.bool false] 4)) := ((Below.refl _ w).alloc (Nat.le_refl _) _).alloc (by simp) _
  have hst0 : ((w.alloc (.cells #[.int .i64 stop] 3)).alloc (.cells #[.bool false] 4)).heap[w.heap.size]? = some (.cells #[.int .i64 stop] 3 (0, 0)) := (heap_alloc_old _ _ (by simp)).trans (heap_alloc_new w _)
  have hrs0 : ((w.alloc (.cells #[.int .i64 stop] 3)).alloc (.cells #[.bool false] 4)).heap[w.heap.size + 1]? = some (.cells #[.bool false] 4 (0, 0)) := by
    have := heap_alloc_new (w.alloc (.cells #[.int .i64 stop] 3)) (.cells #[.bool false] 4)
    simpa using this
  have hsz0 : ((w.alloc (.cells #[.int .i64 stop] 3)).alloc (.cells #[.bool false] 4)).heap.size = w.heap.size + 2 := by simp
  have H0 : Hid (Bs ((w.alloc (.cells #[.int .i64 stop] 3)).alloc (.cells #[.bool false] 4)) (.slice ao b.length c) b) := on_bs H.out hA
  generalize (w.alloc (.cells #[.int .i64 stop] 3)).alloc (.cells #[.bool false] 4) = wA at *
  have HA := hide (And.intro hA (And.intro hst0 (And.intro hrs0 hsz0)))
  have hvb : 0 < b.length → ∀ k, (Value.slice ao b.length c).ownBlock = some k → k < w.heap.size := bs_block H.out
  have HVB := hide hvb
  clear hA hst0 hrs0 hvb
  obtain ⟨B, hB⟩ : ∃ B, B = wA.heap.size := ⟨_, rfl⟩
  have hlent := lent_any _ b wA H0.out (by omega)
  refine hlent.mono ?_
  rintro e w1 ⟨rfl, hr1, hb1⟩
  rw [← hB] at hr1 hb1 ⊢
  have HBB := hide hB
  have hB2 : w.heap.size + 2 = B := by omega
  have HB2' := hide hB2
  clear hlent hB hsz0 hB2
  have hs1 := hr1.lt
  have hx8 : b.length ≤ b.length + 8 := by omega
  have hbx1 : Bs w1 (.slice (some ⟨B, 0, none⟩) b.length (b.length + 8)) b := by
    have := hr1.bs (n := b.length) (c := b.length + 8) (by simp) (by omega) (by unfold maxLen; omega)
    rwa [List.take_left] at this
  have HR1 := hide hr1
  have HX1 := hide hbx1
  have HB1 : Hid (Below B wA w1) := hb1
  clear hr1 hbx1 hb1
  go_wp2_with fail
  have hget := rget_any _ b w1 HX1.out
  refine hget.mono ?_
  rintro e w2 ⟨vd, rfl, hpd, hb2⟩
  have HX2 := hide (on_bs HX1.out hb2)
  have HR2 : Hid (Row w2 B (b ++ List.replicate 8 201)) := HR1.out.below hb2 hs1
  have HPD := hide hpd
  have hs2 := hb2.size
  have HB2 := hide (HB1.out.trans (hb2.mono (by omega)))
  clear hget hpd hb2 HX1 HR1 HB1
  go_wp2_with fail
  have hget := rget_any _ b w2 HX2.out
  refine hget.mono ?_
  rintro e w3 ⟨ve, rfl, hpe, hb3⟩
  have HR3 : Hid (Row w3 B (b ++ List.replicate 8 201)) := HR2.out.below hb3 (by omega)
  have HPD3 := hide (HPD.out.later hb3)
  have HPE := hide hpe
  have hs3 := hb3.size
  have HAP0 : Hid (∀ k, ve.ownBlock = some k → vd.ownBlock ≠ some k) := fun k e e' => by
    have h1 := (hpe.block k e).1
    have h2 := (HPD.out.block k e').2
    omega
  have HDL0 : Hid (∀ k, vd.ownBlock = some k → k < w2.heap.size) := fun k e => (HPD.out.block k e).2
  have HB3 := hide (HB2.out.trans (hb3.mono (by omega)))
  clear hget hpe hb3 HX2 HR2 HB2 HPD
  go_wp2_with fail
  have hstill := still_row B (.slice ao b.length c) b w3 (by omega) HR3.out (H0.out.below HB3.out (Nat.le_of_eq HBB.out.symm)) (fun h g' e => by have := HVB.out h g' e; have := HB2'.out; omega)
  refine hstill.mono ?_
  rintro e w4 ⟨rfl, hr4, hg4⟩
  have hs4 := hg4.size
  have HB4 := hide (HB3.out.grown hg4 (by omega) (fun k e => by cases e; exact Nat.le_refl _))
  have HPD4 := hide (HPD3.out.grow hg4 (fun g hg e => by cases e; have := (HPD3.out.block _ hg).1; omega))
  have HPE4 := hide (HPE.out.grow hg4 (fun g hg e => by cases e; have := (HPE.out.block _ hg).1; omega))
  have hx4 : Bs w4 (.slice (some ⟨B, 0, none⟩) b.length (b.length + 8)) (List.replicate b.length 77) := by
    have := hr4.bs (n := b.length) (c := b.length + 8) (by simp) (by omega) (by unfold maxLen; omega)
    rwa [List.take_replicate, Nat.min_eq_left (by omega)] at this
  have HX4 := hide hx4
  clear hstill hr4 hg4 hx4 HR3 HPD3 HPE HB3
  go_wp2_with fail
  have hget := rget_any _ _ w4 HX4.out
  rw [get_sevens] at hget
  refine hget.mono ?_
  rintro e w5 ⟨v77, rfl, hp7, hb5⟩
  obtain rfl : v77 = .slice none 0 0 := by
    rcases hp7 with ⟨h, _⟩ | ⟨g, o, cur, h, _, h', _⟩
    · exact h
    · exact absurd rfl h'
  have HPD5 := hide (HPD4.out.later hb5)
  have HPE5 := hide (HPE4.out.later hb5)
  have hs5 := hb5.size
  have HB5 := hide (HB4.out.trans (hb5.mono (by omega)))
  clear hget hp7 hb5 HX4 HPD4 HPE4 HB4
  go_wp2_with fail
  have hgetr := reftake_any _ b w5 (H0.out.below HB5.out (Nat.le_of_eq HBB.out.symm))
  refine hgetr.mono ?_
  rintro e w6 ⟨vw, rfl, how, hb6⟩
  have HPD6 := hide (HPD5.out.later hb6)
  have HPE6 := hide (HPE5.out.later hb6)
  have HOW := hide how
  have hs6 := hb6.size
  have HB6 := hide (HB5.out.trans (hb6.mono (by omega)))
  clear hgetr how hb6 HPD5 HPE5 HB5
  obtain ⟨G, hG⟩ : ∃ G, G = (Rc.get b).1 := ⟨_, rfl⟩
  obtain ⟨m, hm⟩ : ∃ m, m = (Rc.get b).2 := ⟨_, rfl⟩
  rw [← hG] at HPD6 HPE6 HOW
  rw [← hm]
  have hGl : G.length ≤ 1048576 := by rw [hG]; exact Nat.le_trans (get_len b) hl
  clear hG hm
  have cvd := conv_bs HPD6.out.bs
  have cve := conv_bs HPE6.out.bs
  have cvw := conv_bs (own_bs HOW.out)
  have HAP := HAP0
  have HDL := HDL0
  clear HAP0 HDL0
  obtain ⟨aod, nd, cd, rfl⟩ := HPD6.out.shape
  obtain ⟨aoe, ne, ce, rfl⟩ := HPE6.out.shape
  obtain ⟨aow, cw, rfl⟩ := own_len HOW.out
  have z1 : ((ByteArray.mk (List.toArray G)).toList == (ByteArray.mk (List.toArray G)).toList) = true := by simp
  go_wp2_with fail
  have hpd := HPD6.out.low (B' := B) (by omega)
  have hpe := HPE6.out.low (B' := B) (by omega)
  have hap : ∀ k, (Value.slice aoe ne ce).ownBlock = some k → (Value.slice aod nd cd).ownBlock ≠ some k := HAP.out
  have hk := keep_kz (Kz.none w6 B) hpd (fun k _ e => e) (by omega) (by omega) (by omega)
  refine hk.mono ?_
  rintro e w7 ⟨aok, nk1, ck, rfl, hkz, hmv⟩
  have hs7 := hmv.2.2.2.1
  have hwb := HOW.out.lt
  have hpe7 : Piece w7 B (.slice aoe ne ce) G := hpe.on (fun k e => hmv.2.2.2.2 k (hpe.block k e).2 (fun e' => by
    rcases e' with e' | e'
    · exact e'
    · exact hap k e e'))
  have how7 := own_on HOW.out (fun k e => hmv.2.2.2.2 k (hwb k e).2 (fun e' => by
    rcases e' with e' | e'
    · exact e'
    · have h1 := (hwb k e).1
      have h2 := (HPD6.out.block k e').2
      have h3 := HDL.out k e'
      omega))
  have cve7 := conv_bs hpe7.bs
  have cvw7 := conv_bs (own_bs how7)
  have HB7 := hide (HB6.out.trans (hmv.below (by omega) (fun k e' => by
    rcases e' with e' | e'
    · exact e'.elim
    · exact (hpd.block k e').1)))
  have HKZ := hide hkz
  have HPE7 := hide hpe7
  have HAP2 : Hid (∀ k, (Value.slice aoe ne ce).ownBlock = some k → ¬ (False ∨ (Value.slice aod nd cd).ownBlock = some k ∨ (w6.heap.size ≤ k ∧ k < w7.heap.size))) := fun k e e' => by
    rcases e' with e' | e' | e'
    · exact e'
    · exact hap k e e'
    · have := (hpe.block k e).2
      omega
  clear hpd hpe hap hk hkz hmv hwb hpe7 how7 cvd cve cvw HPD6 HPE6 HOW HB6 HAP HDL
  go_wp2_with fail
  have hk := keep_kz HKZ.out HPE7.out HAP2.out (by omega) (by omega) (by omega)
  refine hk.mono ?_
  rintro e w8 ⟨aok, nk2, ck, rfl, hkz, hmv⟩
  have hs8 := hmv.2.2.2.1
  have HB8 := hide (HB7.out.trans (hmv.below (by omega) (fun k e' => by
    rcases e' with e' | e'
    · exact (HKZ.out.lt k e').1
    · exact (HPE7.out.block k e').1)))
  obtain ⟨K1, hK1⟩ : ∃ K : Nat → Prop, Kz w8 B 4 K (.slice aok nk2 ck) := ⟨_, hkz⟩
  have HK1 := hide hK1
  have HKlt : Hid (∀ k, K1 k → k < w8.heap.size) := fun k e => (hK1.lt k e).2
  have HNK : Hid (¬ K1 w8.heap.size) := fun e => by have := (hK1.lt _ e).2; omega
  clear hk hkz hmv hK1 HKZ HPE7 HAP2 HB7 cve7 cvw7 z1
  go_wp2_with fail
  have hlent := lent_any _ b w8 (H0.out.below HB8.out (Nat.le_of_eq HBB.out.symm)) (by omega)
  refine hlent.mono ?_
  rintro e w9 ⟨rfl, hr9, hb9⟩
  have hs9 := hr9.lt
  have hBw8 : B ≤ w8.heap.size := by omega
  have hby9 : Bs w9 (.slice (some ⟨w8.heap.size, 0, none⟩) b.length (b.length + 8)) b := by
    have := hr9.bs (n := b.length) (c := b.length + 8) (by simp) (by omega) (by unfold maxLen; omega)
    rwa [List.take_left] at this
  have HR9 := hide hr9
  have HY9 := hide hby9
  have HB9 := hide (HB8.out.trans (hb9.mono hBw8))
  have HK9 := hide (HK1.out.later hb9)
  clear hlent hr9 hby9 hb9 HB8 HK1
  go_wp2_with fail
  have hscan := scan_any _ b w9 HY9.out (.inr ⟨_, _, _, rfl⟩) (by omega)
  refine hscan.mono ?_
  rintro e w10 ⟨v17, ds, sk, rfl, ht, hz, hsc, hb10⟩
  have HT := hide (And.intro ht hz)
  have hs10 := hb10.size
  have HY10 := hide (on_bs HY9.out hb10)
  have HR10 : Hid (Row w10 w8.heap.size (b ++ List.replicate 8 201)) := HR9.out.below hb10 hs9
  have HB10 := hide (HB9.out.trans (hb10.mono (by omega)))
  have HK10 := hide (HK9.out.later hb10)
  obtain ⟨us, HS10, HV17⟩ := scanned_keep hsc
  clear hscan ht hz hsc hb10 HY9 HR9 HB9 HK9
  go_wp2_with fail
  have hscan := scan_any _ b w10 HY10.out (.inr ⟨_, _, _, rfl⟩) (by omega)
  refine hscan.mono ?_
  rintro e w11 ⟨v19, ds2, sk2, rfl, ht2, hz2, hsc2, hb11⟩
  obtain ⟨rfl, rfl⟩ := Rc.told_same _ _ _ _ _ ht2 hz2 HT.out.1 HT.out.2
  have hs11 := hb11.size
  have HR11 : Hid (Row w11 w8.heap.size (b ++ List.replicate 8 201)) := HR10.out.below hb11 (by omega)
  have HB11 := hide (HB10.out.trans (hb11.mono (by omega)))
  have HK11 := hide (HK10.out.later hb11)
  have HS11 := hide (HS10.out.later hb11)
  obtain ⟨ts, HU11, HV19⟩ := scanned_keep hsc2
  clear hscan ht2 hz2 hsc2 hb11 HY10 HR10 HB10 HK10 HS10
  go_wp2_with fail
  have hstill := still_row w8.heap.size (.slice ao b.length c) b w11 (by omega) HR11.out (H0.out.below HB11.out (Nat.le_of_eq HBB.out.symm)) (fun h g' e => by have := HVB.out h g' e; have := HB2'.out; omega)
  refine hstill.mono ?_
  rintro e w12 ⟨rfl, hr12, hg12⟩
  have hs12 := hg12.size
  have hkeep12 : ∀ k, k < w11.heap.size → k ≠ w8.heap.size → w12.heap[k]? = w11.heap[k]? := fun k hk hne => hg12.block k hk (fun e => hne (Option.some.inj e))
  have HB12 := hide (HB11.out.grown hg12 (by omega) (fun k e => by cases e; exact hBw8))
  have HK12 : Hid (Kz w12 B 4 K1 _) := HK11.out.frame hs12 (fun k e => hkeep12 k (HK11.out.lt k e).2 (fun e' => by subst e'; exact HNK.out e))
  have HS12 := hide (HS11.out.step hs12 (fun k h => hkeep12 k (by have := h.2; omega) (by have := h.1; omega)))
  have HU12 := hide (HU11.out.step hs12 (fun k h => hkeep12 k (by have := h.2; omega) (by have := h.1; omega)))
  have hy12 : Bs w12 (.slice (some ⟨w8.heap.size, 0, none⟩) b.length (b.length + 8)) (List.replicate b.length 77) := by
    have := hr12.bs (n := b.length) (c := b.length + 8) (by simp) (by omega) (by unfold maxLen; omega)
    rwa [List.take_replicate, Nat.min_eq_left (by omega)] at this
  have HY12 := hide hy12
  clear hstill hr12 hg12 hkeep12 hy12 HR11 HB11 HK11 HS11 HU11
  go_wp2_with fail
  have hscan := scan_any _ _ w12 HY12.out (.inr ⟨_, _, _, rfl⟩) (by simp; omega)
  refine hscan.mono ?_
  rintro e w13 ⟨v22, ds7, sk7, rfl, ht7, hz7, hsc7, hb13⟩
  obtain ⟨rfl, rfl⟩ : ds7 = [] ∧ sk7 = 0 := by
    cases ds7 with
    | nil => exact ⟨rfl, ht7⟩
    | cons d r => exact absurd (by rw [get_sevens]) ht7.1
  obtain ⟨ao22, c22, rfl⟩ : ∃ ao c, v22 = .slice ao 0 c := by
    obtain ⟨_, h, _⟩ := hsc7
    exact own_len h
  have hs13 := hb13.size
  have HB13 := hide (HB12.out.trans (hb13.mono (by omega)))
  have HK13 := hide (HK12.out.later hb13)
  have HS13 := hide (HS12.out.later hb13)
  have HU13 := hide (HU12.out.later hb13)
  clear hscan ht7 hz7 hsc7 hb13 HY12 HB12 HK12 HS12 HU12
  go_wp2_with fail
  have hscan := refscan_any _ b w13 (H0.out.below HB13.out (Nat.le_of_eq HBB.out.symm)) HN.out (by omega)
  refine hscan.mono ?_
  rintro e w14 ⟨va, ds3, sk3, rfl, ht3, hz3, hls, hb14⟩
  obtain ⟨rfl, rfl⟩ := Rc.told_same _ _ _ _ _ ht3 hz3 HT.out.1 HT.out.2
  have hs14 := hb14.size
  have HB14 := hide (HB13.out.trans (hb14.mono (by omega)))
  have HK14 := hide (HK13.out.later hb14)
  have HS14 := hide (HS13.out.later hb14)
  have HU14 := hide (HU13.out.later hb14)
  have HL14 := hide hls
  obtain ⟨aoa, ca, rfl⟩ : ∃ ao c, va = .slice ao ds3.length c := by
    obtain ⟨_, h, _⟩ := hls
    exact own_len h
  obtain ⟨ao17, c17, rfl⟩ : ∃ ao c, v17 = .slice ao ds3.length c := by
    have h := HS14.out.here.1
    exact own_len h
  obtain ⟨ao19, c19, rfl⟩ : ∃ ao c, v19 = .slice ao ds3.length c := by
    have h := HU14.out.here.1
    exact own_len h
  clear hscan ht3 hz3 hls hb14 HB13 HK13 HS13 HU13
  go_upto_block 0 with fail
  obtain ⟨w15, hw15⟩ : ∃ x, x = w14.alloc (.cells #[.slice aoa ds3.length ca] 34) := ⟨_, rfl⟩
  have hal : Below w14.heap.size w14 w15 := by rw [hw15]; exact (Below.refl _ w14).alloc (Nat.le_refl _) _
  have hbox : w15.heap[w14.heap.size]? = some (.cells #[.slice aoa ds3.length ca] 34 (0, 0)) := by rw [hw15]; exact heap_alloc_new w14 _
  have hs15 : w15.heap.size = w14.heap.size + 1 := by rw [hw15]; simp
  rw [← hw15]
  have HBOX := hide hbox
  have HB15 := hide (HB14.out.trans (hal.mono (by omega)))
  have HK15 := hide (HK14.out.later hal)
  have HS15 := hide (HS14.out.later hal)
  have HU15 := hide (HU14.out.later hal)
  have HL15 := hide (HL14.out.later hal)
  obtain ⟨aB, haB⟩ : ∃ x, x = w14.heap.size := ⟨_, rfl⟩
  rw [← haB] at HBOX ⊢
  have HAB := hide haB
  clear haB
  clear hw15 hal hbox HB14 HK14 HS14 HU14 HL14
  have hBB := HBB.out
  subst hBB
  have hal : Keeps (Iv w13.heap.size w15.heap.size) w15 (Al aB (.slice aoa ds3.length ca) ds3) := ⟨fun k e => e.2, fun V _ hv => ⟨(hv aB ⟨by have := HAB.out; omega, by have := HAB.out; omega⟩).trans HBOX.out, listed_low (listed_on HL15.out (fun k h1 h2 => hv k ⟨h1, h2⟩)) (Nat.zero_le _)⟩⟩
  have hn6 : ds3.length ≤ 1000000 := by have := HT.out.1.count; have := HT.out.1.le; omega
  have hdl : ∀ d ∈ ds3, d.length ≤ 100000000 := fun d hd => by have := told_lens ds3 b _ HT.out.1 d hd; omega
  rename_i Kn hKn
  refine then_mono (c := blk19) (K := Goes 20 w) (Q := QR w) ?_ (fun a' w' h' => hKn a' w' h')
  refine mid19b (wA := wA) (stop := stop) (K := K1) (Za := Iv w13.heap.size w15.heap.size) (us := us) (ts := ts) (p1 := w9.heap.size) (p2 := w10.heap.size) (p3 := w13.heap.size) (q := w15.heap.size) HA.out HB15.out HK15.out (by omega) HT.out.1 HT.out.2 hl H.out hn6 hdl hal (pieces_low HS15.out.here.2 (by omega)) (pieces_low HU15.out.here.2 (by omega)) (own_low HS15.out.here.1 (by omega)) (own_low HU15.out.here.1 (by omega)) (by omega) (by omega) (by omega) (by omega) (fun k e => by have := HKlt.out k e; omega) HV17.out.1 HV17.out.2.1 (fun k e => by have := HV19.out.1 k e; omega) (fun k e => by have := HV19.out.2.1 k e; omega) (fun k e => e) HV17.out.2.2 HV19.out.2.2 rfl rfl rfl rfl rfl rfl rfl rfl rfl rfl
end Go.Proofs.Ytkohlhnkaklnpaa

/-
  RecordReads, for every input of bulk at most 1,048,576: the row.
-/
namespace Go.Proofs.Ytkohlhnkaklnpaa
open Go.RowKit
set_option maxHeartbeats 16000000 in
set_option maxRecDepth 100000 in
theorem reads_walk (vb : Value) (b : List UInt8) (stop : Int) (w : World) (hb : Bs w vb b) (hnb : NilOr vb) (hlb : b.length ≤ 1048576) :
    Calls Try.prog 4 #[vb, .int .i64 stop] w fun e w' => e = .returned (.bool true) ∧ Below w.heap.size w w' := by
  obtain ⟨aob, cb, rfl, hb1, hb2, hb3⟩ := id hb
  have HB := hide hb
  have HN := hide hnb
  clear hb hb3 hnb
  unfold maxLen at hb2
  have HSH := hide (shown_any w)
  go_enter Try.func4, Try.ntmps4
  go_wp2_with fail
  refine HSH.out.mono ?_
  rintro e w1 ⟨rfl, be1⟩
  have HSC := hide (scanned_any _ b stop w1 (HB.out.below be1 (Nat.le_refl _)) HN.out hlb)
  have BE1 := hide be1
  clear be1 HSH
  go_wp2_with fail
  refine HSC.out.mono ?_
  rintro e w2 ⟨rfl, be2⟩
  have BE2 := hide (BE1.out.trans (be2.mono BE1.out.size))
  clear be2 HSC
  go_wp2_with fail
  go_ret
  exact ⟨rfl, BE2.out⟩
end Go.Proofs.Ytkohlhnkaklnpaa
namespace Go.Proofs.Ytkohlhnkaklnpaa.recordReads
open Go.ChangeShapes Go.WideShapes Go.ChangeAt Go.RowKit

set_option maxRecDepth 100000 in
theorem lifted (os : Os) (started : os.Started) (H : Type) (enc : TypeId × Value → H) (F : Stop.Interp) :
    ReturnsInHanded {} Try.checked os 4 .any ((Rows.OpenSpec.upto Rows.recordReadsSpec).pre6 enc Try.prog Try.f4 Rows.recordReadsUptoRow.domain false) (((Rows.OpenSpec.upto Rows.recordReadsSpec).at F).post enc Try.prog Try.f4 false true false false) := by
  refine returnsInHanded_of_cond (C := Try.checked) (s := Rows.OpenSpec.upto Rows.recordReadsSpec) (k := Rows.uptoSmall) rfl own started (by kernel_rfl) Try.func4
    (OpenSpec.witness (enc := enc) (C := Try.checked) (s := Rows.OpenSpec.upto Rows.recordReadsSpec) (k := Rows.uptoSmall) rfl false ⟨#[], #[.slice none 0 0, .int .i64 0], []⟩ 8 (by kernel_rfl) (by kernel_rfl) (by kernel_rfl)
      (x := ([.nil, .lit (.int .i64 0)], [], [])) (by kernel_rfl) rfl (by kernel_rfl)) ?_
  intro W base args ds gs before hval0 hW _ hk0 _
  have hval : ∀ (j : Nat) t v, Try.f4.params[j]? = some t → args[j]? = some v → Value.okWide Try.prog W .any base t v := hval0
  have hW' := hW
  obtain ⟨p, q, hA0, hV, rfl, hfz, hnd⟩ := hW
  have hA : DataW.TrodAll enc Try.prog W 0 (fun _ => true) true Try.f4.params.toList args.toList ds p := hA0
  rw [Try.params4] at hA hval
  obtain ⟨v0, vs0, d0, ds0, p0, q0, hargs, rfl, rfl, h0, r0⟩ := trodAll_cons hA
  obtain ⟨v1, vs1, d1, ds1, p1, q1, rfl, rfl, rfl, h1, r1⟩ := trodAll_cons r0
  obtain ⟨rfl, rfl, rfl⟩ := trodAll_nil r1
  obtain rfl : args = #[v0, v1] := by cases args; simp_all
  obtain ⟨rfl, rfl⟩ := trodVars_none hV
  have hk : Rows.uptoBulkAll [d0, d1] ≤ 1048576 := by
    have := hk0
    simp only [List.append_nil] at this
    exact of_decide_eq_true this
  obtain ⟨a0, len0, cap0, rfl⟩ := okWide_slice Try.underlying22 (hval 0 22 v0 rfl rfl)
  have lt0 : ∀ x ∈ p0, x.block < W.heap.size := by obtain ⟨m, hm⟩ := h0; exact DataW.trod_lt m _ _ _ hm
  have hd0 : Rows.uptoBulk d0 ≤ 1048576 := by
    have h := part_le (H := H) (d := d0) (l := [d0, d1]) (by simp)
    omega
  obtain ⟨a1, rfl, rfl, rfl, w1⟩ := open_int Try.underlying3 (hval 1 3 v1 rfl rfl) h1
  obtain ⟨l0, hb0, hlen0, hv0⟩ := bytes_bulk h0 hd0
  clear hA0 hval0
  refine (reads_walk _ l0 a1 W hb0 hv0 hlen0).mono fun e W' ⟨he, bel⟩ => ?_
  subst he
  exact ⟨_, rfl, _, _, _, [], _, [], hW', trodAll_mk1 (shut_bool Try.underlying4 _), (trodAll_cons_mk (Below.trod laidOut (by kernel_rfl) (of_decide_eq_true (by kernel_rfl)) h0 bel lt0) (trodAll_cons_mk (shut_int Try.underlying3 w1) trodAll_mk0)), rfl, bel.frame _, fun h => by cases h⟩

theorem over : Rows.RecordReadsUptoSaid :=
  OpenClaim.holds_of_cond 4 Try.f4 rfl rfl rfl rfl rfl rfl rfl ⟨rfl, rfl, rfl, rfl, rfl⟩ rfl rfl rfl rfl rfl (by kernel_rfl) Try.func4 (by kernel_rfl)
    (of_decide_eq_true (by kernel_rfl)) (by unfold Func.isWrapper; first | (rw [if_pos (by decide +kernel)]; kernel_rfl) | (rw [if_neg (by decide +kernel)]; exact ⟨rfl, rfl⟩))
    (fun os started H enc _ F => lifted os started H enc F)
end Go.Proofs.Ytkohlhnkaklnpaa.recordReads
namespace Go.Proofs.Ytkohlhnkaklnpaa
theorem recordReadsUpto_holds : Rows.RecordReadsUptoSaid := recordReads.over
#print axioms recordReadsUpto_holds
end Go.Proofs.Ytkohlhnkaklnpaa
