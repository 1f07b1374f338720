import Derived.Test.YtkohlhnkaklnpaaRdD
import Derived.Test.YtkohlhnkaklnpaaRdE
import Derived.Test.YtkohlhnkaklnpaaRdF
import Derived.Test.YtkohlhnkaklnpaaRdG
import Derived.Test.YtkohlhnkaklnpaaRdI
/-
  RecordReads: from statement 23 on.
-/
namespace Go.Proofs.Ytkohlhnkaklnpaa
open Go.RowKit Go.Shelf
theorem own_keep {W : World} {B e s n : Nat} {v : Value} {us : List Value} (h : W.ownsRow B e s v n us) : Keeps (fun k => v.ownBlock = some k) W (fun V => V.ownsRow B e s v n us) := ⟨fun k e => (h.lt k e).2, fun _ _ hv => own_on h hv⟩
theorem wr_keep {W : World} {B M n : Nat} {v : Value} {T : List UInt8} (h : Wr W B M v n n T) : Keeps (fun k => v.ownBlock = some k ∨ (M ≤ k ∧ k < W.heap.size)) W (fun V => Wr V B M v n n T) := by
  obtain ⟨us, h1, h2⟩ := h
  refine ⟨fun k e => e.elim (fun e => (h1.lt k e).2) (fun e => e.2), fun V hs hv => ⟨us, own_on h1 (fun k e => hv k (.inl e)), fun i hi hn => ⟨⟨(h2 i hi hn).1.1.kept (fun k e _ => hv k (.inr ((h2 i hi hn).1.2 k e))), fun k e => ⟨((h2 i hi hn).1.2 k e).1, Nat.lt_of_lt_of_le ((h2 i hi hn).1.2 k e).2 hs⟩⟩, (h2 i hi hn).2⟩⟩⟩
theorem row_piece {w : World} {B B' : Nat} {ao : Option Addr} {c : Nat} {us : List Value} {ds : List (List UInt8)} (h1 : w.ownsRow B 22 1 (.slice ao ds.length c) ds.length us) (h2 : Pieces w B' us ds) (i : Nat) (hi : i < ds.length) : ∃ g u1 u2 u3, ao = some ⟨g, 0, none⟩ ∧ w.cell? ⟨g, i, none⟩ = some (Value.slice u1 u2 u3) ∧ Bs w (Value.slice u1 u2 u3) (ds[i]'hi) := by
  obtain ⟨g, e, hu, hc⟩ := row_elem h1 hi
  have hp := (h2.2.1 i hu hi).1
  obtain ⟨u1, u2, u3, eu⟩ := hp.shape
  rw [eu] at hc hp
  exact ⟨g, u1, u2, u3, e, hc, hp.bs⟩
theorem mid23 {w0 wA W : World} {stop : Int} {A : Act} {b : List UInt8} {ds : List (List UInt8)} {aB KK nk c c27 c28 c19 : Nat} {ao a27 a28 a19 : Option Addr} {va vk : Value} {K Za Z27 Z28 Z29 : Nat → Prop} {us ts : List Value} {b1 m1 n1 p1 p2 p3 q : Nat} {v29 : Value}
    (hst : St w0 wA stop) (hb : Below wA.heap.size wA W) (hk : Kz W wA.heap.size nk K vk) (hnk : nk ≤ 1000) (hTT : Rc.Told b ds KK) (hT0 : (Rc.get (b.drop KK)).2 = 0) (hbl : b.length ≤ 1048576) (hv : Bs w0 (.slice ao b.length c) b) (hn6 : ds.length ≤ 1000000) (hdl : ∀ d ∈ ds, d.length ≤ 100000000)
    (hal : Keeps Za W (Al aB va ds)) (hpU : Pieces W wA.heap.size us ds) (hpT : Pieces W wA.heap.size ts ds) (k27 : Keeps Z27 W (fun V => V.ownsRow 0 22 1 (.slice a27 ds.length c27) ds.length us)) (k28 : Keeps Z28 W (fun V => V.ownsRow 0 22 1 (.slice a28 ds.length c28) ds.length ts))
    (h19o : W.ownsRow wA.heap.size 22 1 (.slice a19 ds.length c19) ds.length ts) (hw1 : Keeps Z29 W (fun V => Wr V b1 m1 v29 n1 n1 [102, 105, 114, 115, 116]))
    (e1 : p1 ≤ p2) (e2 : p2 ≤ p3) (e3 : p3 ≤ q) (e4 : q ≤ W.heap.size)
    (bK : ∀ k, K k → k < p1) (bU : ∀ k, Of us k → p1 ≤ k ∧ k < p2) (bT : ∀ k, Of ts k → p2 ≤ k ∧ k < p3) (b19 : ∀ k, (Value.slice a19 ds.length c19).ownBlock = some k → p2 ≤ k ∧ k < p3) (ba : ∀ k, Za k → p3 ≤ k ∧ k < q) (b27 : ∀ k, Z27 k → q ≤ k) (b28 : ∀ k, Z28 k → q ≤ k)
    (b29 : ∀ k, Z29 k → (p1 ≤ k ∧ k < p2 ∧ ¬ Of us k) ∨ q ≤ k) (aT : ∀ k, Of ts k → (Value.slice a19 ds.length c19).ownBlock ≠ some k)
    (hs : A.tmps.size = 464) (hd : A.defers = []) (h0 : A.tmps.getD 0 undef = .slice ao b.length c) (h3 : A.tmps.getD 3 undef = .pointer (some ⟨w0.heap.size, 0, none⟩)) (h4 : A.tmps.getD 4 undef = .pointer (some ⟨w0.heap.size + 1, 0, none⟩)) (h5 : A.tmps.getD 5 undef = vk) (h24 : A.tmps.getD 24 undef = .pointer (some ⟨aB, 0, none⟩)) (h19 : A.tmps.getD 19 undef = .slice a19 ds.length c19) (h27 : A.tmps.getD 27 undef = .slice a27 ds.length c27) (h28 : A.tmps.getD 28 undef = .slice a28 ds.length c28) (h29 : A.tmps.getD 29 undef = v29) : Goes 23 w0 A W := by
  have z27 := k27.1
  have z28 := k28.1
  have z29 := hw1.1
  refine seg23 (Z := Z27) (R := fun _ => True) hb hk (by omega) hn6 hdl hpU (k27.imp (fun V h => ⟨h, trivial⟩)) (fun k e e' => ?_) (fun k e e' => ?_) (fun k e e' => ?_) hs hd h5 h27 ?_
  · have := b27 k e; have := bK k e'; omega
  · have := b27 k e'; have := bU k e; omega
  · have := bU k e; have := bK k e'; omega
  intro A1 w1 vk1 hkl hsm h51
  obtain ⟨g1, g2, g0, g3, g4, g17, g19, g24, g27, g28, g29, g32⟩ := hsm
  have g0 := g0.trans h0
  have g3 := g3.trans h3
  have g4 := g4.trans h4
  have g19 := g19.trans h19
  have g24 := g24.trans h24
  have g28 := g28.trans h28
  have g29 := g29.trans h29
  have hbb := hkl.down hb (fun k e => (hk.lt k e).1) hpU
  have hs1 := hkl.2.2.2.2.1
  have off : ∀ k, p2 ≤ k ∨ (p1 ≤ k ∧ ¬ Of us k) → ¬ Kt K us ds.length k := fun k h e => by
    rcases kt_of e with h' | h'
    · have := bK k h'; omega
    · rcases h with h | h
      · have := bU k h'; omega
      · exact h.2 h'
  have hal1 := hal.mv hkl.2 (fun k e => off k (.inl (by have := ba k e; omega)))
  have kT1 := (pieces_keep hpT).mv hkl.2 (fun k e => off k (.inl (bT k e).1))
  have k281 := k28.mv hkl.2 (fun k e => off k (.inl (by have := b28 k e; omega)))
  have k191 := (own_keep h19o).mv hkl.2 (fun k e => off k (.inl (b19 k e).1))
  have k291 := hw1.mv hkl.2 (fun k e => off k (by
    rcases b29 k e with h | h
    · exact .inr ⟨h.1, h.2.2⟩
    · exact .inl (by omega)))
  obtain ⟨K1, hK1⟩ : ∃ K1 : Nat → Prop, K1 = fun k => Kt K us ds.length k ∨ (W.heap.size ≤ k ∧ k < w1.heap.size) := ⟨_, rfl⟩
  have hk1 := hkl.1
  rw [← hK1] at hk1
  have off1 : ∀ k, k < W.heap.size → p2 ≤ k ∨ (p1 ≤ k ∧ ¬ Of us k) → ¬ K1 k := fun k hlt h e => by
    rw [hK1] at e
    rcases e with e | e
    · exact off k h e
    · omega
  clear hK1 hkl hpU hk hb hal hpT k27 k28 h19o hw1 h0 h3 h4 h5 h24 h19 h27 h28 h29 hs hd
  refine seg24 hn6 hal1.here (fun i h => row_piece k191.here kT1.here i h) g1 g2 h51 g24 g19 ?_
  intro A2 w2 hb2 hsm h52
  obtain ⟨f1, f2, f0, f3, f4, f17, f19, f24, f27, f28, f29, f32⟩ := hsm
  have f0 := f0.trans g0
  have f3 := f3.trans g3
  have f4 := f4.trans g4
  have f19 := f19.trans g19
  have f24 := f24.trans g24
  have f28 := f28.trans g28
  have f29 := f29.trans g29
  have hs2 := hb2.size
  have hbb2 := hbb.trans (hb2.mono hbb.size)
  have hal2 := hal1.later hb2
  have kT2 := kT1.later hb2
  have k282 := k281.later hb2
  have k192 := k191.later hb2
  have k292 := k291.later hb2
  have hk2 := hk1.later hb2
  have hlt1 := fun k e => (hk1.lt k e).2
  clear g0 g3 g4 g19 g24 g28 g29 hbb hal1 kT1 k281 k191 k291 hk1
  refine seg25 k192.here hn6 hbb2.size f1 f2 h52 f19 ?_
  intro A3 w3 v32 hwr hvb hfr hsm h53
  obtain ⟨g1, g2, g0, g3, g4, g17, g19, g24, g27, g28, g29, g32⟩ := hsm
  have g0 := g0.trans f0
  have g3 := g3.trans f3
  have g4 := g4.trans f4
  have g24 := g24.trans f24
  have g28 := g28.trans f28
  have g29 := g29.trans f29
  have g32 : A3.tmps.getD 32 undef = v32 := g32
  have hs3 := hfr.2.2.2.1
  have hm := hfr.mv
  have off3 : ∀ k, ¬ (p2 ≤ k ∧ k < p3) ∨ (Value.slice a19 ds.length c19).ownBlock ≠ some k → ¬ ((Value.slice a19 ds.length c19).ownBlock = some k ∨ none = some k) := fun k h e => by
    rcases e with e | e
    · rcases h with h | h
      · exact h (b19 k e)
      · exact h e
    · cases e
  have hbb3 := hbb2.trans (hm.below hbb2.size (fun k e => by
    rcases e with e | e
    · exact (k192.here.lt k e).1
    · cases e))
  have hal3 := hal2.mv hm (fun k e => off3 k (.inl (by have := ba k e; omega)))
  have kT3 := kT2.mv hm (fun k e => off3 k (.inr (aT k e)))
  have k283 := k282.mv hm (fun k e => off3 k (.inl (by have := b28 k e; omega)))
  have k293 := k292.mv hm (fun k e => off3 k (.inl (by have := b29 k e; omega)))
  have hk3 := hk2.mv hm (fun k e => off3 k (.inl (fun h => off1 k (by omega) (.inl h.1) e)))
  have k323 := wr_keep hwr
  clear f0 f3 f4 f19 f24 f28 f29 hbb2 hal2 kT2 k282 k192 k292 hk2 hwr hfr hm
  refine seg26 hn6 hal3.here (fun i h => row_piece k283.here kT3.here i h) g1 g2 h53 g24 g28 ?_
  intro A4 w4 hb4 hsm h54
  obtain ⟨f1, f2, f0, f3, f4, f17, f19, f24, f27, f28, f29, f32⟩ := hsm
  have f0 := f0.trans g0
  have f3 := f3.trans g3
  have f4 := f4.trans g4
  have f24 := f24.trans g24
  have f28 := f28.trans g28
  have f29 := f29.trans g29
  have f32 := f32.trans g32
  have hs4 := hb4.size
  have hbb4 := hbb3.trans (hb4.mono hbb3.size)
  have hal4 := hal3.later hb4
  have kT4 := kT3.later hb4
  have k284 := k283.later hb4
  have k294 := k293.later hb4
  have k324 := k323.later hb4
  have hk4 := hk3.later hb4
  clear g0 g3 g4 g24 g28 g29 g32 hbb3 hal3 kT3 k283 k293 k323 hk3
  refine seg27 (Z := Z28) (R := fun _ => True) hbb4 hk4 (by omega) hn6 hdl kT4.here (k284.imp (fun V h => ⟨h, trivial⟩)) (fun k e => off1 k (z28 k e) (.inl (by have := b28 k e; omega))) (fun k e e' => ?_) (fun k e => off1 k (by have := bT k e; omega) (.inl (bT k e).1)) f1 f2 h54 f28 ?_
  · have := b28 k e'; have := bT k e; omega
  intro A5 w5 vk5 hkl hsm h55
  obtain ⟨g1, g2, g0, g3, g4, g17, g19, g24, g27, g28, g29, g32⟩ := hsm
  have g0 := g0.trans f0
  have g3 := g3.trans f3
  have g4 := g4.trans f4
  have g24 := g24.trans f24
  have g29 := g29.trans f29
  have g32 := g32.trans f32
  have hbb5 := hkl.down hbb4 (fun k e => (hk4.lt k e).1) kT4.here
  have off5 : ∀ k, ¬ K1 k → ¬ Of ts k → ¬ Kt K1 ts ds.length k := fun k h h' e => (kt_of e).elim h h'
  have hal5 := hal4.mv hkl.2 (fun k e => off5 k (off1 k (by have := ba k e; omega) (.inl (by have := ba k e; omega))) (fun e' => by have := ba k e; have := bT k e'; omega))
  have k295 := k294.mv hkl.2 (fun k e => off5 k (off1 k (z29 k e) (by
    rcases b29 k e with h | h
    · exact .inr ⟨h.1, h.2.2⟩
    · exact .inl (by omega))) (fun e' => by have := b29 k e; have := bT k e'; omega))
  have k325 := k324.mv hkl.2 (fun k e => by
    have h : (Value.slice a19 ds.length c19).ownBlock = some k ∨ w2.heap.size ≤ k := by
      rcases e with e | e
      · exact hvb k e
      · exact .inr e.1
    rcases h with h | h
    · exact off5 k (off1 k (by have := b19 k h; omega) (.inl (b19 k h).1)) (fun e' => aT k e' h)
    · exact off5 k (fun e' => by have := hlt1 k e'; omega) (fun e' => by have := bT k e'; omega))
  refine seg28 hst hbb5 hkl.1 (by omega) hTT hT0 hbl hv hal5 (fun k e e' => ?_) k295.here k325.here g1 g2 g0 g3 g4 h55 g24 g29 g32
  have hh := ba k e
  rcases e' with e' | e'
  · exact off5 k (off1 k (by omega) (.inl (by omega))) (fun e' => by have := bT k e'; omega) e'
  · omega
end Go.Proofs.Ytkohlhnkaklnpaa
