import Derived.Test.YtafmiolehlagkaaGreatGm5
import Derived.Test.YtafmiolehlagkaaGreatGm4
import Derived.Deep.RegionHeld3
import Derived.Lib.Varint
import Derived.Test.YtafmiolehlagkaaGreatPSum
import Derived.Lib.Zigzag
import Derived.Laws.BytesArg
import Derived.Test.YtafmiolehlagkaaGreatPRow
/-
  World: Remove's walk.
-/
namespace Go.Proofs.YtafmiolehlagkaaGreat
open Go.RowKit
set_option maxRecDepth 100000
section
variable {w w' : World} {own : Nat → Nat} {gw gp gm gt M M' N : Nat} {vk : Value} {ks : List Kind} {gs fr gs' fr' : List Nat} {f f' : Int × Int → Option Nat} {q q' : Nat → Option Nat} {T T' : Nat → Ts} {C : Co}
/-- What Remove leaves. -/
def Removed (w w' : World) (own : Nat → Nat) (gw : Nat) (vk : Value) (gp gm gt M : Nat) (ks : List Kind) (gs fr : List Nat) (f : Int × Int → Option Nat) (q : Nat → Option Nat) (T : Nat → Ts) (e : Int × Int) (s i : Nat) (k : Nat) : Prop :=
  ∃ (vals' : List Int) (g : Nat) (own' : Nat → Nat), Wx 0 w' own' gw vk gp gm gt (M + 4) ks gs fr (fun y => if y = e then some (s ^^^ 2 ^ k) else if y = e then none else f y) (fun y => if y = s ^^^ 2 ^ k then some g else lessQ q T s y) (moreT (lessQ q T s) (lessT T s i) (s ^^^ 2 ^ k) e vals') ∧ Wk own own' w w' ∧ Wi ks (fun y => if y = e then some (s ^^^ 2 ^ k) else if y = e then none else f y) (fun y => if y = s ^^^ 2 ^ k then some g else lessQ q T s y) (moreT (lessQ q T s) (lessT T s i) (s ^^^ 2 ^ k) e vals') ∧ vals'.length = fsum ks (s ^^^ 2 ^ k) 1 ∧ ∀ r, r ∈ partsL ks (s ^^^ 2 ^ k) 1 vals' ↔ r ∈ partsL ks s 1 (rowOf (T s).2 i) ∧ r.1 ≠ k
set_option maxHeartbeats 8000000 in
theorem wremove_any (h : Wx 0 w own gw vk gp gm gt M ks gs fr f q T) (hw : Wi ks f q T) (a b : Int) (hib : InB (a, b)) (hks : ks.length ≤ 12) (hk4 : ∀ x ∈ ks, x.2.length ≤ 4) (s g i : Nat) (hf : f (a, b) = some s) (hq : q s = some g) (hi : i < (T s).1.length) (hx : (T s).1[i] = (a, b)) (hcnt : ∀ E : List (Int × Int), E.Nodup → (∀ e ∈ E, (f e).isSome = true) → E.length ≤ 200) (hM : M ≤ 800000) (k : Nat) (hk1 : 1 ≤ k) (hk2 : k ≤ ks.length) (hbit : s.testBit k = true) (hl : livesOf gs fr a b = true) :
    Calls Tryz.prog 26 #[.pointer (some ⟨gw, 0, none⟩), .agg #[.int .i64 a, .int .i64 b], .int .i64 (k : Int)] w fun e w' => e = .returned (.int .i64 0) ∧ Removed w w' own gw vk gp gm gt M ks gs fr f q T (a, b) s i k := by
  have hmf : ∀ (fn : Fn) (first cap : Array Value) (w : World), (Instr.makeFunc fn first cap).run Tryz.prog w = .ok (.func fn first cap) w := fun _ _ _ _ => rfl
  obtain ⟨⟨hs, hsb⟩, hcol, -, -, -, -⟩ := hw.2 s g hq
  obtain ⟨w2, hw2⟩ : ∃ X, X = (w.alloc (.cells #[.int .i64 a, .int .i64 b] 29)).alloc (.cells #[.int .i64 (k : Int)] 3) := ⟨_, rfl⟩
  have B2 : Hid (Below w.heap.size w w2) := hw2 ▸ below_on (below_alloc w _) (below_alloc _ _)
  have hx1 : w2.heap[w.heap.size]? = some (.cells #[.int .i64 a, .int .i64 b] 29 (0, 0)) := by
    rw [hw2]
    exact ((below_alloc _ _).block w.heap.size (by simp)).trans (heap_alloc_new w _)
  have hx2 : w2.heap[w.heap.size + 1]? = some (.cells #[.int .i64 (k : Int)] 3 (0, 0)) := by
    have := heap_alloc_new (w.alloc (.cells #[.int .i64 a, .int .i64 b] 29)) (.cells #[.int .i64 (k : Int)] 3)
    rw [hw2]
    simpa using this
  have HW : Hid (∀ W, Below w2.heap.size w2 W → W.cell? ⟨w.heap.size, 0, none⟩ = some (.int .i64 a) ∧ W.cell? ⟨w.heap.size, 1, none⟩ = some (.int .i64 b) ∧ W.cell? ⟨w.heap.size + 1, 0, none⟩ = some (.int .i64 (k : Int))) := fun W hW => by
    have h5 := (hW.block _ (lt_of_block hx2)).trans hx2
    refine ⟨(kx_cells hx1 hW).1, (kx_cells hx1 hW).2, ?_⟩
    rw [cell_of_row W _ _ _ 3 (0, 0) h5]
    rfl
  have JH : Hid (Calls Tryz.prog 76 #[.pointer (some ⟨gw, 0, none⟩), .agg #[.int .i64 a, .int .i64 b], .int .i64 (k : Int)] w2 fun e w' => e = .returned (.int .i64 0) ∧ Below w2.heap.size w2 w') := by
    have := haspart_any (h.later B2.out) a b (k : Int) hib hks s hs (fun _ => hf)
    have e0 : hasE ks (livesOf gs fr a b) s (k : Int) = 0 := by
      unfold hasE
      rw [hl, if_pos rfl, if_pos ⟨by omega, by omega⟩, Int.toNat_natCast, if_pos hbit]
    rw [e0] at this
    exact this
  have JP : Hid (∀ W, Below w2.heap.size w2 W → Calls Tryz.prog 78 #[.pointer (some ⟨gw, 0, none⟩), .agg #[.int .i64 a, .int .i64 b]] W fun e w7 => ∃ (a7 : Option Addr) (n7 c7 : Nat), e = .returned (.slice a7 n7 c7) ∧ w7.cell? ⟨w.heap.size, 0, none⟩ = some (.int .i64 a) ∧ w7.cell? ⟨w.heap.size, 1, none⟩ = some (.int .i64 b) ∧ w7.cell? ⟨w.heap.size + 1, 0, none⟩ = some (.int .i64 (k : Int)) ∧ Hid (Calls Tryz.prog 77 #[.slice a7 n7 c7, .func (.func 79) #[] #[.pointer (some ⟨w.heap.size + 1, 0, none⟩)]] w7 fun e w8 => ∃ (a8 : Option Addr) (n8 c8 : Nat), e = .returned (.slice a8 n8 c8) ∧ w8.cell? ⟨w.heap.size, 0, none⟩ = some (.int .i64 a) ∧ w8.cell? ⟨w.heap.size, 1, none⟩ = some (.int .i64 b) ∧
      Hid (Calls Tryz.prog 80 #[.pointer (some ⟨gw, 0, none⟩), .agg #[.int .i64 a, .int .i64 b]] w8 fun e w9 => e = .returned (.tuple #[]) ∧ w9.cell? ⟨w.heap.size, 0, none⟩ = some (.int .i64 a) ∧ w9.cell? ⟨w.heap.size, 1, none⟩ = some (.int .i64 b) ∧ Hid (Calls Tryz.prog 67 #[.pointer (some ⟨gw, 0, none⟩), .agg #[.int .i64 a, .int .i64 b], .slice a8 n8 c8] w9 fun e w' => e = .returned (.tuple #[]) ∧ Removed w w' own gw vk gp gm gt M ks gs fr f q T (a, b) s i k)))) := fun W hW => by
    refine (parts_any (h.later (below_on B2.out hW)) a b hib hks s g i hf hq hs hi hx hcol).mono ?_
    rintro e w7 ⟨v, rfl, L, l1, l2, l3⟩
    obtain ⟨a7, n7, c7, rfl⟩ := own_slice l1
    have hb7 : Below w2.heap.size w2 w7 := below_on hW l3
    have hbw : Below w.heap.size w w7 := below_on B2.out hb7
    have h2s := B2.out.size
    have hWs := hW.size
    have l1' := own_lower l1 (show w.heap.size ≤ W.heap.size by omega)
    have l2' : Pv w.heap.size w7 L (partsL ks s 1 (rowOf (T s).2 i)) := ⟨l2.1, fun i h1 h2 => ⟨(l2.2 i h1 h2).1, own_lower (l2.2 i h1 h2).2 (by omega)⟩⟩
    obtain ⟨A, Bq, p, R, hL, hA, hB, hp, hpv, hR, hpg, hset⟩ := parts_less l2' ((rowOf_len _ _).trans hcol) hsb hks hk1 hk2 hbit
    obtain ⟨c0, c1, c2⟩ := HW.out w7 hb7
    refine ⟨a7, n7, c7, rfl, c0, c1, c2, ?_⟩
    have hn7 : n7 = L.length := by
      obtain ⟨x, y, e⟩ := own_len l1
      simp only [Value.slice.injEq] at e
      exact e.2.1
    have hkb7 := (hb7.block _ (lt_of_block hx2)).trans hx2
    have hkx7 := (hb7.block _ (lt_of_block hx1)).trans hx1
    have l1s : w7.ownsRow w.heap.size 32 2 (.slice a7 n7 c7) n7 (pz (A ++ p :: Bq)) := by
      rw [← hL, hn7]
      rw [hn7] at l1'
      exact l1'
    refine (delete_fn hkb7 l1s hA hB hp).mono ?_
    rintro e w8 ⟨v8, rfl, ob, o8, g8⟩
    obtain ⟨a8, n8, c8, rfl⟩ := own_slice o8
    have hnk : (Value.slice a7 n7 c7).ownBlock ≠ some w.heap.size := fun e => by have := (l1.lt _ e).1; have := lt_of_block hx1; omega
    have hkx8 : w8.heap[w.heap.size]? = some (.cells #[.int .i64 a, .int .i64 b] 29 (0, 0)) := (g8.block _ (lt_of_block hkx7) (fun e => hnk e.symm)).trans hkx7
    have hb8 : Below w.heap.size w w8 := hbw.grown g8 hbw.size (fun q e => (l1s.lt q e).1)
    have pv8 : Pv w.heap.size w8 (A ++ Bq) R := hpv w8 (fun j h1 h2 => own_kept (l2'.2 j h1 h2).2 g8 (fun q e e2 => own_kinds (l2'.2 j h1 h2).2 l1s (by decide) e e2))
    obtain ⟨d0, d1⟩ := kx_cells hkx8 (Below.refl _ w8)
    refine ⟨a8, n8, c8, rfl, d0, d1, ?_⟩
    refine (drop_any (h.later hb8) a b hib s g i hf hq hs hi hx (by omega)).mono ?_
    rintro e w9 ⟨rfl, own1, r1, r2⟩
    have hnl : ¬ (rel own w 0 w.heap.size ≠ 0) := fun e => e (rel_new (Nat.le_refl _))
    obtain ⟨d0, d1⟩ := kx_cells (r2.mv.at hkx8 hnl) (Below.refl _ w9)
    refine ⟨rfl, d0, d1, ?_⟩
    have hc2 : ∀ E : List (Int × Int), E.Nodup → (∀ e ∈ E, ((fun y => if y = (a, b) then none else f y) e).isSome = true) → E.length < 200 := fun E e1 e2 => by
      have := hcnt (E ++ [(a, b)]) (by
        rw [List.nodup_append]
        refine ⟨e1, by simp, fun y hy z hz e => ?_⟩
        simp only [List.mem_singleton] at hz
        have := e2 y hy
        rw [e, hz] at this
        simp at this) (fun y hy => by
        rcases List.mem_append.1 hy with hy | hy
        · have := e2 y hy
          by_cases c : y = (a, b)
          · simp [c] at this
          · simpa [c] using this
        · rw [List.mem_singleton.1 hy, hf]; rfl)
      rw [List.length_append, List.length_singleton] at this
      omega
    have o8' : w8.ownsRow w.heap.size 32 2 (.slice a8 n8 c8) (A ++ Bq).length (pz (A ++ Bq)) := o8
    refine (pv_put o8' pv8 hb8 hpg hks hk4 r1 r2 (hw.drop hf hi hx) a b hib (if_pos rfl) hc2 (by omega)).mono ?_
    rintro e w' ⟨rfl, vals', g', own', s1, s2, s3, s4, s5⟩
    rw [hset] at s1 s3 s4 s5
    exact ⟨rfl, vals', g', own', s1, s2, s3, s4, fun r => (s5 r).trans (hR r)⟩
  clear h hf hl hx1 hx2 hw hq hi hx hcnt hcol hsb hib hk4 hbit
  go_enter Tryz.func26, Tryz.ntmps26
  go_wp2_with fail
  rw [← hw2]
  obtain ⟨kx, hkx⟩ : ∃ k, k = w.heap.size := ⟨_, rfl⟩
  obtain ⟨kp, hkp⟩ : ∃ k, k = w.heap.size + 1 := ⟨_, rfl⟩
  rw [← hkp] at HW JP ⊢
  rw [← hkx] at HW JP ⊢
  clear hkx hkp hw2
  refine JH.out.mono ?_
  rintro e w3 ⟨rfl, hb3⟩
  obtain ⟨p0, p1, p2⟩ := HW.out w3 hb3
  have J4 := hide (JP.out w3 hb3)
  clear hb3 JH HW JP
  go_wp2_with fail
  refine J4.out.mono ?_
  rintro e w7 ⟨a7, n7, c7, rfl, q0, q1, q2, J7⟩
  clear J4 p0 p1 p2
  go_wp2_with fail
  refine J7.out.mono ?_
  rintro e w8 ⟨a8, n8, c8, rfl, p0, p1, J8⟩
  clear J7 q0 q1 q2
  go_wp2_with fail
  refine J8.out.mono ?_
  rintro e w9 ⟨rfl, q0, q1, J9⟩
  clear J8 p0 p1
  go_wp2_with fail
  refine J9.out.mono ?_
  rintro e w10 ⟨rfl, HE⟩
  have HEE := hide HE
  clear HE J9
  go_wp2_with fail
  go_ret
  exact ⟨rfl, HEE.out⟩
end
/-! ### Told by who lives with what -/
section
variable {w w' : World} {own : Nat → Nat} {gw N : Nat} {ks : List Kind} {gs fr : List Nat} {C : Co}
theorem Wn.remove (h : Wn w own gw N ks gs fr C) (hN : N ≤ 800000) (a b : Int) (k : Nat) (s : Nat) (old : List Int) (hc : C (a, b) = some (s, old)) (hk1 : 1 ≤ k) (hk2 : k ≤ ks.length) (hbit : s.testBit k = true) :
    Calls Tryz.prog 26 #[.pointer (some ⟨gw, 0, none⟩), .agg #[.int .i64 a, .int .i64 b], .int .i64 (k : Int)] w fun e w' => e = .returned (.int .i64 0) ∧ ∃ (vals' : List Int) (own' : Nat → Nat), Wn w' own' gw (N + 4) ks gs fr (fun y => if y = (a, b) then some (s ^^^ 2 ^ k, vals') else C y) ∧ Wk own own' w w' ∧ vals'.length = fsum ks (s ^^^ 2 ^ k) 1 ∧ ∀ r, r ∈ partsL ks (s ^^^ 2 ^ k) 1 vals' ↔ r ∈ partsL ks s 1 old ∧ r.1 ≠ k := by
  have ho := h.ok
  obtain ⟨vk, gp, gm, gt, q, T, h1, h2, h3, h4, h5, h6⟩ := h
  have hf := fC_some hc
  obtain ⟨hs, ⟨g, hq⟩, -⟩ := h2.1 _ s hf
  obtain ⟨i, hi, hx, hrow⟩ := h3 _ s old hc
  have hl : livesOf gs fr a b = true := by rw [h5, hc]; rfl
  refine (wremove_any h1 h2 a b (inb_of ho hl) h4.2.1 (fun x hx => (h4.2.2.1 x hx).1) s g i hf hq hi hx (fun E e1 e2 => lives_cnt h5 ho.2.2.1 E e1 e2) hN k hk1 hk2 hbit hl).mono ?_
  rintro e w' ⟨rfl, vals', g', own', r1, r2, r3, r4, r5⟩
  have hfe : (fun y => if y = (a, b) then some (s ^^^ 2 ^ k) else if y = (a, b) then none else fC C y) = fC (fun y => if y = (a, b) then some (s ^^^ 2 ^ k, vals') else C y) := by
    rw [fC_more]
    funext y
    by_cases c : y = (a, b) <;> simp [c]
  rw [hfe] at r1 r3
  rw [hrow] at r5
  refine ⟨rfl, vals', own', ⟨vk, gp, gm, gt, _, _, r1, r3, ?_, h4, fun c d => ?_, fun e s' vs he => ?_⟩, r2, r4, r5⟩
  · have hd := h3.drop h2 hf hi hx
    have hwd : Wi ks (fC (fun x => if x = (a, b) then none else C x)) (lessQ q T s) (lessT T s i) := by
      rw [fC_less]
      exact h2.drop hf hi hx
    have hp := hd.put hwd (e := (a, b)) (s := s ^^^ 2 ^ k) (vals := vals') r4
    intro e s' vs he
    refine hp e s' vs ?_
    dsimp only at he ⊢
    by_cases c : e = (a, b)
    · rw [if_pos c] at he ⊢
      exact he
    · rw [if_neg c] at he ⊢
      rw [if_neg c]
      exact he
  · rw [h5]
    dsimp only
    by_cases e : (c, d) = (a, b)
    · rw [if_pos e, e, hc]
      rfl
    · rw [if_neg e]
  · dsimp only at he
    by_cases c : e = (a, b)
    · rw [if_pos c] at he
      simp only [Option.some.injEq, Prod.mk.injEq] at he
      obtain ⟨rfl, rfl⟩ := he
      have hflat := partsL_flat ks (s ^^^ 2 ^ k) 1 vals' r4
      intro z hz
      rw [← hflat] at hz
      obtain ⟨r, hr, hzr⟩ := List.mem_flatMap.1 hz
      exact h6 _ _ _ hc z (partsL_sub ks s 1 old r ((r5 r).1 hr).1 z hzr)
    · rw [if_neg c] at he
      exact h6 e s' vs he
theorem Wn.set (h : Wn w own gw N ks gs fr C) (a b : Int) (k : Nat) (s : Nat) (old vals : List Int) (hc : C (a, b) = some (s, old)) (hk1 : 1 ≤ k) (hk2 : k ≤ ks.length) (hbit : s.testBit k = true) (av : Option Addr) (nv cv : Nat) (hvs : Iz w (.slice av nv cv) vals) (hv0 : ∀ k, (Value.slice av nv cv).ownBlock = some k → own k = 0 ∧ k < w.heap.size) (hnv : nv = (ks.getD (k - 1) (ByteArray.empty, [])).2.length) (hfit : Pak.Rw.AllFit vals) :
    Calls Tryz.prog 35 #[.pointer (some ⟨gw, 0, none⟩), .agg #[.int .i64 a, .int .i64 b], .agg #[.int .i64 (k : Int), .slice av nv cv]] w fun e w' => e = .returned (.int .i64 0) ∧ ∃ (own' : Nat → Nat), Wn w' own' gw N ks gs fr (fun y => if y = (a, b) then some (s, old.take (fsum (ks.take (k - 1)) s 1) ++ vals ++ old.drop (fsum (ks.take (k - 1)) s 1 + vals.length)) else C y) ∧ Wk own own' w w' := by
  have ho := h.ok
  obtain ⟨vk, gp, gm, gt, q, T, h1, h2, h3, h4, h5, h6⟩ := h
  have hf := fC_some hc
  obtain ⟨hs, ⟨g, hq⟩, -⟩ := h2.1 _ s hf
  obtain ⟨i, hi, hx, hrow⟩ := h3 _ s old hc
  have hl : livesOf gs fr a b = true := by rw [h5, hc]; rfl
  obtain ⟨hsp, hcol, hnd, hmem, hne0, hcl⟩ := h2.2 s g hq
  have hvl : vals.length = nv := by
    obtain ⟨ao, c, e, -⟩ := hvs
    simp only [Value.slice.injEq] at e
    exact e.2.1.symm
  have hfk : fsum (ks.take (k - 1)) s 1 + nv ≤ (T s).2.length := by
    have g1 := fsum_take ks s (k - 1) (by omega)
    have g2 := fsum_take_le ks s (k - 1 + 1)
    rw [show k - 1 + 1 = k by omega] at g1 g2
    rw [if_pos hbit] at g1
    rw [hnv, getD_getElem _ _ _ (by omega), hcol]
    omega
  refine (wset_any h1 h2 a b (inb_of ho hl) h4.2.1 (fun x hx => (h4.2.2.1 x hx).1) s g i hf hq hi hx k hk1 hk2 hbit av nv cv vals hvs hv0 hl hnv).mono ?_
  rintro e w' ⟨rfl, own', r1, r2⟩
  have hfe : fC (fun y => if y = (a, b) then some (s, old.take (fsum (ks.take (k - 1)) s 1) ++ vals ++ old.drop (fsum (ks.take (k - 1)) s 1 + vals.length)) else C y) = fC C := by
    rw [fC_more]
    funext y
    by_cases c : y = (a, b)
    · rw [if_pos c, c, hf]
    · rw [if_neg c]
  have hself := row_setC_self hcl hi hfk hvl
  rw [hrow] at hself
  refine ⟨rfl, own', ⟨vk, gp, gm, gt, q, _, by rw [hfe]; exact r1, ?_, fun e s' vs he => ?_, h4, fun c d => ?_, fun e s' vs he => ?_⟩, r2⟩
  · rw [hfe]
    refine ⟨fun e s' he => ?_, fun s' g' hg' => ?_⟩
    · obtain ⟨m1, m2, m3⟩ := h2.1 e s' he
      refine ⟨m1, m2, ?_⟩
      unfold setT
      by_cases c : s' = s
      · rw [if_pos c]
        rw [c] at m3
        exact m3
      · rw [if_neg c]
        exact m3
    · obtain ⟨m1, m2, m3, m4, m5, m6⟩ := h2.2 s' g' hg'
      unfold setT
      by_cases c : s' = s
      · subst c
        rw [if_pos rfl]
        exact ⟨m1, by rw [setC_len]; exact m2, m3, m4, m5, setC_cols m6 hfk⟩
      · rw [if_neg c]
        exact ⟨m1, m2, m3, m4, m5, m6⟩
  · dsimp only at he
    by_cases c : e = (a, b)
    · rw [if_pos c] at he
      simp only [Option.some.injEq, Prod.mk.injEq] at he
      obtain ⟨rfl, rfl⟩ := he
      unfold setT
      rw [if_pos rfl]
      exact ⟨i, hi, hx.trans c.symm, by rw [hself, hvl]⟩
    · rw [if_neg c] at he
      obtain ⟨j, hj, e1, e2⟩ := h3 e s' vs he
      unfold setT
      by_cases d : s' = s
      · subst d
        rw [if_pos rfl]
        refine ⟨j, hj, e1, ?_⟩
        rw [row_setC_other hfk (fun e' => c (by subst e'; exact e1.symm.trans hx))]
        exact e2
      · rw [if_neg d]
        exact ⟨j, hj, e1, e2⟩
  · rw [h5]
    dsimp only
    by_cases e : (c, d) = (a, b)
    · rw [if_pos e, e, hc]
      rfl
    · rw [if_neg e]
  · dsimp only at he
    by_cases c : e = (a, b)
    · rw [if_pos c] at he
      simp only [Option.some.injEq, Prod.mk.injEq] at he
      obtain ⟨rfl, rfl⟩ := he
      intro z hz
      rcases List.mem_append.1 hz with hz | hz
      · rcases List.mem_append.1 hz with hz | hz
        · exact h6 _ _ _ hc z (List.mem_of_mem_take hz)
        · exact hfit z hz
      · exact h6 _ _ _ hc z (List.mem_of_mem_drop hz)
    · rw [if_neg c] at he
      exact h6 e s' vs he
end
end Go.Proofs.YtafmiolehlagkaaGreat

/-
  World: a deed on one that lives.
-/
namespace Go.Proofs.YtafmiolehlagkaaGreat
open Go.RowKit
set_option maxRecDepth 100000
/-- Something was done to one that lives: all others are as they were, nobody came or went. -/
def Deeded (w : World) (own : Nat → Nat) (gw N : Nat) (gs fr : List Nat) (C : Co) (w' : World) : Prop :=
  ∃ own' C', Wn w' own' gw (N + 4) usualK gs fr C' ∧ Wk own own' w w' ∧ ∀ x, (C' x).isSome = (C x).isSome
section
variable {w w' : World} {own : Nat → Nat} {gw N : Nat} {gs fr : List Nat} {C : Co}
theorem Deeded.same (h : Wn w own gw N usualK gs fr C) (hb : Below w.heap.size w w') : Deeded w own gw N gs fr C w' := ⟨_, C, (h.later hb).up (by omega), Wk.later hb, fun _ => rfl⟩
theorem Wn.inb (h : Wn w own gw N usualK gs fr C) {a b : Int} {p : Nat × List Int} (hc : C (a, b) = some p) : InB (a, b) ∧ livesOf gs fr a b = true := by
  have ho := h.ok
  obtain ⟨vk, gp, gm, gt, q, T, h1, h2, h3, h4, h5, h6⟩ := h
  have : livesOf gs fr a b = true := by rw [h5, hc]; rfl
  exact ⟨inb_of ho this, this⟩
theorem c4_fields {kk : Nat} (hk : kk < 4) : c4 kk = (usualK.getD kk (ByteArray.empty, [])).2.length := by
  match kk, hk with
  | 0, _ => rfl
  | 1, _ => rfl
  | 2, _ => rfl
  | 3, _ => rfl
end
end Go.Proofs.YtafmiolehlagkaaGreat

/-
  World: does: a deed.
-/
namespace Go.Proofs.YtafmiolehlagkaaGreat
open Go.RowKit
set_option maxRecDepth 100000
theorem box4 {w W : World} {k : Nat} {a b c d : Int} (h : w.heap[k]? = some (.cells #[.int .i64 a, .int .i64 b, .int .i64 c, .int .i64 d] 69 (0, 0))) (hb : Below w.heap.size w W) : W.cell? ⟨k, 0, none⟩ = some (.int .i64 a) ∧ W.cell? ⟨k, 1, none⟩ = some (.int .i64 b) ∧ W.cell? ⟨k, 2, none⟩ = some (.int .i64 c) ∧ W.cell? ⟨k, 3, none⟩ = some (.int .i64 d) := by
  have h' : W.heap[k]? = some (.cells #[.int .i64 a, .int .i64 b, .int .i64 c, .int .i64 d] 69 (0, 0)) := (hb.block k (lt_of_block h)).trans h
  refine ⟨?_, ?_, ?_, ?_⟩ <;> rw [cell_of_row W k _ _ 69 (0, 0) h'] <;> rfl
section
variable {w : World} {own : Nat → Nat} {gw N : Nat} {gs fr : List Nat} {C : Co}
end
end Go.Proofs.YtafmiolehlagkaaGreat

/-
  World: what a world tells hangs on who lives with what alone.
-/
namespace Go.Proofs.YtafmiolehlagkaaGreat
open Go.RowKit
set_option maxRecDepth 100000
/-- Two lists that rise and have the same elements are the same. -/
theorem rise_ext {α : Type} (κ : α → Int) : ∀ (l l' : List α), l.Pairwise (fun x y => κ x < κ y) → l'.Pairwise (fun x y => κ x < κ y) → (∀ e, e ∈ l ↔ e ∈ l') → l = l'
  | [], [], _, _, _ => rfl
  | [], b :: t, _, _, h => by
    have := (h b).2 List.mem_cons_self
    cases this
  | a :: t, [], _, _, h => by
    have := (h a).1 List.mem_cons_self
    cases this
  | a :: t, b :: t', h1, h2, h => by
    obtain ⟨a1, a2⟩ := List.pairwise_cons.1 h1
    obtain ⟨b1, b2⟩ := List.pairwise_cons.1 h2
    have hab : a = b := by
      rcases List.mem_cons.1 ((h a).1 List.mem_cons_self) with e | e
      · exact e
      · rcases List.mem_cons.1 ((h b).2 List.mem_cons_self) with e' | e'
        · exact e'.symm
        · have := b1 a e
          have := a1 b e'
          omega
    subst hab
    refine congrArg _ (rise_ext κ t t' a2 b2 (fun e => ?_))
    constructor
    · intro he
      rcases List.mem_cons.1 ((h e).1 (List.mem_cons_of_mem _ he)) with e' | e'
      · subst e'
        have := a1 e he
        omega
      · exact e'
    · intro he
      rcases List.mem_cons.1 ((h e).2 (List.mem_cons_of_mem _ he)) with e' | e'
      · subst e'
        have := b1 e he
        omega
      · exact e'
/-- Who has the same parts has the same values. -/
theorem cont_ext {ks : List Kind} {s : Nat} {vals vals' : List Int} (h1 : vals.length = fsum ks s 1) (h2 : vals'.length = fsum ks s 1) (h : ∀ r, r ∈ partsL ks s 1 vals ↔ r ∈ partsL ks s 1 vals') : vals = vals' := by
  have e : partsL ks s 1 vals = partsL ks s 1 vals' := rise_ext (fun r => (r.1 : Int)) _ _ ((partsL_pair ks s 1 vals).imp (fun {x y} hxy => by omega)) ((partsL_pair ks s 1 vals').imp (fun {x y} hxy => by omega)) h
  rw [← partsL_flat ks s 1 vals h1, e, partsL_flat ks s 1 vals' h2]
theorem livers_rise {gs fr : List Nat} {C : Co} {E : List (Int × Int)} (hl : Lv gs fr C) (h : Livers (fC C) E) : E.Pairwise (fun x y => x.1 < y.1) := by
  obtain ⟨h1, h2, h3, h4⟩ := h
  refine (List.Pairwise.and h1 h2).imp_of_mem (fun {x y} hx hy hxy => ?_)
  by_cases c : x.1 = y.1
  · exfalso
    refine hxy.2 (Prod.ext c ?_)
    have k1 := (h3 x (h4 x hx)).2 hx
    have k2 := (h3 y (h4 y hy)).2 hy
    rw [fC_is, ← hl] at k1 k2
    obtain ⟨i, i1, -, -, i4⟩ := lives_at k1
    obtain ⟨j, j1, -, -, j4⟩ := lives_at k2
    have : i = j := by rw [i1, j1] at c; omega
    subst this
    exact i4.trans j4.symm
  · have := hxy.1
    omega
theorem livers_eq {gs fr : List Nat} {C : Co} {E E' : List (Int × Int)} (hl : Lv gs fr C) (h : Livers (fC C) E) (h' : Livers (fC C) E') : E = E' := by
  refine rise_ext (fun e => e.1) _ _ (livers_rise hl h) (livers_rise hl h') (fun e => ?_)
  constructor
  · intro he
    exact (h'.2.2.1 e (h.2.2.2 e he)).1 ((h.2.2.1 e (h.2.2.2 e he)).2 he)
  · intro he
    exact (h.2.2.1 e (h'.2.2.2 e he)).1 ((h'.2.2.1 e (h'.2.2.2 e he)).2 he)
section
variable {w w' : World} {own own2 : Nat → Nat} {gw gw2 N N2 : Nat} {ks : List Kind} {gs fr : List Nat} {C : Co}
theorem Wn.lv (h : Wn w own gw N ks gs fr C) : Lv gs fr C := by
  obtain ⟨vk, gp, gm, gt, q, T, h1, h2, h3, h4, h5, h6⟩ := h
  exact h5
/-- Rows, by who lives with what. -/
def Rc (B : Nat) (W : World) (ks : List Kind) (C : Co) (v : Value) (R : List Rt) : Prop :=
  W.ownsRow B 87 3 v R.length (rz R) ∧ Livers (fC C) (R.map entR) ∧ ∀ r ∈ R, ∃ s vals L, C (entR r) = some (s, vals) ∧ W.ownsRow B 32 2 (rtV r) L.length (pz L) ∧ Pv B W L (partsL ks s 1 vals)
theorem Rc.later {B : Nat} {v : Value} {R : List Rt} (h : Rc B w ks C v R) (hb : Below w.heap.size w w') : Rc B w' ks C v R := by
  refine ⟨own_later h.1 hb, h.2.1, fun r hr => ?_⟩
  obtain ⟨s, vals, L, e1, e2, e3⟩ := h.2.2 r hr
  exact ⟨s, vals, L, e1, own_later e2 hb, e3.later hb⟩
theorem Wn.rows (h : Wn w own gw N ks gs fr C) : Calls Tryz.prog 29 #[.pointer (some ⟨gw, 0, none⟩)] w fun e w' => ∃ v, e = .returned v ∧ (∃ R, Rc w.heap.size w' ks C v R) ∧ Below w.heap.size w w' := by
  have ho := h.ok
  obtain ⟨vk, gp, gm, gt, q, T, h1, h2, h3, h4, h5, h6⟩ := h
  refine (rows_any h1 h2 h4.2.1 (fun E e1 e2 => lives_cnt h5 ho.2.2.1 E e1 e2)).mono ?_
  rintro e w' ⟨v, rfl, ⟨R, r1, r2, r3, r4, r5, r6⟩, hb⟩
  refine ⟨v, rfl, ⟨R, r1, ⟨List.pairwise_map.2 (r2.imp (fun h => h)), r3, r4, fun e he => ?_⟩, fun r hr => ?_⟩, hb⟩
  · obtain ⟨r, hr, rfl⟩ := List.mem_map.1 he
    exact r6 r hr
  · obtain ⟨s, j, L, e1, ⟨hj, e2⟩, e3, e4, -, -⟩ := r5 r hr
    cases hC : C (entR r) with
    | none => simp [fC, hC] at e1
    | some p =>
      obtain ⟨s', vals⟩ := p
      have : s' = s := by simpa [fC, hC] using e1
      subst this
      obtain ⟨j', hj', k1, k2⟩ := h3 _ s' vals hC
      obtain ⟨_, ⟨g, hq⟩, _⟩ := h2.1 _ s' (fC_some hC)
      have hn := (h2.2 s' g hq).2.2.1
      have : j = j' := nodup_at hn hj hj' (e2.trans k1.symm)
      subst this
      rw [k2] at e4
      exact ⟨s', vals, L, rfl, e3, e4⟩
/-- Snapshots, by who lives with what: the same bytes. -/
theorem Wn.snap (h : Wn w own gw N ks gs fr C) (E : List (Int × Int)) (hE : Livers (fC C) E) : Calls Tryz.prog 13 #[.pointer (some ⟨gw, 0, none⟩)] w fun e w' => ∃ v, e = .returned v ∧ (∃ l, l = Pak.Rw.rowB (zi gs) ++ Pak.Rw.rowB (zi fr) ++ E.flatMap (fun e => oneB ks (C e)) ∧ w'.ownsRow w.heap.size 5 1 v l.length (Lib.byteCells l)) ∧ Below w.heap.size w w' := by
  refine h.snapshot.mono ?_
  rintro e w' ⟨v, rfl, ⟨E', hE', l, hl, ho⟩, hb⟩
  obtain rfl := livers_eq h.lv hE' hE
  exact ⟨v, rfl, ⟨l, hl, ho⟩, hb⟩
end
end Go.Proofs.YtafmiolehlagkaaGreat

/-
  A1 TO A3 READ, AS PLAIN MATHEMATICS: no program in this text. 'getN': what Get tells of bytes. 'unzig': back from zig-zag.
-/
namespace Go.Proofs.YtafmiolehlagkaaGreat.Pak.Dec

def getFrom : Nat → Nat → List UInt8 → Nat × Nat
  | _, _, [] => (0, 0)
  | k, acc, b :: r =>
    if 10 ≤ k then (0, 0)
    else if 128 ≤ b.toNat then getFrom (k + 1) (acc + b.toNat % 128 * 2 ^ (7 * k)) r
    else if (0 < k ∧ b.toNat = 0) ∨ (k = 9 ∧ 1 < b.toNat) then (0, 0)
    else (acc + b.toNat * 2 ^ (7 * k), k + 1)
def getN (l : List UInt8) : Nat × Nat := getFrom 0 0 l

theorem getFrom_nil (k acc : Nat) : getFrom k acc [] = (0, 0) := by unfold getFrom; rfl
theorem getFrom_ten (k acc : Nat) (r : List UInt8) (h : 10 ≤ k) : getFrom k acc r = (0, 0) := by
  cases r with
  | nil => exact getFrom_nil _ _
  | cons b r => unfold getFrom; rw [if_pos h]
theorem getFrom_more {k acc : Nat} {b : UInt8} {r : List UInt8} (hk : k < 10) (hb : 128 ≤ b.toNat) : getFrom k acc (b :: r) = getFrom (k + 1) (acc + b.toNat % 128 * 2 ^ (7 * k)) r := by
  rw [getFrom, if_neg (by omega), if_pos hb]
theorem getFrom_bad {k acc : Nat} {b : UInt8} {r : List UInt8} (hk : k < 10) (hb : b.toNat < 128) (h : (0 < k ∧ b.toNat = 0) ∨ (k = 9 ∧ 1 < b.toNat)) : getFrom k acc (b :: r) = (0, 0) := by
  rw [getFrom, if_neg (by omega), if_neg (by omega), if_pos h]
theorem getFrom_last {k acc : Nat} {b : UInt8} {r : List UInt8} (hk : k < 10) (hb : b.toNat < 128) (h : ¬ ((0 < k ∧ b.toNat = 0) ∨ (k = 9 ∧ 1 < b.toNat))) : getFrom k acc (b :: r) = (acc + b.toNat * 2 ^ (7 * k), k + 1) := by
  rw [getFrom, if_neg (by omega), if_neg (by omega), if_neg h]

/-- What is read lies within the bytes, and fits 64 bits. -/
theorem getFrom_bounds : ∀ (r : List UInt8) (k acc : Nat), k ≤ 10 → acc < 2 ^ (7 * k) → (getFrom k acc r).1 < 18446744073709551616 ∧ (getFrom k acc r).2 ≤ k + r.length ∧ (getFrom k acc r).2 ≤ 10
  | [], k, acc, hk, _ => by rw [getFrom_nil]; exact ⟨by simp, Nat.zero_le _, Nat.zero_le _⟩
  | b :: r, k, acc, hk, ha => by
    by_cases h10 : 10 ≤ k
    · rw [getFrom_ten k acc _ h10]; exact ⟨by simp, Nat.zero_le _, Nat.zero_le _⟩
    have hpow : 2 ^ (7 * (k + 1)) = 128 * 2 ^ (7 * k) := by rw [show 7 * (k + 1) = 7 * k + 7 by omega, Nat.pow_add, Nat.mul_comm]
    by_cases hb : 128 ≤ b.toNat
    · rw [getFrom_more (by omega) hb]
      have hlt : acc + b.toNat % 128 * 2 ^ (7 * k) < 2 ^ (7 * (k + 1)) := by
        have h1 : b.toNat % 128 ≤ 127 := by omega
        have h2 := Nat.mul_le_mul_right (2 ^ (7 * k)) h1
        omega
      obtain ⟨h1, h2, h3⟩ := getFrom_bounds r (k + 1) _ (by omega) hlt
      exact ⟨h1, by simp; omega, h3⟩
    · by_cases hbad : (0 < k ∧ b.toNat = 0) ∨ (k = 9 ∧ 1 < b.toNat)
      · rw [getFrom_bad (by omega) (by omega) hbad]; exact ⟨by simp, Nat.zero_le _, Nat.zero_le _⟩
      · rw [getFrom_last (by omega) (by omega) hbad]
        refine ⟨?_, by simp <;> omega, by simp; try omega⟩
        show acc + b.toNat * 2 ^ (7 * k) < 18446744073709551616
        by_cases h9 : k = 9
        · subst h9
          have hb1 : b.toNat ≤ 1 := by omega
          have h2 := Nat.mul_le_mul_right (2 ^ (7 * 9)) hb1
          have e : 2 ^ (7 * 9) = 9223372036854775808 := by decide
          omega
        · have h1 : b.toNat ≤ 127 := by omega
          have h2 := Nat.mul_le_mul_right (2 ^ (7 * k)) h1
          have h3 : 2 ^ (7 * (k + 1)) ≤ 2 ^ 63 := Nat.pow_le_pow_right (by omega) (by omega)
          have e : 2 ^ 63 = 9223372036854775808 := by decide
          omega
theorem getN_lt (l : List UInt8) : (getN l).1 < 18446744073709551616 := (getFrom_bounds l 0 0 (by omega) (by simp)).1
theorem getN_le (l : List UInt8) : (getN l).2 ≤ l.length := by have := (getFrom_bounds l 0 0 (by omega) (by simp)).2.1; simpa [getN] using this
theorem getN_ten (l : List UInt8) : (getN l).2 ≤ 10 := (getFrom_bounds l 0 0 (by omega) (by simp)).2.2
/-- Where there is none, the number is 0. -/
theorem getFrom_none : ∀ (r : List UInt8) (k acc : Nat), (getFrom k acc r).2 = 0 → (getFrom k acc r).1 = 0
  | [], k, acc, _ => by rw [getFrom_nil]
  | b :: r, k, acc, h => by
    by_cases h10 : 10 ≤ k
    · rw [getFrom_ten k acc _ h10]
    by_cases hb : 128 ≤ b.toNat
    · rw [getFrom_more (by omega) hb] at h ⊢
      exact getFrom_none r _ _ h
    · by_cases hbad : (0 < k ∧ b.toNat = 0) ∨ (k = 9 ∧ 1 < b.toNat)
      · rw [getFrom_bad (by omega) (by omega) hbad]
      · rw [getFrom_last (by omega) (by omega) hbad] at h
        simp at h
theorem getN_none {l : List UInt8} (h : (getN l).2 = 0) : (getN l).1 = 0 := getFrom_none l 0 0 h

/-- Zig-zag undone. -/
def unzig (n : Nat) : Int := if n % 2 = 0 then ((n / 2 : Nat) : Int) else -((n / 2 : Nat) : Int) - 1
theorem unzig_zigzag (x : Int) : unzig (Lib.zigzag x) = x := by unfold unzig Lib.zigzag; split <;> split <;> omega
theorem unzig_bounds {n : Nat} (h : n < 18446744073709551616) : -9223372036854775808 ≤ unzig n ∧ unzig n ≤ 9223372036854775807 := by unfold unzig; split <;> omega

end Go.Proofs.YtafmiolehlagkaaGreat.Pak.Dec

namespace Go.Proofs.YtafmiolehlagkaaGreat.Pak
open Go.RowKit
set_option maxRecDepth 100000

theorem ret_pair {k k' : IntKind} {a b a' b' : Int} (h : a = a') (h' : b = b') : Ending.returned (.tuple #[.int k a, .int k' b]) = .returned (.tuple #[.int k a', .int k' b']) := by rw [h, h']
theorem andNot128 (b : Nat) (hb : b < 256) : bits .andNot .u8 (b : Int) 128 = ((b % 128 : Nat) : Int) := by
  rw [show (128 : Int) = ((128 : Nat) : Int) by rfl, u8_andNot_nat b 128 hb (by omega), nat_mask7]
theorem and128_nat : ∀ b : Fin 256, b.val &&& 128 = if 128 ≤ b.val then 128 else 0 := by decide +kernel
theorem and128 (b : Nat) (hb : b < 256) : bits .and .u8 (b : Int) 128 = if 128 ≤ b then 128 else 0 := by
  rw [show bits .and .u8 (b : Int) 128 = ((b &&& 128 : Nat) : Int) from u8_and_nat b 128 hb (by omega), and128_nat ⟨b, hb⟩]
  split <;> rfl
theorem or_shift {k acc b : Nat} (hacc : acc < 2 ^ (7 * k)) (hb : b * 2 ^ (7 * k) < 18446744073709551616) (hk : k < 10) :
    bits .or .u64 (acc : Int) (IntKind.u64.wrap ((b : Int) * 2 ^ (7 * k))) = ((acc + b * 2 ^ (7 * k) : Nat) : Int) := by
  have e : ((b : Int) * 2 ^ (7 * k)) = ((b * 2 ^ (7 * k) : Nat) : Int) := by
    rw [Int.natCast_mul, Int.natCast_pow]
    rfl
  have hp : 2 ^ (7 * k) ≤ 2 ^ 63 := Nat.pow_le_pow_right (by omega) (by omega)
  have h63 : 2 ^ 63 = 9223372036854775808 := by decide
  rw [e, IntKind.wrap_u64, show (((b * 2 ^ (7 * k) : Nat) : Int) % 18446744073709551616) = ((b * 2 ^ (7 * k) : Nat) : Int) by omega, u64_or_nat _ _ (by omega) hb, Nat.or_comm, nat_join (7 * k) _ _ (Nat.mul_mod_left _ _) hacc, Nat.add_comm]
theorem or_shift9 {acc b : Nat} (hacc : acc < 9223372036854775808) (hb : b ≤ 1) :
    bits .or .u64 (acc : Int) ((b : Int) * 9223372036854775808) = ((acc + b * 2 ^ (7 * 9) : Nat) : Int) := by
  rw [show ((b : Int) * 9223372036854775808) = ((b * 2 ^ (7 * 9) : Nat) : Int) by rw [show (2 : Nat) ^ (7 * 9) = 9223372036854775808 by decide]; omega]
  have hlt : b * 2 ^ (7 * 9) < 18446744073709551616 := by rw [show (2 : Nat) ^ (7 * 9) = 9223372036854775808 by decide]; omega
  rw [u64_or_nat _ _ (by omega) hlt, Nat.or_comm, nat_join (7 * 9) _ _ (Nat.mul_mod_left _ _) hacc, Nat.add_comm]
theorem or_any (x y : Int) : ∃ a : Nat, a < 18446744073709551616 ∧ bits .or .u64 x y = (a : Int) := by
  have h0 := bits_lo_u64 .or x y
  have h1 := bits_hi_u64 .or x y
  exact ⟨(bits .or .u64 x y).toNat, by omega, by omega⟩
theorem pow_bound {k b : Nat} (hk : k < 9) (hb : b ≤ 127) : b * 2 ^ (7 * k) < 18446744073709551616 ∧ 2 ^ (7 * (k + 1)) = 128 * 2 ^ (7 * k) := by
  have h2 := Nat.mul_le_mul_right (2 ^ (7 * k)) hb
  have hp : 2 ^ (7 * k) ≤ 2 ^ 56 := Nat.pow_le_pow_right (by omega) (by omega)
  have h56 : 2 ^ 56 = 72057594037927936 := by decide
  exact ⟨by omega, by rw [show 7 * (k + 1) = 7 * k + 7 by omega, Nat.pow_add, Nat.mul_comm]⟩

set_option maxHeartbeats 4000000 in
set_option maxRecDepth 100000 in
theorem get_some (g o c : Nat) (l : List UInt8) (w : World) (hl : l.length ≤ maxLen) (hcell : ∀ j (hj : j < l.length), w.cell? ⟨g, o + j, none⟩ = some (.int .u8 (l[j]).toNat)) :
    Calls Tryz.prog 176 #[.slice (some ⟨g, o, none⟩) l.length c] w fun e w' => e = .returned (.tuple #[.int .u64 (Dec.getN l).1, .int .i64 (Dec.getN l).2]) ∧ w' = w := by
  unfold maxLen at hl
  by_cases hmin : (l.length : Int) ≤ 10
  all_goals
    go_enter Tryz.func176, Tryz.ntmps176
    go_wp2
    go_loop [4, 11] (fun s i => ∃ k acc : Nat, k ≤ l.length ∧ k ≤ 10 ∧ i = .int .i64 k ∧ s = .int .u64 acc ∧ acc < 18446744073709551616 ∧ (k < 10 → acc < 2 ^ (7 * k)) ∧ Hid (Dec.getN l = Dec.getFrom k acc (l.drop k))) (fun _ i => l.length - (intOf i).toNat)
    case atStart => exact ⟨0, 0, Nat.zero_le _, by omega, rfl, rfl, by omega, by simp, rfl⟩
    case round =>
      obtain ⟨k, acc, hk, hk10, rfl, rfl, ha, hacc, hdec⟩ := hrel
      by_cases hlt : k < l.length ∧ k < 10
      · obtain ⟨hlt, h10⟩ := hlt
        have hc := hcell k hlt
        have hacc1 := hacc h10
        clear hacc
        have HA := hide hacc1
        clear hacc1
        have hdrop : l.drop k = l[k]'(by omega) :: l.drop (k + 1) := List.drop_eq_getElem_cons (by omega)
        have hdec1 := hdec.out
        rw [hdrop] at hdec1
        generalize l[k]'(by omega) = b at hc hdec1
        clear hdec hdrop hcell
        have hb := b.toNat_lt
        have f1 := andNot128 b.toNat hb
        have f2 := and128 b.toNat hb
        have HD := hide hdec1
        clear hdec1
        by_cases hbig : 128 ≤ b.toNat
        · rw [if_pos hbig] at f2
          rcases (show k < 9 ∨ k = 9 by omega) with h9 | rfl
          · have f3 := or_shift (b := b.toNat % 128) HA.out (pow_bound h9 (by omega)).1 h10
            have f3' : bits .or .u64 (acc : Int) (IntKind.u64.wrap ((b.toNat : Int) % 128 * 2 ^ (7 * k))) = ((acc + b.toNat % 128 * 2 ^ (7 * k) : Nat) : Int) := f3
            go_wp2
            refine ⟨⟨k + 1, acc + b.toNat % 128 * 2 ^ (7 * k), by omega, by omega, by go_num, by first | rfl | exact val_int f3', ?_, ?_, HD.out.trans (Dec.getFrom_more h10 hbig)⟩, by simp [intOf]; omega⟩
            · have h1 := HA.out
              have h2 := (pow_bound h9 (show b.toNat % 128 ≤ 127 by omega)).1
              have hp : 2 ^ (7 * k) ≤ 2 ^ 56 := Nat.pow_le_pow_right (by omega) (by omega)
              have h56 : 2 ^ 56 = 72057594037927936 := by decide
              have h3 := Nat.mul_le_mul_right (2 ^ (7 * k)) (show b.toNat % 128 ≤ 127 by omega)
              omega
            · intro _
              rw [(pow_bound h9 (show b.toNat % 128 ≤ 127 by omega)).2]
              have h1 := HA.out
              have h3 := Nat.mul_le_mul_right (2 ^ (7 * k)) (show b.toNat % 128 ≤ 127 by omega)
              omega
          · obtain ⟨a2, ha2, he⟩ := or_any (acc : Int) (IntKind.u64.wrap ((b.toNat : Int) % 128 * 9223372036854775808))
            have HE := hide he
            clear he
            go_wp2
            refine ⟨⟨10, a2, by omega, by omega, rfl, val_int HE.out, ha2, by omega, HD.out.trans ?_⟩, by simp [intOf]; omega⟩
            rw [Dec.getFrom_more (by omega) hbig, Dec.getFrom_ten _ _ _ (by omega), Dec.getFrom_ten _ _ _ (by omega)]
        · rw [if_neg hbig] at f2
          rcases (show k = 0 ∨ (0 < k ∧ k < 9) ∨ k = 9 by omega) with rfl | ⟨hk0, h9⟩ | rfl
          · obtain rfl : acc = 0 := by have := HA.out; simpa using this
            have E := hide (HD.out.trans (Dec.getFrom_last (by omega) (by omega) (by omega)))
            clear HD HA
            have hc0 : w.cell? ⟨g, o, none⟩ = some (.int .u8 b.toNat) := hc
            have f3 : bits .or .u64 0 (b.toNat : Int) = (b.toNat : Int) := by
              have := u64_or_nat 0 b.toNat (by omega) (by omega)
              rw [Nat.zero_or] at this
              exact this
            have F3 := hide f3
            clear f3
            go_wp2
            go_ret2
            rw [E.out]
            exact ⟨ret_pair (by simp; rw [show (b.toNat : Int) % 128 = (b.toNat : Int) by omega]; exact F3.out) (by simp), rfl⟩
          · by_cases hb0 : b.toNat = 0
            · have E := hide (HD.out.trans (Dec.getFrom_bad (by omega) (by omega) (.inl ⟨hk0, hb0⟩)))
              clear HD
              have hz : ((b.toNat : Int) == 0) = true := by simp [hb0]
              have HB := hide hb0
              clear hb0
              go_wp2
              go_ret2
              rw [E.out]
              exact ⟨ret_pair rfl rfl, rfl⟩
            · have E := hide (HD.out.trans (Dec.getFrom_last (by omega) (by omega) (by omega)))
              clear HD
              have hz : ((b.toNat : Int) == 0) = false := by simp [hb0]
              have f3 := or_shift (b := b.toNat) HA.out (pow_bound h9 (by omega)).1 (by omega)
              have F3 := hide f3
              clear f3
              go_wp2
              go_ret2
              rw [E.out]
              exact ⟨ret_pair (by rw [show (b.toNat : Int) % 128 = (b.toNat : Int) by omega]; exact F3.out) (by simp), rfl⟩
          · have hacc9 : acc < 9223372036854775808 := by have := HA.out; simpa using this
            rcases (show b.toNat = 0 ∨ b.toNat = 1 ∨ 1 < b.toNat by omega) with hb0 | hb1 | hb2
            · have E := hide (HD.out.trans (Dec.getFrom_bad (by omega) (by omega) (.inl ⟨by omega, hb0⟩)))
              clear HD
              have hz : ((b.toNat : Int) == 0) = true := by simp [hb0]
              have HB := hide hb0
              clear hb0
              go_wp2
              go_ret2
              rw [E.out]
              exact ⟨ret_pair rfl rfl, rfl⟩
            · have E := hide (HD.out.trans (Dec.getFrom_last (by omega) (by omega) (by omega)))
              clear HD
              have hz : ((b.toNat : Int) == 0) = false := by simp [hb1]
              have hle : (b.toNat : Int) ≤ 1 := by omega
              have f3 := or_shift9 (b := b.toNat) hacc9 (by omega)
              have F3 := hide f3
              have HB := hide hb1
              clear f3 hb1
              go_wp2
              go_ret2
              rw [E.out]
              exact ⟨ret_pair (by rw [show (b.toNat : Int) % 128 = (b.toNat : Int) by omega]; exact F3.out) (by simp), rfl⟩
            · have E := hide (HD.out.trans (Dec.getFrom_bad (by omega) (by omega) (.inr ⟨rfl, hb2⟩)))
              clear HD
              have hz : ((b.toNat : Int) == 0) = false := by rw [beq_eq_false_iff_ne]; omega
              go_wp2
              go_ret2
              rw [E.out]
              exact ⟨ret_pair rfl rfl, rfl⟩
      · have E := hide (hdec.out.trans (show _ = ((0, 0) : Nat × Nat) by
          by_cases h : k < 10
          · rw [List.drop_eq_nil_of_le (by omega)]; exact Dec.getFrom_nil _ _
          · exact Dec.getFrom_ten _ _ _ (by omega)))
        clear hdec
        go_wp2
        go_ret2
        rw [E.out]
        exact ⟨ret_pair rfl rfl, rfl⟩

set_option maxHeartbeats 1000000 in
set_option maxRecDepth 100000 in
theorem get_nil (ao : Option Addr) (c : Nat) (w : World) :
    Calls Tryz.prog 176 #[.slice ao 0 c] w fun e w' => e = .returned (.tuple #[.int .u64 0, .int .i64 0]) ∧ w' = w := by
  go_enter Tryz.func176, Tryz.ntmps176
  go_wp2
  refine wp_loop_rounds 1 ?_
  rw [rounds_succ]
  go_wp2
  go_ret2
  exact ⟨rfl, rfl⟩

/-- Get: what the bytes begin with. -/
theorem get_any (v : Value) (l : List UInt8) (w : World) (h : Bs w v l) :
    Calls Tryz.prog 176 #[v] w fun e w' => e = .returned (.tuple #[.int .u64 (Dec.getN l).1, .int .i64 (Dec.getN l).2]) ∧ w' = w := by
  rcases h.parts with ⟨ao, c, rfl, rfl⟩ | ⟨g, o, c, rfl, _, h1, h2, h3⟩
  · exact get_nil ao c w
  · exact get_some g o c l w (by omega) h3
end Go.Proofs.YtafmiolehlagkaaGreat.Pak

namespace Go.Proofs.YtafmiolehlagkaaGreat.Pak
open Go.RowKit
set_option maxRecDepth 100000

theorem unzig_eq (n : Nat) (h : n < 18446744073709551616) : bits .xor .i64 ((n : Int) / 2) (wrap64 (-wrap64 (bits .and .u64 (n : Int) 1))) = Dec.unzig n := by
  rw [Lib.u64_and1 _ (by omega) (by omega)]
  unfold Dec.unzig
  rcases Nat.mod_two_eq_zero_or_one n with h2 | h2
  · rw [if_pos h2, show (n : Int) % 2 = 0 by omega, show wrap64 (-wrap64 0) = 0 by decide +kernel, show (n : Int) / 2 = ((n / 2 : Nat) : Int) by omega]
    show IntKind.i64.wrap ((BitVec.ofInt 64 ((n / 2 : Nat) : Int) ^^^ BitVec.ofInt 64 0).toNat : Int) = _
    rw [BitVec.toNat_xor, show (BitVec.ofInt 64 0).toNat = 0 by decide, Nat.xor_zero, ofInt_u64 _ (by omega), IntKind.wrap_i64]
    omega
  · rw [if_neg (by omega), show (n : Int) % 2 = 1 by omega, show wrap64 (-wrap64 1) = -1 by decide +kernel, show (n : Int) / 2 = ((n / 2 : Nat) : Int) by omega]
    have e := Lib.i64_not (n / 2) (by omega)
    rw [← e]
    show IntKind.i64.wrap ((BitVec.ofInt 64 ((n / 2 : Nat) : Int) ^^^ BitVec.ofInt 64 (-1)).toNat : Int) = IntKind.i64.wrap ((BitVec.ofInt 64 (-1) ^^^ BitVec.ofInt 64 ((n / 2 : Nat) : Int)).toNat : Int)
    rw [BitVec.xor_comm]

set_option maxHeartbeats 1000000 in
set_option maxRecDepth 100000 in
theorem unfold_any (n : Nat) (w : World) (h : n < 18446744073709551616) :
    Calls Tryz.prog 201 #[.int .u64 n] w fun e w' => e = .returned (.int .i64 (Dec.unzig n)) ∧ w' = w := by
  go_enter Tryz.func201, Tryz.ntmps201
  go_wp2
  go_ret
  exact ⟨ret_int (unzig_eq n h), rfl⟩

set_option maxHeartbeats 1000000 in
set_option maxRecDepth 100000 in
theorem getInt_any (v : Value) (l : List UInt8) (w : World) (h : Bs w v l) :
    Calls Tryz.prog 178 #[v] w fun e w' => e = .returned (.tuple #[.int .i64 (Dec.unzig (Dec.getN l).1), .int .i64 (Dec.getN l).2]) ∧ w' = w := by
  have hg := get_any v l w h
  have hu := unfold_any (Dec.getN l).1 w (Dec.getN_lt l)
  clear h
  go_enter Tryz.func178, Tryz.ntmps178
  go_wp2_with (first | (go_at_call 176; refine hg.mono ?_; rintro e w' ⟨rfl, rfl⟩) | (go_at_call 201; refine hu.mono ?_; rintro e w' ⟨rfl, rfl⟩))
  go_ret2
  exact ⟨rfl, rfl⟩

end Go.Proofs.YtafmiolehlagkaaGreat.Pak

/-
  A4 READ, AS PLAIN MATHEMATICS: numbers one by one, runs, a whole row. No program in this text.
-/
namespace Go.Proofs.YtafmiolehlagkaaGreat.Pak.Rd
open Go.RowKit
set_option maxRecDepth 100000

/-- So many numbers from the front. -/
def nums : Nat → List UInt8 → Option (List Int × Nat)
  | 0, _ => some ([], 0)
  | k + 1, b => if (Dec.getN b).2 = 0 then none else (nums k (b.drop (Dec.getN b).2)).map fun r => (Dec.unzig (Dec.getN b).1 :: r.1, (Dec.getN b).2 + r.2)
/-- So many runs from the front, 'left' numbers in all; the number ahead is not taken again. -/
def runs : Nat → Nat → Option Int → List UInt8 → Option (List Int × Nat)
  | 0, left, _, _ => if left = 0 then some ([], 0) else none
  | m + 1, left, last, b =>
    if (Dec.getN b).2 = 0 ∨ (Dec.getN b).1 = 0 ∨ left < (Dec.getN b).1 then none
    else if (Dec.getN (b.drop (Dec.getN b).2)).2 = 0 ∨ last = some (Dec.unzig (Dec.getN (b.drop (Dec.getN b).2)).1) then none
    else (runs m (left - (Dec.getN b).1) (some (Dec.unzig (Dec.getN (b.drop (Dec.getN b).2)).1)) (b.drop ((Dec.getN b).2 + (Dec.getN (b.drop (Dec.getN b).2)).2))).map
      fun r => (List.replicate (Dec.getN b).1 (Dec.unzig (Dec.getN (b.drop (Dec.getN b).2)).1) ++ r.1, (Dec.getN b).2 + (Dec.getN (b.drop (Dec.getN b).2)).2 + r.2)
/-- Sums of steps: each number is added to the one ahead. -/
def sumsFrom : Int → List Int → List Int
  | _, [] => []
  | p, z :: r => wrap64 (z + p) :: sumsFrom (wrap64 (z + p)) r
def sums : List Int → List Int
  | [] => []
  | z :: r => z :: sumsFrom z r
/-- Count numbers in a form: the numbers and how many bytes they have. -/
def form (b : List UInt8) (f count : Nat) : Option (List Int × Nat) :=
  if f = 2 then
    (if (Dec.getN b).2 = 0 then none else (runs (Dec.getN b).1 count none (b.drop (Dec.getN b).2)).map fun r => (r.1, (Dec.getN b).2 + r.2))
  else (nums count b).map fun r => (if f = 1 then sums r.1 else r.1, r.2)
/-- What GetRow tells. -/
def row (b : List UInt8) (most : Int) : List Int × Nat :=
  if (Dec.getN b).2 = 0 ∨ most < 0 ∨ (min most 100000) < ((Dec.getN b).1 : Int) then ([], 0)
  else if (Dec.getN b).1 = 0 then ([], (Dec.getN b).2)
  else if (Dec.getN b).2 = b.length ∨ 3 ≤ (b.getD (Dec.getN b).2 0).toNat then ([], 0)
  else match form (b.drop ((Dec.getN b).2 + 1)) (b.getD (Dec.getN b).2 0).toNat (Dec.getN b).1 with
    | none => ([], 0)
    | some (zs, s) => if Rw.best zs ≠ (b.getD (Dec.getN b).2 0).toNat then ([], 0) else (zs, (Dec.getN b).2 + 1 + s)

theorem unzig_fits (b : List UInt8) : Rw.Fits (Dec.unzig (Dec.getN b).1) := Dec.unzig_bounds (Dec.getN_lt b)

theorem nums_facts : ∀ (k : Nat) (b : List UInt8) (zs : List Int) (t : Nat), nums k b = some (zs, t) → zs.length = k ∧ t ≤ b.length ∧ k ≤ t ∧ Rw.AllFit zs
  | 0, b, zs, t, h => by
    simp [nums] at h
    obtain ⟨rfl, rfl⟩ := h
    exact ⟨rfl, Nat.zero_le _, Nat.le_refl _, fun z hz => by simp at hz⟩
  | k + 1, b, zs, t, h => by
    unfold nums at h
    split at h
    · cases h
    · rename_i hs
      obtain ⟨⟨zr, tr⟩, hr, he⟩ := Option.map_eq_some_iff.1 h
      obtain ⟨rfl, rfl⟩ := Prod.mk.inj he
      obtain ⟨h1, h2, h3, h4⟩ := nums_facts k _ zr tr hr
      have hle := Dec.getN_le b
      simp at h2
      refine ⟨by simp [h1], by simp; omega, by simp; omega, fun z hz => ?_⟩
      rcases List.mem_cons.1 hz with rfl | hz
      · exact unzig_fits b
      · exact h4 z hz
theorem runs_facts : ∀ (m left : Nat) (last : Option Int) (b : List UInt8) (zs : List Int) (t : Nat), runs m left last b = some (zs, t) → zs.length = left ∧ t ≤ b.length ∧ Rw.AllFit zs
  | 0, left, last, b, zs, t, h => by
    unfold runs at h
    split at h
    · simp at h
      obtain ⟨rfl, rfl⟩ := h
      exact ⟨by simp_all, Nat.zero_le _, fun z hz => by simp at hz⟩
    · cases h
  | m + 1, left, last, b, zs, t, h => by
    unfold runs at h
    split at h
    · cases h
    · rename_i hs
      split at h
      · cases h
      · rename_i hs2
        obtain ⟨⟨zr, tr⟩, hr, he⟩ := Option.map_eq_some_iff.1 h
        obtain ⟨rfl, rfl⟩ := Prod.mk.inj he
        obtain ⟨h1, h2, h4⟩ := runs_facts m _ _ _ zr tr hr
        have hle := Dec.getN_le b
        have hle2 := Dec.getN_le (b.drop (Dec.getN b).2)
        simp at h2 hle2
        refine ⟨by simp [h1]; omega, by simp; omega, fun z hz => ?_⟩
        rcases List.mem_append.1 hz with hz | hz
        · rw [List.eq_of_mem_replicate hz]
          exact unzig_fits _
        · exact h4 z hz
theorem sumsFrom_facts : ∀ (p : Int) (zs : List Int), (sumsFrom p zs).length = zs.length ∧ Rw.AllFit (sumsFrom p zs)
  | _, [] => ⟨rfl, fun z hz => by simp [sumsFrom] at hz⟩
  | p, z :: r => by
    obtain ⟨h1, h2⟩ := sumsFrom_facts (wrap64 (z + p)) r
    refine ⟨by simp [sumsFrom, h1], fun x hx => ?_⟩
    simp only [sumsFrom] at hx
    rcases List.mem_cons.1 hx with rfl | hx
    · exact Rw.wrap64_fits _
    · exact h2 x hx
theorem sums_facts (zs : List Int) (h : Rw.AllFit zs) : (sums zs).length = zs.length ∧ Rw.AllFit (sums zs) := by
  cases zs with
  | nil => exact ⟨rfl, h⟩
  | cons z r =>
    obtain ⟨h1, h2⟩ := sumsFrom_facts z r
    refine ⟨by simp [sums, h1], fun x hx => ?_⟩
    rcases List.mem_cons.1 hx with rfl | hx
    · exact h _ List.mem_cons_self
    · exact h2 x hx
theorem form_facts {b : List UInt8} {f count : Nat} {zs : List Int} {t : Nat} (h : form b f count = some (zs, t)) : zs.length = count ∧ t ≤ b.length ∧ Rw.AllFit zs := by
  unfold form at h
  split at h
  · split at h
    · cases h
    · obtain ⟨⟨zr, tr⟩, hr, he⟩ := Option.map_eq_some_iff.1 h
      obtain ⟨rfl, rfl⟩ := Prod.mk.inj he
      obtain ⟨h1, h2, h3⟩ := runs_facts _ _ _ _ zr tr hr
      have hle := Dec.getN_le b
      simp at h2
      exact ⟨h1, by simp; omega, h3⟩
  · obtain ⟨⟨zr, tr⟩, hr, he⟩ := Option.map_eq_some_iff.1 h
    obtain ⟨rfl, rfl⟩ := Prod.mk.inj he
    obtain ⟨h1, h2, _, h3⟩ := nums_facts _ _ zr tr hr
    split
    · exact ⟨(sums_facts zr h3).1.trans h1, h2, (sums_facts zr h3).2⟩
    · exact ⟨h1, h2, h3⟩
end Go.Proofs.YtafmiolehlagkaaGreat.Pak.Rd

/-
  A1 TO A4, THERE AND BACK, AS PLAIN MATHEMATICS: what is written is read as it was, whatever stands behind it; what is read is written so. No program in this text.
-/
namespace Go.Proofs.YtafmiolehlagkaaGreat.Pak
open Go.RowKit
set_option maxRecDepth 100000

/-! ### Numbers -/
theorem byte_small {y : Nat} (h : y < 256) : (y.toUInt8).toNat = y := by simp [Nat.toUInt8, UInt8.toNat_ofNat']; omega
theorem getFrom_put : ∀ (f y k acc : Nat) (b : List UInt8), y ≤ f → y * 2 ^ (7 * k) < 18446744073709551616 → k < 10 → (0 < k → 0 < y) → Dec.getFrom k acc (Lib.uvarint y ++ b) = (acc + y * 2 ^ (7 * k), k + (Lib.uvarint y).length)
  | f, y, k, acc, b, hf, hy, hk, hpos => by
    by_cases hs : y < 128
    · rw [Lib.uvarint_small hs]
      have e := byte_small (show y < 256 by omega)
      have h9 : k = 9 → y ≤ 1 := by
        rintro rfl
        have : 2 ^ (7 * 9) = 9223372036854775808 := by decide
        omega
      show Dec.getFrom k acc (y.toUInt8 :: b) = _
      rw [Dec.getFrom_last hk (by omega) (by omega), e]
      rfl
    · have hb : (y % 128 + 128).toUInt8.toNat = y % 128 + 128 := byte_small (by omega)
      have hpow : 2 ^ (7 * (k + 1)) = 128 * 2 ^ (7 * k) := by rw [show 7 * (k + 1) = 7 * k + 7 by omega, Nat.pow_add, Nat.mul_comm]
      have hk8 : k < 9 := by
        refine Classical.byContradiction fun h => ?_
        have e : k = 9 := by omega
        subst e
        have : 2 ^ (7 * 9) = 9223372036854775808 := by decide
        omega
      have hm : y * 2 ^ (7 * k) = y % 128 * 2 ^ (7 * k) + y / 128 * 2 ^ (7 * (k + 1)) := by
        rw [hpow, ← Nat.mul_assoc, ← Nat.add_mul]
        congr 1
        omega
      rw [Lib.uvarint_big (by omega), List.cons_append, Dec.getFrom_more hk (by omega)]
      cases f with
      | zero => omega
      | succ f =>
        rw [getFrom_put f (y / 128) (k + 1) _ b (by omega) (by omega) (by omega) (by omega), hb]
        simp only [List.length_cons, Prod.mk.injEq]
        constructor
        · rw [show (y % 128 + 128) % 128 = y % 128 by omega, hm]
          omega
        · omega
theorem getN_put {n : Nat} (h : n < 18446744073709551616) (b : List UInt8) : Dec.getN (Lib.uvarint n ++ b) = (n, (Lib.uvarint n).length) := by
  have := getFrom_put n n 0 0 b (Nat.le_refl _) (by simpa using h) (by omega) (by omega)
  simpa [Dec.getN] using this
theorem getN_ivar {z : Int} (hz : Rw.Fits z) (b : List UInt8) : Dec.getN (Rw.ivar z ++ b) = (Lib.zigzag z, (Rw.ivar z).length) := getN_put (Lib.zigzag_lt hz.1 hz.2) b

/-! ### Numbers one by one -/
def flat (zs : List Int) : List UInt8 := zs.flatMap Rw.ivar
theorem nums_put : ∀ (zs : List Int) (b : List UInt8), Rw.AllFit zs → Rd.nums zs.length (flat zs ++ b) = some (zs, (flat zs).length)
  | [], b, _ => rfl
  | z :: r, b, h => by
    have hz := h z List.mem_cons_self
    have hg := getN_ivar hz (flat r ++ b)
    have e : flat (z :: r) ++ b = Rw.ivar z ++ (flat r ++ b) := by simp [flat]
    have hp : (Rw.ivar z).length ≠ 0 := by have := Lib.uvarint_pos (Lib.zigzag z); unfold Rw.ivar; omega
    rw [e, List.length_cons, Rd.nums, hg]
    simp only
    rw [if_neg hp, List.drop_left, nums_put r b (fun x hx => h x (List.mem_cons_of_mem _ hx))]
    simp [flat, Dec.unzig_zigzag]
theorem bodyTo_eq (l : List Int) (f : Nat) : ∀ k, Rw.bodyTo l f k = flat ((List.range k).map fun i => Rw.entry l i f)
  | 0 => rfl
  | k + 1 => by
    rw [Rw.bodyTo, bodyTo_eq l f k, List.range_succ, List.map_append]
    simp [flat]
def ent (l : List Int) (f : Nat) : List Int := (List.range l.length).map fun i => Rw.entry l i f
theorem ent_zero (l : List Int) : ent l 0 = l := by
  apply List.ext_getElem?
  intro i
  unfold ent
  by_cases h : i < l.length
  · rw [List.getElem?_map, List.getElem?_range h, List.getElem?_eq_getElem h]
    simp [Rw.entry, List.getElem?_eq_getElem h]
  · rw [List.getElem?_eq_none (by simp; omega), List.getElem?_eq_none (by omega)]
theorem ent_length (l : List Int) (f : Nat) : (ent l f).length = l.length := by simp [ent]
theorem ent_fit {l : List Int} (h : Rw.AllFit l) (f : Nat) : Rw.AllFit (ent l f) := by
  intro z hz
  simp only [ent, List.mem_map] at hz
  obtain ⟨i, _, rfl⟩ := hz
  exact Rw.entry_fits h i f
def stepsFrom : Int → List Int → List Int
  | _, [] => []
  | p, z :: r => wrap64 (z - p) :: stepsFrom z r
def stepsL : List Int → List Int
  | [] => []
  | z :: r => z :: stepsFrom z r
theorem stepsFrom_at : ∀ (p : Int) (l : List Int) (i : Nat), (stepsFrom p l)[i]? = l[i]?.map fun z => wrap64 (z - if i = 0 then p else l.getD (i - 1) 0)
  | p, [], i => by simp [stepsFrom]
  | p, z :: r, 0 => by simp [stepsFrom]
  | p, z :: r, i + 1 => by
    simp only [stepsFrom, List.getElem?_cons_succ]
    rw [stepsFrom_at z r i]
    cases i with
    | zero => simp
    | succ i => simp
theorem ent_one (l : List Int) : ent l 1 = stepsL l := by
  apply List.ext_getElem?
  intro i
  unfold ent
  cases l with
  | nil => simp [stepsL]
  | cons z r =>
    cases i with
    | zero => simp [stepsL, Rw.entry]
    | succ i =>
      simp only [stepsL, List.getElem?_cons_succ]
      rw [stepsFrom_at]
      by_cases h : i < r.length
      · rw [List.getElem?_map, List.getElem?_range (by simp; omega), List.getElem?_eq_getElem h]
        cases i with
        | zero => simp [Rw.entry, List.getElem?_eq_getElem h]
        | succ i => simp [Rw.entry, List.getElem?_eq_getElem h]
      · rw [List.getElem?_eq_none (by simp; omega), List.getElem?_eq_none (l := r) (by omega)]
        rfl
theorem wrap_back {z p : Int} (h : Rw.Fits z) : wrap64 (wrap64 (z - p) + p) = z := by unfold Rw.Fits at h; unfold wrap64; omega
theorem sumsFrom_steps : ∀ (p : Int) (l : List Int), Rw.AllFit l → Rd.sumsFrom p (stepsFrom p l) = l
  | _, [], _ => rfl
  | p, z :: r, h => by
    simp only [stepsFrom, Rd.sumsFrom]
    rw [wrap_back (h z List.mem_cons_self), sumsFrom_steps z r (fun x hx => h x (List.mem_cons_of_mem _ hx))]
theorem sums_steps {l : List Int} (h : Rw.AllFit l) : Rd.sums (ent l 1) = l := by
  rw [ent_one]
  cases l with
  | nil => rfl
  | cons z r => simp only [stepsL, Rd.sums]; rw [sumsFrom_steps z r (fun x hx => h x (List.mem_cons_of_mem _ hx))]
end Go.Proofs.YtafmiolehlagkaaGreat.Pak
