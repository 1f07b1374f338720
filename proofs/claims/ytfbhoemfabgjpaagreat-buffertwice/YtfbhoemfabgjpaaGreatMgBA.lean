import Derived.Test.YtfbhoemfabgjpaaGreatMgAZ
import Derived.Test.YtfbhoemfabgjpaaGreatMgAY
import Derived.Test.YtfbhoemfabgjpaaGreatMgAR
import Derived.Test.YtfbhoemfabgjpaaGreatBApp
/-
  World: Remove's walk.
-/
namespace Go.Proofs.YtfbhoemfabgjpaaGreat
open Go.RowKit
set_option maxRecDepth 100000
section
variable {w w' : World} {own : Nat → Nat} {gw gp gm gt M M' N : Nat} {vk : Value} {ks : List Kind} {gs fr gs' fr' : List Nat} {f f' : Int × Int → Option Nat} {q q' : Nat → Option Nat} {T T' : Nat → Ts} {C : Co}
/-- What Remove leaves. -/
def Removed (w w' : World) (own : Nat → Nat) (gw : Nat) (vk : Value) (gp gm gt M : Nat) (ks : List Kind) (gs fr : List Nat) (f : Int × Int → Option Nat) (q : Nat → Option Nat) (T : Nat → Ts) (e : Int × Int) (s i : Nat) (k : Nat) : Prop :=
  ∃ (vals' : List Int) (g : Nat) (own' : Nat → Nat), Wx 0 w' own' gw vk gp gm gt (M + 4) ks gs fr (fun y => if y = e then some (s ^^^ 2 ^ k) else if y = e then none else f y) (fun y => if y = s ^^^ 2 ^ k then some g else lessQ q T s y) (moreT (lessQ q T s) (lessT T s i) (s ^^^ 2 ^ k) e vals') ∧ Wk own own' w w' ∧ Wi ks (fun y => if y = e then some (s ^^^ 2 ^ k) else if y = e then none else f y) (fun y => if y = s ^^^ 2 ^ k then some g else lessQ q T s y) (moreT (lessQ q T s) (lessT T s i) (s ^^^ 2 ^ k) e vals') ∧ vals'.length = fsum ks (s ^^^ 2 ^ k) 1 ∧ ∀ r, r ∈ partsL ks (s ^^^ 2 ^ k) 1 vals' ↔ r ∈ partsL ks s 1 (rowOf (T s).2 i) ∧ r.1 ≠ k
set_option maxHeartbeats 8000000 in
theorem wremove_any (h : Wx 0 w own gw vk gp gm gt M ks gs fr f q T) (hw : Wi ks f q T) (a b : Int) (hib : InB (a, b)) (hks : ks.length ≤ 12) (hk4 : ∀ x ∈ ks, x.2.length ≤ 4) (s g i : Nat) (hf : f (a, b) = some s) (hq : q s = some g) (hi : i < (T s).1.length) (hx : (T s).1[i] = (a, b)) (hcnt : ∀ E : List (Int × Int), E.Nodup → (∀ e ∈ E, (f e).isSome = true) → E.length ≤ 200) (hM : M ≤ 800000) (k : Nat) (hk1 : 1 ≤ k) (hk2 : k ≤ ks.length) (hbit : s.testBit k = true) (hl : livesOf gs fr a b = true) :
    Calls Tryz.prog 42 #[.pointer (some ⟨gw, 0, none⟩), .agg #[.int .i64 a, .int .i64 b], .int .i64 (k : Int)] w fun e w' => e = .returned (.int .i64 0) ∧ Removed w w' own gw vk gp gm gt M ks gs fr f q T (a, b) s i k := by
  have hmf : ∀ (fn : Fn) (first cap : Array Value) (w : World), (Instr.makeFunc fn first cap).run Tryz.prog w = .ok (.func fn first cap) w := fun _ _ _ _ => rfl
  obtain ⟨⟨hs, hsb⟩, hcol, -, -, -, -⟩ := hw.2 s g hq
  obtain ⟨w2, hw2⟩ : ∃ X, X = (w.alloc (.cells #[.int .i64 a, .int .i64 b] 34)).alloc (.cells #[.int .i64 (k : Int)] 3) := ⟨_, rfl⟩
  have B2 : Hid (Below w.heap.size w w2) := hw2 ▸ below_on (below_alloc w _) (below_alloc _ _)
  have hx1 : w2.heap[w.heap.size]? = some (.cells #[.int .i64 a, .int .i64 b] 34 (0, 0)) := by
    rw [hw2]
    exact ((below_alloc _ _).block w.heap.size (by simp)).trans (heap_alloc_new w _)
  have hx2 : w2.heap[w.heap.size + 1]? = some (.cells #[.int .i64 (k : Int)] 3 (0, 0)) := by
    have := heap_alloc_new (w.alloc (.cells #[.int .i64 a, .int .i64 b] 34)) (.cells #[.int .i64 (k : Int)] 3)
    rw [hw2]
    simpa using this
  have HW : Hid (∀ W, Below w2.heap.size w2 W → W.cell? ⟨w.heap.size, 0, none⟩ = some (.int .i64 a) ∧ W.cell? ⟨w.heap.size, 1, none⟩ = some (.int .i64 b) ∧ W.cell? ⟨w.heap.size + 1, 0, none⟩ = some (.int .i64 (k : Int))) := fun W hW => by
    have h5 := (hW.block _ (lt_of_block hx2)).trans hx2
    refine ⟨(kx_cells hx1 hW).1, (kx_cells hx1 hW).2, ?_⟩
    rw [cell_of_row W _ _ _ 3 (0, 0) h5]
    rfl
  have JH : Hid (Calls Tryz.prog 70 #[.pointer (some ⟨gw, 0, none⟩), .agg #[.int .i64 a, .int .i64 b], .int .i64 (k : Int)] w2 fun e w' => e = .returned (.int .i64 0) ∧ Below w2.heap.size w2 w') := by
    have := haspart_any (h.later B2.out) a b (k : Int) hib hks s hs (fun _ => hf)
    have e0 : hasE ks (livesOf gs fr a b) s (k : Int) = 0 := by
      unfold hasE
      rw [hl, if_pos rfl, if_pos ⟨by omega, by omega⟩, Int.toNat_natCast, if_pos hbit]
    rw [e0] at this
    exact this
  have JP : Hid (∀ W, Below w2.heap.size w2 W → Calls Tryz.prog 54 #[.pointer (some ⟨gw, 0, none⟩), .agg #[.int .i64 a, .int .i64 b]] W fun e w7 => ∃ (a7 : Option Addr) (n7 c7 : Nat), e = .returned (.slice a7 n7 c7) ∧ w7.cell? ⟨w.heap.size, 0, none⟩ = some (.int .i64 a) ∧ w7.cell? ⟨w.heap.size, 1, none⟩ = some (.int .i64 b) ∧ w7.cell? ⟨w.heap.size + 1, 0, none⟩ = some (.int .i64 (k : Int)) ∧ Hid (Calls Tryz.prog 71 #[.slice a7 n7 c7, .func (.func 72) #[] #[.pointer (some ⟨w.heap.size + 1, 0, none⟩)]] w7 fun e w8 => ∃ (a8 : Option Addr) (n8 c8 : Nat), e = .returned (.slice a8 n8 c8) ∧ w8.cell? ⟨w.heap.size, 0, none⟩ = some (.int .i64 a) ∧ w8.cell? ⟨w.heap.size, 1, none⟩ = some (.int .i64 b) ∧
      Hid (Calls Tryz.prog 69 #[.pointer (some ⟨gw, 0, none⟩), .agg #[.int .i64 a, .int .i64 b]] w8 fun e w9 => e = .returned (.tuple #[]) ∧ w9.cell? ⟨w.heap.size, 0, none⟩ = some (.int .i64 a) ∧ w9.cell? ⟨w.heap.size, 1, none⟩ = some (.int .i64 b) ∧ Hid (Calls Tryz.prog 67 #[.pointer (some ⟨gw, 0, none⟩), .agg #[.int .i64 a, .int .i64 b], .slice a8 n8 c8] w9 fun e w' => e = .returned (.tuple #[]) ∧ Removed w w' own gw vk gp gm gt M ks gs fr f q T (a, b) s i k)))) := fun W hW => by
    refine (parts_any (h.later (below_on B2.out hW)) a b hib hks s g i hf hq hs hi hx hcol).mono ?_
    rintro e w7 ⟨v, rfl, L, l1, l2, l3⟩
    obtain ⟨a7, n7, c7, rfl⟩ := own_slice l1
    have hb7 : Below w2.heap.size w2 w7 := below_on hW l3
    have hbw : Below w.heap.size w w7 := below_on B2.out hb7
    have h2s := B2.out.size
    have hWs := hW.size
    have l1' := own_lower l1 (show w.heap.size ≤ W.heap.size by omega)
    have l2' : Pv w.heap.size w7 L (partsL ks s 1 (rowOf (T s).2 i)) := ⟨l2.1, fun i h1 h2 => ⟨(l2.2 i h1 h2).1, own_lower (l2.2 i h1 h2).2 (by omega)⟩⟩
    obtain ⟨A, Bq, p, R, hL, hA, hB, hp, hpv, hR, hpg, hset⟩ := parts_less l2' ((rowOf_len _ _).trans hcol) hsb hks hk1 hk2 hbit
    obtain ⟨c0, c1, c2⟩ := HW.out w7 hb7
    refine ⟨a7, n7, c7, rfl, c0, c1, c2, ?_⟩
    have hn7 : n7 = L.length := by
      obtain ⟨x, y, e⟩ := own_len l1
      simp only [Value.slice.injEq] at e
      exact e.2.1
    have hkb7 := (hb7.block _ (lt_of_block hx2)).trans hx2
    have hkx7 := (hb7.block _ (lt_of_block hx1)).trans hx1
    have l1s : w7.ownsRow w.heap.size 51 2 (.slice a7 n7 c7) n7 (pz (A ++ p :: Bq)) := by
      rw [← hL, hn7]
      rw [hn7] at l1'
      exact l1'
    refine (delete_fn hkb7 l1s hA hB hp).mono ?_
    rintro e w8 ⟨v8, rfl, ob, o8, g8⟩
    obtain ⟨a8, n8, c8, rfl⟩ := own_slice o8
    have hnk : (Value.slice a7 n7 c7).ownBlock ≠ some w.heap.size := fun e => by have := (l1.lt _ e).1; have := lt_of_block hx1; omega
    have hkx8 : w8.heap[w.heap.size]? = some (.cells #[.int .i64 a, .int .i64 b] 34 (0, 0)) := (g8.block _ (lt_of_block hkx7) (fun e => hnk e.symm)).trans hkx7
    have hb8 : Below w.heap.size w w8 := hbw.grown g8 hbw.size (fun q e => (l1s.lt q e).1)
    have pv8 : Pv w.heap.size w8 (A ++ Bq) R := hpv w8 (fun j h1 h2 => own_kept (l2'.2 j h1 h2).2 g8 (fun q e e2 => own_kinds (l2'.2 j h1 h2).2 l1s (by decide) e e2))
    obtain ⟨d0, d1⟩ := kx_cells hkx8 (Below.refl _ w8)
    refine ⟨a8, n8, c8, rfl, d0, d1, ?_⟩
    refine (drop_any (h.later hb8) a b hib s g i hf hq hs hi hx (by omega)).mono ?_
    rintro e w9 ⟨rfl, own1, r1, r2⟩
    have hnl : ¬ (rel own w 0 w.heap.size ≠ 0) := fun e => e (rel_new (Nat.le_refl _))
    obtain ⟨d0, d1⟩ := kx_cells (r2.mv.at hkx8 hnl) (Below.refl _ w9)
    refine ⟨rfl, d0, d1, ?_⟩
    have hc2 : ∀ E : List (Int × Int), E.Nodup → (∀ e ∈ E, ((fun y => if y = (a, b) then none else f y) e).isSome = true) → E.length < 200 := fun E e1 e2 => by
      have := hcnt (E ++ [(a, b)]) (by
        rw [List.nodup_append]
        refine ⟨e1, by simp, fun y hy z hz e => ?_⟩
        simp only [List.mem_singleton] at hz
        have := e2 y hy
        rw [e, hz] at this
        simp at this) (fun y hy => by
        rcases List.mem_append.1 hy with hy | hy
        · have := e2 y hy
          by_cases c : y = (a, b)
          · simp [c] at this
          · simpa [c] using this
        · rw [List.mem_singleton.1 hy, hf]; rfl)
      rw [List.length_append, List.length_singleton] at this
      omega
    have o8' : w8.ownsRow w.heap.size 51 2 (.slice a8 n8 c8) (A ++ Bq).length (pz (A ++ Bq)) := o8
    refine (pv_put o8' pv8 hb8 hpg hks hk4 r1 r2 (hw.drop hf hi hx) a b hib (if_pos rfl) hc2 (by omega)).mono ?_
    rintro e w' ⟨rfl, vals', g', own', s1, s2, s3, s4, s5⟩
    rw [hset] at s1 s3 s4 s5
    exact ⟨rfl, vals', g', own', s1, s2, s3, s4, fun r => (s5 r).trans (hR r)⟩
  clear h hf hl hx1 hx2 hw hq hi hx hcnt hcol hsb hib hk4 hbit
  go_enter Tryz.func42, Tryz.ntmps42
  go_wp2_with fail
  rw [← hw2]
  obtain ⟨kx, hkx⟩ : ∃ k, k = w.heap.size := ⟨_, rfl⟩
  obtain ⟨kp, hkp⟩ : ∃ k, k = w.heap.size + 1 := ⟨_, rfl⟩
  rw [← hkp] at HW JP ⊢
  rw [← hkx] at HW JP ⊢
  clear hkx hkp hw2
  refine JH.out.mono ?_
  rintro e w3 ⟨rfl, hb3⟩
  obtain ⟨p0, p1, p2⟩ := HW.out w3 hb3
  have J4 := hide (JP.out w3 hb3)
  clear hb3 JH HW JP
  go_wp2_with fail
  refine J4.out.mono ?_
  rintro e w7 ⟨a7, n7, c7, rfl, q0, q1, q2, J7⟩
  clear J4 p0 p1 p2
  go_wp2_with fail
  refine J7.out.mono ?_
  rintro e w8 ⟨a8, n8, c8, rfl, p0, p1, J8⟩
  clear J7 q0 q1 q2
  go_wp2_with fail
  refine J8.out.mono ?_
  rintro e w9 ⟨rfl, q0, q1, J9⟩
  clear J8 p0 p1
  go_wp2_with fail
  refine J9.out.mono ?_
  rintro e w10 ⟨rfl, HE⟩
  have HEE := hide HE
  clear HE J9
  go_wp2_with fail
  go_ret
  exact ⟨rfl, HEE.out⟩
end
/-! ### Told by who lives with what -/
section
variable {w w' : World} {own : Nat → Nat} {gw N : Nat} {ks : List Kind} {gs fr : List Nat} {C : Co}
theorem Wn.remove (h : Wn w own gw N ks gs fr C) (hN : N ≤ 800000) (a b : Int) (k : Nat) (s : Nat) (old : List Int) (hc : C (a, b) = some (s, old)) (hk1 : 1 ≤ k) (hk2 : k ≤ ks.length) (hbit : s.testBit k = true) :
    Calls Tryz.prog 42 #[.pointer (some ⟨gw, 0, none⟩), .agg #[.int .i64 a, .int .i64 b], .int .i64 (k : Int)] w fun e w' => e = .returned (.int .i64 0) ∧ ∃ (vals' : List Int) (own' : Nat → Nat), Wn w' own' gw (N + 4) ks gs fr (fun y => if y = (a, b) then some (s ^^^ 2 ^ k, vals') else C y) ∧ Wk own own' w w' ∧ vals'.length = fsum ks (s ^^^ 2 ^ k) 1 ∧ ∀ r, r ∈ partsL ks (s ^^^ 2 ^ k) 1 vals' ↔ r ∈ partsL ks s 1 old ∧ r.1 ≠ k := by
  have ho := h.ok
  obtain ⟨vk, gp, gm, gt, q, T, h1, h2, h3, h4, h5, h6⟩ := h
  have hf := fC_some hc
  obtain ⟨hs, ⟨g, hq⟩, -⟩ := h2.1 _ s hf
  obtain ⟨i, hi, hx, hrow⟩ := h3 _ s old hc
  have hl : livesOf gs fr a b = true := by rw [h5, hc]; rfl
  refine (wremove_any h1 h2 a b (inb_of ho hl) h4.2.1 (fun x hx => (h4.2.2.1 x hx).1) s g i hf hq hi hx (fun E e1 e2 => lives_cnt h5 ho.2.2.1 E e1 e2) hN k hk1 hk2 hbit hl).mono ?_
  rintro e w' ⟨rfl, vals', g', own', r1, r2, r3, r4, r5⟩
  have hfe : (fun y => if y = (a, b) then some (s ^^^ 2 ^ k) else if y = (a, b) then none else fC C y) = fC (fun y => if y = (a, b) then some (s ^^^ 2 ^ k, vals') else C y) := by
    rw [fC_more]
    funext y
    by_cases c : y = (a, b) <;> simp [c]
  rw [hfe] at r1 r3
  rw [hrow] at r5
  refine ⟨rfl, vals', own', ⟨vk, gp, gm, gt, _, _, r1, r3, ?_, h4, fun c d => ?_, fun e s' vs he => ?_⟩, r2, r4, r5⟩
  · have hd := h3.drop h2 hf hi hx
    have hwd : Wi ks (fC (fun x => if x = (a, b) then none else C x)) (lessQ q T s) (lessT T s i) := by
      rw [fC_less]
      exact h2.drop hf hi hx
    have hp := hd.put hwd (e := (a, b)) (s := s ^^^ 2 ^ k) (vals := vals') r4
    intro e s' vs he
    refine hp e s' vs ?_
    dsimp only at he ⊢
    by_cases c : e = (a, b)
    · rw [if_pos c] at he ⊢
      exact he
    · rw [if_neg c] at he ⊢
      rw [if_neg c]
      exact he
  · rw [h5]
    dsimp only
    by_cases e : (c, d) = (a, b)
    · rw [if_pos e, e, hc]
      rfl
    · rw [if_neg e]
  · dsimp only at he
    by_cases c : e = (a, b)
    · rw [if_pos c] at he
      simp only [Option.some.injEq, Prod.mk.injEq] at he
      obtain ⟨rfl, rfl⟩ := he
      have hflat := partsL_flat ks (s ^^^ 2 ^ k) 1 vals' r4
      intro z hz
      rw [← hflat] at hz
      obtain ⟨r, hr, hzr⟩ := List.mem_flatMap.1 hz
      exact h6 _ _ _ hc z (partsL_sub ks s 1 old r ((r5 r).1 hr).1 z hzr)
    · rw [if_neg c] at he
      exact h6 e s' vs he
end
end Go.Proofs.YtfbhoemfabgjpaaGreat

/-
  World: what a world tells hangs on who lives with what alone.
-/
namespace Go.Proofs.YtfbhoemfabgjpaaGreat
open Go.RowKit
set_option maxRecDepth 100000
/-- Two lists that rise and have the same elements are the same. -/
theorem rise_ext {α : Type} (κ : α → Int) : ∀ (l l' : List α), l.Pairwise (fun x y => κ x < κ y) → l'.Pairwise (fun x y => κ x < κ y) → (∀ e, e ∈ l ↔ e ∈ l') → l = l'
  | [], [], _, _, _ => rfl
  | [], b :: t, _, _, h => by
    have := (h b).2 List.mem_cons_self
    cases this
  | a :: t, [], _, _, h => by
    have := (h a).1 List.mem_cons_self
    cases this
  | a :: t, b :: t', h1, h2, h => by
    obtain ⟨a1, a2⟩ := List.pairwise_cons.1 h1
    obtain ⟨b1, b2⟩ := List.pairwise_cons.1 h2
    have hab : a = b := by
      rcases List.mem_cons.1 ((h a).1 List.mem_cons_self) with e | e
      · exact e
      · rcases List.mem_cons.1 ((h b).2 List.mem_cons_self) with e' | e'
        · exact e'.symm
        · have := b1 a e
          have := a1 b e'
          omega
    subst hab
    refine congrArg _ (rise_ext κ t t' a2 b2 (fun e => ?_))
    constructor
    · intro he
      rcases List.mem_cons.1 ((h e).1 (List.mem_cons_of_mem _ he)) with e' | e'
      · subst e'
        have := a1 e he
        omega
      · exact e'
    · intro he
      rcases List.mem_cons.1 ((h e).2 (List.mem_cons_of_mem _ he)) with e' | e'
      · subst e'
        have := b1 e he
        omega
      · exact e'
/-- Who has the same parts has the same values. -/
theorem cont_ext {ks : List Kind} {s : Nat} {vals vals' : List Int} (h1 : vals.length = fsum ks s 1) (h2 : vals'.length = fsum ks s 1) (h : ∀ r, r ∈ partsL ks s 1 vals ↔ r ∈ partsL ks s 1 vals') : vals = vals' := by
  have e : partsL ks s 1 vals = partsL ks s 1 vals' := rise_ext (fun r => (r.1 : Int)) _ _ ((partsL_pair ks s 1 vals).imp (fun {x y} hxy => by omega)) ((partsL_pair ks s 1 vals').imp (fun {x y} hxy => by omega)) h
  rw [← partsL_flat ks s 1 vals h1, e, partsL_flat ks s 1 vals' h2]
theorem livers_rise {gs fr : List Nat} {C : Co} {E : List (Int × Int)} (hl : Lv gs fr C) (h : Livers (fC C) E) : E.Pairwise (fun x y => x.1 < y.1) := by
  obtain ⟨h1, h2, h3, h4⟩ := h
  refine (List.Pairwise.and h1 h2).imp_of_mem (fun {x y} hx hy hxy => ?_)
  by_cases c : x.1 = y.1
  · exfalso
    refine hxy.2 (Prod.ext c ?_)
    have k1 := (h3 x (h4 x hx)).2 hx
    have k2 := (h3 y (h4 y hy)).2 hy
    rw [fC_is, ← hl] at k1 k2
    obtain ⟨i, i1, -, -, i4⟩ := lives_at k1
    obtain ⟨j, j1, -, -, j4⟩ := lives_at k2
    have : i = j := by rw [i1, j1] at c; omega
    subst this
    exact i4.trans j4.symm
  · have := hxy.1
    omega
theorem livers_eq {gs fr : List Nat} {C : Co} {E E' : List (Int × Int)} (hl : Lv gs fr C) (h : Livers (fC C) E) (h' : Livers (fC C) E') : E = E' := by
  refine rise_ext (fun e => e.1) _ _ (livers_rise hl h) (livers_rise hl h') (fun e => ?_)
  constructor
  · intro he
    exact (h'.2.2.1 e (h.2.2.2 e he)).1 ((h.2.2.1 e (h.2.2.2 e he)).2 he)
  · intro he
    exact (h.2.2.1 e (h'.2.2.2 e he)).1 ((h'.2.2.1 e (h'.2.2.2 e he)).2 he)
section
variable {w w' : World} {own own2 : Nat → Nat} {gw gw2 N N2 : Nat} {ks : List Kind} {gs fr : List Nat} {C : Co}
theorem Wn.lv (h : Wn w own gw N ks gs fr C) : Lv gs fr C := by
  obtain ⟨vk, gp, gm, gt, q, T, h1, h2, h3, h4, h5, h6⟩ := h
  exact h5
/-- Rows, by who lives with what. -/
def Rc (B : Nat) (W : World) (ks : List Kind) (C : Co) (v : Value) (R : List Rt) : Prop :=
  W.ownsRow B 87 3 v R.length (rz R) ∧ Livers (fC C) (R.map entR) ∧ ∀ r ∈ R, ∃ s vals L, C (entR r) = some (s, vals) ∧ W.ownsRow B 51 2 (rtV r) L.length (pz L) ∧ Pv B W L (partsL ks s 1 vals)
theorem Rc.later {B : Nat} {v : Value} {R : List Rt} (h : Rc B w ks C v R) (hb : Below w.heap.size w w') : Rc B w' ks C v R := by
  refine ⟨own_later h.1 hb, h.2.1, fun r hr => ?_⟩
  obtain ⟨s, vals, L, e1, e2, e3⟩ := h.2.2 r hr
  exact ⟨s, vals, L, e1, own_later e2 hb, e3.later hb⟩
theorem Wn.rows (h : Wn w own gw N ks gs fr C) : Calls Tryz.prog 27 #[.pointer (some ⟨gw, 0, none⟩)] w fun e w' => ∃ v, e = .returned v ∧ (∃ R, Rc w.heap.size w' ks C v R) ∧ Below w.heap.size w w' := by
  have ho := h.ok
  obtain ⟨vk, gp, gm, gt, q, T, h1, h2, h3, h4, h5, h6⟩ := h
  refine (rows_any h1 h2 h4.2.1 (fun E e1 e2 => lives_cnt h5 ho.2.2.1 E e1 e2)).mono ?_
  rintro e w' ⟨v, rfl, ⟨R, r1, r2, r3, r4, r5, r6⟩, hb⟩
  refine ⟨v, rfl, ⟨R, r1, ⟨List.pairwise_map.2 (r2.imp (fun h => h)), r3, r4, fun e he => ?_⟩, fun r hr => ?_⟩, hb⟩
  · obtain ⟨r, hr, rfl⟩ := List.mem_map.1 he
    exact r6 r hr
  · obtain ⟨s, j, L, e1, ⟨hj, e2⟩, e3, e4, -, -⟩ := r5 r hr
    cases hC : C (entR r) with
    | none => simp [fC, hC] at e1
    | some p =>
      obtain ⟨s', vals⟩ := p
      have : s' = s := by simpa [fC, hC] using e1
      subst this
      obtain ⟨j', hj', k1, k2⟩ := h3 _ s' vals hC
      obtain ⟨_, ⟨g, hq⟩, _⟩ := h2.1 _ s' (fC_some hC)
      have hn := (h2.2 s' g hq).2.2.1
      have : j = j' := nodup_at hn hj hj' (e2.trans k1.symm)
      subst this
      rw [k2] at e4
      exact ⟨s', vals, L, rfl, e3, e4⟩
/-- How many there are of each set, by who lives with what. -/
def Cs (C : Co) (f : Nat → Option Nat) : Prop := ∀ s, (∀ n, f s = some n ↔ 0 < n ∧ ∃ E : List (Int × Int), E.Nodup ∧ E.length = n ∧ ∀ e, e ∈ E ↔ fC C e = some s)
theorem Cs.eq {f f' : Nat → Option Nat} (h : Cs C f) (h' : Cs C f') : f = f' := by
  funext s
  refine Option.ext (fun n => ?_)
  rw [h s n, h' s n]
/-- Snapshots, by who lives with what: the same bytes. -/
theorem Wn.snap (h : Wn w own gw N ks gs fr C) (E : List (Int × Int)) (hE : Livers (fC C) E) : Calls Tryz.prog 12 #[.pointer (some ⟨gw, 0, none⟩)] w fun e w' => ∃ v, e = .returned v ∧ (∃ l, l = Pak.Rw.rowB (zi gs) ++ Pak.Rw.rowB (zi fr) ++ E.flatMap (fun e => oneB ks (C e)) ∧ w'.ownsRow w.heap.size 5 1 v l.length (Lib.byteCells l)) ∧ Below w.heap.size w w' := by
  refine h.snapshot.mono ?_
  rintro e w' ⟨v, rfl, ⟨E', hE', l, hl, ho⟩, hb⟩
  obtain rfl := livers_eq h.lv hE' hE
  exact ⟨v, rfl, ⟨l, hl, ho⟩, hb⟩
end
end Go.Proofs.YtfbhoemfabgjpaaGreat

/-
  World: what Add and Remove leave, as functions of what was there.
-/
namespace Go.Proofs.YtfbhoemfabgjpaaGreat
open Go.RowKit
set_option maxRecDepth 100000
def insP (k : Nat) (v : List Int) : List (Nat × List Int) → List (Nat × List Int)
  | [] => [(k, v)]
  | r :: t => if r.1 < k then r :: insP k v t else (k, v) :: r :: t
theorem insP_mem (k : Nat) (v : List Int) : ∀ (l : List (Nat × List Int)) (r : Nat × List Int), r ∈ insP k v l ↔ r ∈ l ∨ r = (k, v)
  | [], r => by simp [insP]
  | a :: t, r => by
    unfold insP
    by_cases c : a.1 < k
    · rw [if_pos c, List.mem_cons, insP_mem k v t r, List.mem_cons]
      exact (or_assoc).symm
    · rw [if_neg c, List.mem_cons]
      exact ⟨fun h => Or.symm h, fun h => Or.symm h⟩
theorem insP_rise (k : Nat) (v : List Int) : ∀ (l : List (Nat × List Int)), l.Pairwise (fun x y => x.1 < y.1) → (∀ r ∈ l, r.1 ≠ k) → (insP k v l).Pairwise (fun x y => x.1 < y.1)
  | [], _, _ => by simp [insP]
  | a :: t, h, hn => by
    obtain ⟨h1, h2⟩ := List.pairwise_cons.1 h
    unfold insP
    by_cases c : a.1 < k
    · rw [if_pos c]
      refine List.pairwise_cons.2 ⟨fun r hr => ?_, insP_rise k v t h2 (fun r hr => hn r (List.mem_cons_of_mem _ hr))⟩
      rcases (insP_mem k v t r).1 hr with hr | rfl
      · exact h1 r hr
      · exact c
    · rw [if_neg c]
      have hk : k < a.1 := by have := hn a List.mem_cons_self; omega
      refine List.pairwise_cons.2 ⟨fun r hr => ?_, h⟩
      rcases List.mem_cons.1 hr with rfl | hr
      · exact hk
      · exact Nat.lt_trans hk (h1 r hr)
def addV (ks : List Kind) (s : Nat) (old : List Int) (k : Nat) (v : List Int) : List Int := (insP k v (partsL ks s 1 old)).flatMap (·.2)
def remV (ks : List Kind) (s : Nat) (old : List Int) (k : Nat) : List Int := ((partsL ks s 1 old).filter (fun r => decide (r.1 ≠ k))).flatMap (·.2)
theorem add_is {ks : List Kind} {s k : Nat} {old vals' v : List Int} (hs : s.testBit k = false) (h1 : vals'.length = fsum ks (s ||| 2 ^ k) 1) (h : ∀ r, r ∈ partsL ks (s ||| 2 ^ k) 1 vals' ↔ r ∈ partsL ks s 1 old ∨ r = (k, v)) : vals' = addV ks s old k v := by
  have e : partsL ks (s ||| 2 ^ k) 1 vals' = insP k v (partsL ks s 1 old) := by
    refine rise_ext (fun r => (r.1 : Int)) _ _ ((partsL_pair _ _ 1 _).imp (fun {x y} hxy => by omega)) ((insP_rise k v _ (partsL_pair ks s 1 old) (fun r hr e => ?_)).imp (fun {x y} hxy => by omega)) (fun r => by rw [h, insP_mem])
    have := (partsL_mem ks s 1 old r hr).2.2
    rw [e, hs] at this
    cases this
  unfold addV
  rw [← e, partsL_flat _ _ 1 _ h1]
theorem rem_is {ks : List Kind} {s k : Nat} {old vals' : List Int} (h1 : vals'.length = fsum ks (s ^^^ 2 ^ k) 1) (h : ∀ r, r ∈ partsL ks (s ^^^ 2 ^ k) 1 vals' ↔ r ∈ partsL ks s 1 old ∧ r.1 ≠ k) : vals' = remV ks s old k := by
  have e : partsL ks (s ^^^ 2 ^ k) 1 vals' = (partsL ks s 1 old).filter (fun r => decide (r.1 ≠ k)) := by
    refine rise_ext (fun r => (r.1 : Int)) _ _ ((partsL_pair _ _ 1 _).imp (fun {x y} hxy => by omega)) (((partsL_pair ks s 1 old).sublist List.filter_sublist).imp (fun {x y} hxy => by omega)) (fun r => ?_)
    rw [h, List.mem_filter, decide_eq_true_eq]
  unfold remV
  rw [← e, partsL_flat _ _ 1 _ h1]
end Go.Proofs.YtfbhoemfabgjpaaGreat

/-
  Buffer: what a command does to a world, told of who lives with what.
-/
namespace Go.Proofs.YtfbhoemfabgjpaaGreat
open Go.RowKit
set_option maxRecDepth 100000
abbrev St := List Nat × List Nat × Co
def mp (P : List (Int × List Int)) : List (Int × Nat) := P.map (fun p => (p.1, p.2.length))
def ml (l : List Pt) : List (Int × Nat) := l.map (fun p => (p.1, p.2.2.1))
def comeM (ks : List Kind) : Nat → List (Int × Nat) → Int
  | _, [] => 0
  | s, p :: t => if comeS ks s p.1 p.2 = 0 then comeM ks (s ||| 2 ^ p.1.toNat) t else comeS ks s p.1 p.2
def setM (m : List (Int × Nat)) : Nat := m.foldl (fun s p => s ||| 2 ^ p.1.toNat) 0
theorem comeM_is (ks : List Kind) : ∀ (l : List Pt) (s : Nat), comeL ks s l = comeM ks s (ml l)
  | [], _ => rfl
  | p :: t, s => by
    unfold comeL
    rw [show ml (p :: t) = (p.1, p.2.2.1) :: ml t from rfl]
    unfold comeM
    rw [comeM_is ks t]
theorem setM_is (l : List Pt) : setOf l = setM (ml l) := by
  unfold setOf setM ml
  rw [List.foldl_map]
/-- What a command does. -/
def StepC (ks : List Kind) (σ : St) (c : Cm) (σ' : St) (m : Int × Int) (z : Int) : Prop :=
  if c.op = 1 then
    if comeM ks 0 (mp c.P) = 0 then
      if σ.2.1 = [] ∧ σ.1.length = 200 then σ' = σ ∧ m = (0, 0) ∧ z = 40
      else (∃ vals : List Int, σ' = (takeG σ.1 σ.2.1, takeF σ.2.1, fun x => if x = (((takeE σ.1 σ.2.1).1 : Int), ((takeE σ.1 σ.2.1).2 : Int)) then some (setM (mp c.P), vals) else σ.2.2 x) ∧ vals.length = fsum ks (setM (mp c.P)) 1 ∧ ∀ r, r ∈ partsL ks (setM (mp c.P)) 1 vals ↔ ∃ p ∈ c.P, r = (p.1.toNat, p.2)) ∧ m = (((takeE σ.1 σ.2.1).1 : Int), ((takeE σ.1 σ.2.1).2 : Int)) ∧ z = 0
    else σ' = σ ∧ m = (0, 0) ∧ z = comeM ks 0 (mp c.P)
  else m = (0, 0) ∧
    if c.op = 2 then
      if (σ.2.2 (c.ix, c.gn)).isSome = true then σ' = (giveG σ.1 c.ix.toNat, giveF σ.1 σ.2.1 c.ix.toNat, fun x => if x = (c.ix, c.gn) then none else σ.2.2 x) ∧ z = 0 else σ' = σ ∧ z = 41
    else if c.op = 3 then
      if (σ.2.2 (c.ix, c.gn)).isSome = true then
        if comeS ks ((σ.2.2 (c.ix, c.gn)).getD (0, [])).1 c.kd c.V.length = 0 then
          (∃ vals : List Int, σ' = (σ.1, σ.2.1, fun y => if y = (c.ix, c.gn) then some (((σ.2.2 (c.ix, c.gn)).getD (0, [])).1 ||| 2 ^ c.kd.toNat, vals) else σ.2.2 y) ∧ vals.length = fsum ks (((σ.2.2 (c.ix, c.gn)).getD (0, [])).1 ||| 2 ^ c.kd.toNat) 1 ∧ ∀ r, r ∈ partsL ks (((σ.2.2 (c.ix, c.gn)).getD (0, [])).1 ||| 2 ^ c.kd.toNat) 1 vals ↔ r ∈ partsL ks ((σ.2.2 (c.ix, c.gn)).getD (0, [])).1 1 ((σ.2.2 (c.ix, c.gn)).getD (0, [])).2 ∨ r = (c.kd.toNat, c.V)) ∧ z = 0
        else σ' = σ ∧ z = comeS ks ((σ.2.2 (c.ix, c.gn)).getD (0, [])).1 c.kd c.V.length
      else σ' = σ ∧ z = 41
    else if c.op = 4 then
      if hasE ks (σ.2.2 (c.ix, c.gn)).isSome ((σ.2.2 (c.ix, c.gn)).getD (0, [])).1 c.kd = 0 then
        (∃ vals : List Int, σ' = (σ.1, σ.2.1, fun y => if y = (c.ix, c.gn) then some (((σ.2.2 (c.ix, c.gn)).getD (0, [])).1 ^^^ 2 ^ c.kd.toNat, vals) else σ.2.2 y) ∧ vals.length = fsum ks (((σ.2.2 (c.ix, c.gn)).getD (0, [])).1 ^^^ 2 ^ c.kd.toNat) 1 ∧ ∀ r, r ∈ partsL ks (((σ.2.2 (c.ix, c.gn)).getD (0, [])).1 ^^^ 2 ^ c.kd.toNat) 1 vals ↔ r ∈ partsL ks ((σ.2.2 (c.ix, c.gn)).getD (0, [])).1 1 ((σ.2.2 (c.ix, c.gn)).getD (0, [])).2 ∧ r.1 ≠ c.kd.toNat) ∧ z = 0
      else σ' = σ ∧ z = hasE ks (σ.2.2 (c.ix, c.gn)).isSome ((σ.2.2 (c.ix, c.gn)).getD (0, [])).1 c.kd
    else σ' = σ ∧ z = 1
/-- It does just one thing. -/
theorem StepC.det {ks : List Kind} {σ σ1 σ2 : St} {c : Cm} {m1 m2 : Int × Int} {z1 z2 : Int} (h1 : StepC ks σ c σ1 m1 z1) (h2 : StepC ks σ c σ2 m2 z2) : σ1 = σ2 ∧ m1 = m2 ∧ z1 = z2 := by
  unfold StepC at h1 h2
  by_cases o1 : c.op = 1
  · rw [if_pos o1] at h1 h2
    by_cases a1 : comeM ks 0 (mp c.P) = 0
    · rw [if_pos a1] at h1 h2
      by_cases a2 : σ.2.1 = [] ∧ σ.1.length = 200
      · rw [if_pos a2] at h1 h2
        exact ⟨h1.1.trans h2.1.symm, h1.2.1.trans h2.2.1.symm, h1.2.2.trans h2.2.2.symm⟩
      · rw [if_neg a2] at h1 h2
        obtain ⟨⟨v1, e1, l1, p1⟩, k1, k2⟩ := h1
        obtain ⟨⟨v2, e2, l2, p2⟩, k3, k4⟩ := h2
        obtain rfl := cont_ext l1 l2 (fun r => (p1 r).trans (p2 r).symm)
        exact ⟨e1.trans e2.symm, k1.trans k3.symm, k2.trans k4.symm⟩
    · rw [if_neg a1] at h1 h2
      exact ⟨h1.1.trans h2.1.symm, h1.2.1.trans h2.2.1.symm, h1.2.2.trans h2.2.2.symm⟩
  · rw [if_neg o1] at h1 h2
    obtain ⟨k1, h1⟩ := h1
    obtain ⟨k2, h2⟩ := h2
    refine and_left_comm.1 ⟨k1.trans k2.symm, ?_⟩
    by_cases o2 : c.op = 2
    · rw [if_pos o2] at h1 h2
      split at h1
      · rename_i a
        rw [if_pos a] at h2
        exact ⟨h1.1.trans h2.1.symm, h1.2.trans h2.2.symm⟩
      · rename_i a
        rw [if_neg a] at h2
        exact ⟨h1.1.trans h2.1.symm, h1.2.trans h2.2.symm⟩
    · rw [if_neg o2] at h1 h2
      by_cases o3 : c.op = 3
      · rw [if_pos o3] at h1 h2
        by_cases a : (σ.2.2 (c.ix, c.gn)).isSome = true
        · rw [if_pos a] at h1 h2
          by_cases b : comeS ks ((σ.2.2 (c.ix, c.gn)).getD (0, [])).1 c.kd c.V.length = 0
          · rw [if_pos b] at h1 h2
            obtain ⟨⟨v1, e1, l1, p1⟩, k3⟩ := h1
            obtain ⟨⟨v2, e2, l2, p2⟩, k4⟩ := h2
            obtain rfl := cont_ext l1 l2 (fun r => (p1 r).trans (p2 r).symm)
            exact ⟨e1.trans e2.symm, k3.trans k4.symm⟩
          · rw [if_neg b] at h1 h2
            exact ⟨h1.1.trans h2.1.symm, h1.2.trans h2.2.symm⟩
        · rw [if_neg a] at h1 h2
          exact ⟨h1.1.trans h2.1.symm, h1.2.trans h2.2.symm⟩
      · rw [if_neg o3] at h1 h2
        by_cases o4 : c.op = 4
        · rw [if_pos o4] at h1 h2
          by_cases b : hasE ks (σ.2.2 (c.ix, c.gn)).isSome ((σ.2.2 (c.ix, c.gn)).getD (0, [])).1 c.kd = 0
          · rw [if_pos b] at h1 h2
            obtain ⟨⟨v1, e1, l1, p1⟩, k3⟩ := h1
            obtain ⟨⟨v2, e2, l2, p2⟩, k4⟩ := h2
            obtain rfl := cont_ext l1 l2 (fun r => (p1 r).trans (p2 r).symm)
            exact ⟨e1.trans e2.symm, k3.trans k4.symm⟩
          · rw [if_neg b] at h1 h2
            exact ⟨h1.1.trans h2.1.symm, h1.2.trans h2.2.symm⟩
        · rw [if_neg o4] at h1 h2
          exact ⟨h1.1.trans h2.1.symm, h1.2.trans h2.2.symm⟩
theorem find_at : ∀ (P : List (Int × List Int)) (_ : (P.map (·.1)).Nodup) (i : Nat) (h : i < P.length), P.find? (fun r => r.1 == P[i].1) = some P[i]
  | p :: t, hn, 0, _ => by simp
  | p :: t, hn, i + 1, h => by
    have h2 : i < t.length := by simpa using h
    obtain ⟨h3, h4⟩ := List.nodup_cons.1 (by simpa using hn : (p.1 :: t.map (·.1)).Nodup)
    have h5 : ¬ p.1 = t[i].1 := fun e => h3 (List.mem_map.2 ⟨t[i], List.getElem_mem h2, e.symm⟩)
    have h6 : (p.1 == t[i].1) = false := by simp [h5]
    rw [List.getElem_cons_succ, List.find?_cons, h6]
    exact find_at t h4 i h2
end Go.Proofs.YtfbhoemfabgjpaaGreat
