/-
  Verify: depths.
-/
import Derived.Test.YtfkhhplcogedmaaGreatDoorMgG
namespace Go.Proofs.YtfkhhplcogedmaaGreatDoor
open Go.RowKit
set_option maxRecDepth 100000
theorem own_rn {W : World} {B : Nat} {v : Value} {l : List Nat} (h : W.ownsRow B 3 1 v l.length (nz l)) : Rn W v l := by
  obtain ⟨a, c, rfl⟩ := own_len h
  obtain ⟨h1, h2⟩ := own_cap h
  refine ⟨a, c, rfl, h1, h2, fun h0 => ?_⟩
  obtain ⟨g, c', e, -, -⟩ := own_form h h0
  simp only [Value.slice.injEq, true_and] at e
  obtain ⟨rfl, rfl⟩ := e
  refine ⟨g, 0, rfl, fun i hi => ?_⟩
  rw [Nat.zero_add, h.cellAt i (by omega), nz_at l i hi]
/-- The keys that are not to come, of those that are there. -/
def Dn (kn : Nat → List Nat) (left : Lit → Bool) (p : Nat) : Prop := kn p ≠ [] ∧ left (.int .i64 (p : Int)) = false
open Classical in
/-- The depths as far as they are told. -/
noncomputable def dpT (kn : Nat → List Nat) (left : Lit → Bool) (n : Nat) : List Value := (List.range n).map fun p => if Dn kn left p then .int .i64 ((kn p).headD 0 : Int) else m1v
theorem dpT_start {kn : Nat → List Nat} {left : Lit → Bool} {n : Nat} (h : ∀ p, kn p ≠ [] → left (.int .i64 (p : Int)) = true) : dpT kn left n = List.replicate n m1v := by
  unfold dpT
  apply List.ext_getElem
  · simp
  · intro i h1 h2
    have : ¬ Dn kn left i := fun e => by
      have := h i e.1
      rw [e.2] at this
      cases this
    simp [this]
theorem sameK (q p : Nat) : (Lit.int .i64 (q : Int)).sameKey (.int .i64 (p : Int)) = decide (q = p) := by
  by_cases h : q = p
  · subst h
    rw [decide_eq_true rfl]
    exact WideAt.sameKey_self trivial
  · rw [decide_eq_false h]
    exact Maps.sameKey_ne (fun e => h (by simp only [Lit.int.injEq, true_and] at e; omega))
theorem dn_step {kn : Nat → List Nat} {left : Lit → Bool} {p q : Nat} (hp : kn p ≠ []) : Dn kn (fun z => left z && !z.sameKey (.int .i64 (p : Int))) q ↔ Dn kn left q ∨ q = p := by
  unfold Dn
  dsimp only
  rw [sameK]
  by_cases e : q = p
  · subst e
    simp [hp]
  · simp [e]
theorem dpT_step {kn : Nat → List Nat} {left : Lit → Bool} {n p : Nat} (hp : kn p ≠ []) : (dpT kn left n).set p (.int .i64 ((kn p).headD 0 : Int)) = dpT kn (fun z => left z && !z.sameKey (.int .i64 (p : Int))) n := by
  unfold dpT
  apply List.ext_getElem
  · simp
  · intro i h1 h2
    rw [List.getElem_set]
    by_cases e : p = i
    · subst e
      rw [if_pos rfl]
      simp [(dn_step (left := left) (q := p) hp).2 (.inr rfl)]
    · rw [if_neg e]
      have : Dn kn (fun z => left z && !z.sameKey (.int .i64 (p : Int))) i ↔ Dn kn left i := by
        rw [dn_step hp]
        exact ⟨fun h => h.resolve_right (fun e' => e e'.symm), .inl⟩
      rw [List.getElem_map, List.getElem_map, List.getElem_range]
      by_cases hx : Dn kn left i
      · rw [if_pos hx, if_pos (this.2 hx)]
      · rw [if_neg hx, if_neg (fun e' => hx (this.1 e'))]
/-- The first that is wrong, as far as it is told. -/
def Lw (wr : Nat → Int) (D : Nat → Prop) (n : Nat) (le e : Int) : Prop :=
  (e = 0 ∧ le = (n : Int) ∧ ∀ p, D p → wr p = 0) ∨ ∃ p : Nat, p < n ∧ le = (p : Int) ∧ e = wr p ∧ wr p ≠ 0 ∧ D p ∧ ∀ q, D q → wr q ≠ 0 → p ≤ q
theorem Lw.start (wr : Nat → Int) (D : Nat → Prop) (n : Nat) (h : ∀ p, ¬ D p) : Lw wr D n (n : Int) 0 := .inl ⟨rfl, rfl, fun p hp => absurd hp (h p)⟩
theorem Lw.ok {wr : Nat → Int} {D D' : Nat → Prop} {n p : Nat} {le e : Int} (h : Lw wr D n le e) (hD : ∀ q, D' q ↔ D q ∨ q = p) (hw : wr p = 0) : Lw wr D' n le e := by
  rcases h with ⟨h1, h2, h3⟩ | ⟨r, h1, h2, h3, h4, h5, h6⟩
  · refine .inl ⟨h1, h2, fun q hq => ?_⟩
    rcases (hD q).1 hq with hq | rfl
    · exact h3 q hq
    · exact hw
  · refine .inr ⟨r, h1, h2, h3, h4, (hD r).2 (.inl h5), fun q hq hq0 => ?_⟩
    rcases (hD q).1 hq with hq | rfl
    · exact h6 q hq hq0
    · exact absurd hw hq0
theorem Lw.less {wr : Nat → Int} {D D' : Nat → Prop} {n p : Nat} {le e : Int} (h : Lw wr D n le e) (hD : ∀ q, D' q ↔ D q ∨ q = p) (hp : p < n) (hw : wr p ≠ 0) (hl : (p : Int) < le) : Lw wr D' n (p : Int) (wr p) := by
  refine .inr ⟨p, hp, rfl, rfl, hw, (hD p).2 (.inr rfl), fun q hq hq0 => ?_⟩
  rcases (hD q).1 hq with hq | rfl
  · rcases h with ⟨h1, h2, h3⟩ | ⟨r, h1, h2, h3, h4, h5, h6⟩
    · exact absurd (h3 q hq) hq0
    · have := h6 q hq hq0
      omega
  · exact Nat.le_refl _
theorem Lw.more {wr : Nat → Int} {D D' : Nat → Prop} {n p : Nat} {le e : Int} (h : Lw wr D n le e) (hD : ∀ q, D' q ↔ D q ∨ q = p) (hp : p < n) (hl : ¬ (p : Int) < le) : Lw wr D' n le e := by
  rcases h with ⟨h1, h2, h3⟩ | ⟨r, h1, h2, h3, h4, h5, h6⟩
  · omega
  · refine .inr ⟨r, h1, h2, h3, h4, (hD r).2 (.inl h5), fun q hq hq0 => ?_⟩
    rcases (hD q).1 hq with hq | rfl
    · exact h6 q hq hq0
    · omega
/-- What depths answers. -/
def DpOut (B : Nat) (fs : List Rt) (c : List Ins) (w' : World) (e : Ending) : Prop :=
  (c = [] ∧ e = .returned (.tuple #[.slice none 0 0, .int .i64 0, .int .i64 153])) ∨
  (c ≠ [] ∧ ∃ p, Dpo 150 151 153 fs c (some p) ∧ e = .returned (.tuple #[.slice none 0 0, .int .i64 (p : Int), .int .i64 (wrR 150 151 153 fs c p)])) ∨
  (c ≠ [] ∧ Dpo 150 151 153 fs c none ∧ ∃ v, e = .returned (.tuple #[v, .int .i64 0, .int .i64 0]) ∧ w'.ownsRow B 3 1 v c.length ((List.range c.length).map fun p => Value.int .i64 (dpR fs c p)))
/-- Where the walk of depths comes to. -/
theorem dp_end {B : Nat} {fs : List Rt} {c : List Ins} {kn : Nat → List Nat} {left : Lit → Bool} {le e : Int} {w' : World} {v : Value} (h0 : c ≠ []) (hk : ∀ p d, d ∈ kn p ↔ Rch fs c p d) (_hn : ∀ p, (kn p).Nodup) (hl : ∀ kl, left kl = false)
    (hL : Lw (wrR 150 151 153 fs c) (Dn kn left) c.length le e) (ho : w'.ownsRow B 3 1 v c.length (dpT kn left c.length)) :
    (e = 0 → DpOut B fs c w' (.returned (.tuple #[v, .int .i64 0, .int .i64 0]))) ∧ (e ≠ 0 → DpOut B fs c w' (.returned (.tuple #[.slice none 0 0, .int .i64 le, .int .i64 e]))) := by
  have hdn : ∀ p, Dn kn left p ↔ Rcd fs c p := fun p => by
    unfold Dn Rcd
    rw [hl]
    constructor
    · rintro ⟨h, -⟩
      cases hx : kn p with
      | nil => exact absurd hx h
      | cons d t => exact ⟨d, (hk p d).1 (by rw [hx]; simp)⟩
    · rintro ⟨d, hd⟩
      exact ⟨fun e => (by have := (hk p d).2 hd; rw [e] at this; cases this), rfl⟩
  refine ⟨fun he => ?_, fun he => ?_⟩
  · rcases hL with ⟨-, -, h3⟩ | ⟨p, -, -, h3, h4, -⟩
    · refine .inr (.inr ⟨h0, fun p _ hp => hp.2 (h3 p ((hdn p).2 hp.1)), v, rfl, ?_⟩)
      have e1 : dpT kn left c.length = (List.range c.length).map fun p => Value.int .i64 (dpR fs c p) := by
        unfold dpT
        apply List.map_congr_left
        intro p hp
        by_cases hr : Rcd fs c p
        · rw [if_pos ((hdn p).2 hr)]
          cases hx : kn p with
          | nil => exact absurd hx ((hdn p).2 hr).1
          | cons d t =>
            have hd : Rch fs c p d := (hk p d).1 (by rw [hx]; simp)
            have hw := h3 p ((hdn p).2 hr)
            rw [List.headD_cons, (wrR_ok (by decide) (by decide) (by decide) hd hw).2.1]
        · rw [if_neg (fun e => hr ((hdn p).1 e)), dpR_no hr]
          rfl
      rw [← e1]
      exact ho
    · exact absurd he (h3 ▸ h4)
  · rcases hL with ⟨h1, -⟩ | ⟨p, h1, h2, h3, h4, h5, h6⟩
    · exact absurd h1 he
    · refine .inr (.inl ⟨h0, p, ⟨h1, ⟨(hdn p).1 h5, h4⟩, fun j hj hw => ?_⟩, ?_⟩)
      · have := h6 j ((hdn j).2 hw.1) hw.2
        omega
      · rw [h2, h3]
/-- What the walk of depths holds. -/
structure Dx (w : World) (B BR ga cc gm r m n : Nat) (vc vf : Value) (wq : Nat → Int) (D : DataW (Nat × Nat × Nat)) (bl cp : Nat → Nat) (kn : Nat → List Nat) (left : Lit → Bool) (cnt : Nat) (le e : Int) (W : World) : Prop where
  rg : W.ranges Tryz.prog 3 hdE gm r m D left cnt
  me : Me W BR D bl cp kn
  own : W.ownsRow B 3 1 (.slice (some ⟨ga, 0, none⟩) n cc) n (dpT kn left n)
  lw : Lw wq (Dn kn left) n le e
  sub : ∀ kl, left kl = true → Maps.has D kl = true
  below : Below w.heap.size w W
  ways : W.heap[B]? = some (.cells #[vc, vf] 80 (0, 0))
theorem rng_blk {W : World} {gm r m cnt : Nat} {D : DataW (Nat × Nat × Nat)} {left : Lit → Bool} (h : W.ranges Tryz.prog 3 hdE gm r m D left cnt) : (∃ es ck, W.heap[gm]? = some (.map es ck)) ∧ ∃ a b c d, W.heap[r]? = some (.mapIter a b c d) := by
  obtain ⟨es, ck, si, se, c0, h1, -, -, -, h2, -⟩ := h
  exact ⟨⟨es, ck, h1⟩, _, _, _, _, h2⟩
set_option maxHeartbeats 8000000 in
theorem depths_any {Q : Nat → Prop} {w : World} {vc vf : Value} {c : List Ins} {fs : List Rt} (h : Il Q w vc c) (hf : Rts Q w vf fs) (ht : Tb w) (hc : c.length ≤ 2000) : Calls Tryz.prog 28 #[.agg #[vc, vf]] w fun e w' => DpOut w.heap.size fs c w' e ∧ Below w.heap.size w w' := by
  have JR : Hid (0 < c.length → ∀ W, Below w.heap.size w W → Calls Tryz.prog 54 #[.agg #[vc, vf]] W fun e w' => ∃ gm n kn, e = .returned (.map (some gm)) ∧ Md w' W.heap.size gm n kn ∧ (∀ p d, d ∈ kn p ↔ Rch fs c p d) ∧ (∀ p, (kn p).Nodup) ∧ W.heap.size ≤ gm ∧ Below W.heap.size W w') := fun h0 W hW => reached_any (h.later hW) (hf.later hW) (ht.later hW) h0 hc
  have JW : Hid (∀ W p vd ds, Below w.heap.size w W → p < c.length → Rn W vd ds → ds ≠ [] → (∀ d ∈ ds, d ≤ 64) → Calls Tryz.prog 55 #[.agg #[vc, vf], .int .i64 ((p : Nat) : Int), vd] W fun e w' => e = .returned (.int .i64 (wrgI 150 151 153 fs c p ds)) ∧ Below W.heap.size W w') := fun W p vd ds hW hp hd h0 h1 => wrong_any (h.later hW) (hf.later hW) (ht.later hW) p hp hd h0 h1
  obtain ⟨ao, co, rfl, h1, h2⟩ := h.at
  obtain ⟨af, cf, rfl, -, -, -⟩ := hf
  obtain ⟨n, hn⟩ : ∃ n, n = c.length := ⟨_, rfl⟩
  obtain ⟨nf, hnf⟩ : ∃ n, n = fs.length := ⟨_, rfl⟩
  rw [← hn, ← hnf] at JR JW
  rw [← hn] at h1 hc ⊢
  rw [← hnf]
  have HN := hide hn
  obtain ⟨B, hB⟩ : ∃ B, B = w.heap.size := ⟨_, rfl⟩
  have HB := hide hB
  clear h hn hnf ht
  by_cases c0 : n = 0
  · have HO : Hid (∀ W, DpOut w.heap.size fs c W (.returned (.tuple #[.slice none 0 0, .int .i64 0, .int .i64 153]))) := fun W => .inl ⟨List.eq_nil_of_length_eq_zero (by have := HN.out; omega), rfl⟩
    subst c0
    go_enter Tryz.func28, Tryz.ntmps28
    go_wp2_with fail
    go_ret3
    exact ⟨HO.out _, below_alloc w _⟩
  · have HC0 : Hid (c ≠ []) := fun e => c0 (by rw [HN.out, e]; rfl)
    have H0 := hide (show 0 < n by omega)
    have t0 : ((n : Int) == 0) = false := beq_eq_false_iff_ne.2 (by omega)
    obtain ⟨wA, hwA⟩ : ∃ X, X = w.alloc (.cells #[.slice ao n co, .slice af nf cf] 80) := ⟨_, rfl⟩
    have kA : wA.heap[B]? = some (.cells #[.slice ao n co, .slice af nf cf] 80 (0, 0)) := by rw [hwA, hB]; exact heap_alloc_new w _
    have bA : Below w.heap.size w wA := hwA ▸ below_alloc w _
    obtain ⟨wB, hwB⟩ : ∃ X, X = wA.alloc (.cells #[.int .i64 (-1)] 3) := ⟨_, rfl⟩
    have sA : wA.heap.size = B + 1 := by rw [hwA, hB]; simp
    have bB : Below wA.heap.size wA wB := hwB ▸ below_alloc wA _
    have kB : wB.heap[B + 1]? = some (.cells #[.int .i64 (-1)] 3 (0, 0)) := by rw [hwB, ← sA]; exact heap_alloc_new wA _
    have J1 := hide (repeat_any wB (B + 1) n (by rw [cell_of_row _ _ _ _ 3 (0, 0) kB]; rfl) H0.out (by omega))
    have KB : Hid (∀ W, Below wB.heap.size wB W → W.heap[B]? = some (.cells #[.slice ao n co, .slice af nf cf] 80 (0, 0))) := fun W hW => ((below_on bB hW).block B (lt_of_block kA)).trans kA
    have BB := hide (below_on bA bB)
    have SB : Hid (wB.heap.size = B + 1 + 1) := by unfold Hid; rw [hwB]; simp [sA]
    have y0 := KB.out wB (Below.refl _ _)
    have f0 : wA.cell? ⟨B, 0, none⟩ = some (.slice ao n co) := by rw [cell_of_row wA _ _ _ 80 (0, 0) kA]; rfl
    have f1 : wB.cell? ⟨B, 0, none⟩ = some (.slice ao n co) := by rw [cell_of_row wB _ _ _ 80 (0, 0) y0]; rfl
    have HwB := hide hwB
    go_enter Tryz.func28, Tryz.ntmps28
    go_upto_region 1 with fail
    rw [← hB, ← hwA]
    clear hB hwA hwB bA kA bB y0
    go_upto_region 3 with fail
    go_wp2_with fail
    rw [← HwB.out]
    refine J1.out.mono ?_
    rintro e wC ⟨cc, rfl, oC, bC⟩
    have yC := KB.out wC bC
    have g0 : wC.cell? ⟨B, 0, none⟩ = some (.slice ao n co) := by rw [cell_of_row wC _ _ _ 80 (0, 0) yC]; rfl
    have g1 : wC.cell? ⟨B, 1, none⟩ = some (.slice af nf cf) := by rw [cell_of_row wC _ _ _ 80 (0, 0) yC]; rfl
    have J2 := hide (JR.out H0.out wC (below_on BB.out bC))
    obtain ⟨ga, hga⟩ : ∃ x, x = wB.heap.size := ⟨_, rfl⟩
    rw [← hga] at oC ⊢
    have HGA : Hid (B ≤ ga ∧ ga < wC.heap.size ∧ ga = B + 1 + 1 ∧ n ≤ cc ∧ cc ≤ 9223372036854775807) := by
      have := SB.out
      exact ⟨by omega, (oC.lt ga rfl).2, by omega, (own_cap oC).1, (own_cap oC).2⟩
    have CP1 := HGA.out.2.2.2.1
    have CP2 := HGA.out.2.2.2.2
    have OC := hide oC
    have BC := hide (below_on BB.out bC)
    have YC := hide yC
    clear oC bC hga J1 f0 f1 yC KB kB sA HwB
    go_wp2_with fail
    refine J2.out.mono ?_
    rintro e wD ⟨gm, m, kn, rfl, md, hk, hnd, hgm, bD⟩
    obtain ⟨D, bl, cp, hown, hme⟩ := md
    have hgmD := hown.lt
    have HK := hide hk
    have HND := hide hnd
    have OD := hide (own_later OC.out bD)
    have BD := hide (below_on BC.out bD)
    have YD : Hid (wD.heap[B]? = some (.cells #[.slice ao n co, .slice af nf cf] 80 (0, 0))) := (bD.block B (lt_of_block YC.out)).trans YC.out
    obtain ⟨BR, hBR⟩ : ∃ x, x = wC.heap.size := ⟨_, rfl⟩
    rw [← hBR] at hme hgm HGA
    have HME := hide hme
    have HGM := hide hgm
    have HBRD : Hid (BR ≤ wD.heap.size) := by have := bD.size; unfold Hid; omega
    clear hk hnd bD OC BC YC hme hgm J2 g0 g1 hBR
    go_wp2_with (at_range; refine wpList_range_own _ rfl _ 118 rfl 3 36 keyedI Tryz.underlying118 hdE gm m D rfl hown ?_; intro wE hrg0 hg0 hs0)
    have DX0 : Hid (Dx w B BR ga cc gm wD.heap.size m n (.slice ao n co) (.slice af nf cf) (wrR 150 151 153 fs c) D bl cp kn (Maps.has D) (Maps.size D) (n : Int) 0 wE) := by
      have hst : ∀ p, kn p ≠ [] → Maps.has D (.int .i64 (p : Int)) = true := fun p hp => by
        rw [(HME.out.at' p (HME.out.row p hp).1).1]
        exact decide_eq_true hp
      have bE : Below wD.heap.size wD wE := ⟨hg0.os, hg0.tape, hg0.output, hg0.size, fun k hk => hg0.block k hk (by simp)⟩
      refine ⟨hrg0, HME.out.kept hg0 (fun p hp => by simp), ?_, Lw.start _ _ _ (fun p hp => ?_), fun kl h => h, below_on BD.out bE, (bE.block B (lt_of_block YD.out)).trans YD.out⟩
      · rw [dpT_start hst, HB.out]
        exact own_lower (own_later OD.out bE) (by have := HB.out; have := HGA.out; have := SB.out; omega)
      · have := hst p hp.1
        rw [hp.2] at this
        cases this
    obtain ⟨r, hr⟩ : ∃ x, x = wD.heap.size := ⟨_, rfl⟩
    have HRB : Hid (B ≤ r) := by have := BD.out.size; have := HB.out; unfold Hid; omega
    rw [← hr] at DX0 ⊢
    clear hrg0 hg0 hs0 hown HME OD BD YD hr
    go_frame
    go_loopw [6, 7] (fun v6 v7 W => ∃ (left : Lit → Bool) (cnt : Nat) (le e : Int), v6 = .int .i64 le ∧ v7 = .int .i64 e ∧ Hid (Dx w B BR ga cc gm r m n (.slice ao n co) (.slice af nf cf) (wrR 150 151 153 fs c) D bl cp kn left cnt le e W)) (fun _ _ W => W.rangeLeft gm r)
    case atStart => exact ⟨_, _, _, _, rfl, rfl, DX0.out⟩
    case round =>
      obtain ⟨left, cnt, le, e, rfl, rfl, HX⟩ := hrel
      clear DX0
      have hrg := HX.out.rg
      go_wp2_with (at_next; refine wpList_next_ranges _ rfl _ rfl 3 keyedI hdE (Value.int .i64) (fun c : Option Addr × Nat × Nat => Value.slice c.1 c.2.1 c.2.2) (fun key kl hkey => by obtain ⟨x, rfl, _⟩ := Maps.keyOf_int_inv Tryz.underlying3 hkey; exact ⟨x, rfl⟩) hdE_inv gm r m D left cnt rfl hrg ?_ ?_)
      · intro _ hl0
        have HE := hide (dp_end (B := B) (w' := wr) HC0.out HK.out HND.out hl0 (HN.out ▸ HX.out.lw) (v := .slice (some ⟨ga, 0, none⟩) n cc) (HN.out ▸ HX.out.own))
        have BW := hide HX.out.below
        clear hrg HX hl0
        by_cases he : e = 0
        · have hf := HE.out.1 he
          have HF := hide hf
          subst he
          clear hf HE
          go_wp2_with fail
          go_ret3
          exact ⟨HB.out ▸ HF.out, BW.out⟩
        · have hf := HE.out.2 he
          have HF := hide hf
          have f1 : (e != 0) = true := by simp [he]
          clear hf HE he
          go_wp2_with fail
          go_ret3
          exact ⟨HB.out ▸ HF.out, BW.out⟩
      · intro x a a1 b kl y ys w1 cnt1 hkey hlk hv hat hrg1 hlt hg1 hs1 hen
        obtain ⟨x', ex, rfl, -⟩ := Maps.keyOf_int_inv Tryz.underlying3 hkey
        obtain rfl : x = x' := by simpa using ex
        obtain ⟨p, hp6, hp⟩ := HX.out.me.key _ (HX.out.sub _ hlk)
        obtain rfl : x = (p : Int) := by simpa using hp
        have hkn : kn p ≠ [] := by
          have h1 := HX.out.sub _ hlk
          rw [(HX.out.me.at' p hp6).1] at h1
          exact of_decide_eq_true h1
        have h3 := hat .nil
        rw [(HX.out.me.at' p hp6).2 hkn] at h3
        rw [← h3] at hv
        have h4 := hdE_held hv
        simp only [Value.slice.injEq] at h4
        obtain ⟨rfl, rfl, rfl⟩ := h4
        have hrch : ∀ d ∈ kn p, p < n ∧ d ≤ 64 := fun d hd => by
          have := ((HK.out p d).1 hd).lt (by rw [← HN.out]; exact H0.out)
          rw [← HN.out] at this
          exact this
        obtain ⟨d0, dt, hdt⟩ : ∃ d t, kn p = d :: t := by
          cases hx : kn p with
          | nil => exact absurd hx hkn
          | cons d t => exact ⟨d, t, rfl⟩
        have hpn : p < n := (hrch d0 (by rw [hdt]; simp)).1
        obtain ⟨⟨es0, ck0, hmb⟩, i0, i1, i2, i3, hib⟩ := rng_blk HX.out.rg
        have HNE : Hid (∀ q, kn q ≠ [] → bl q ≠ r ∧ bl q ≠ gm ∧ BR ≤ bl q) := fun q hq => by
          obtain ⟨cur, hc'⟩ := own_blk2 (HX.out.me.row q hq).2 (g := bl q) rfl
          refine ⟨fun e' => ?_, fun e' => ?_, own_ge (HX.out.me.row q hq).2⟩
          · rw [e', hib] at hc'
            cases hc'
          · rw [e', hmb] at hc'
            cases hc'
        have hga : ga ≠ r ∧ ga ≠ gm := by
          obtain ⟨cur, hc'⟩ := own_blk2 HX.out.own (g := ga) rfl
          refine ⟨fun e' => ?_, fun e' => ?_⟩
          · rw [e', hib] at hc'
            cases hc'
          · rw [e', hmb] at hc'
            cases hc'
        have hBr : B ≠ r ∧ B ≠ gm ∧ B ≠ ga := by
          refine ⟨fun e' => ?_, fun e' => ?_, fun e' => ?_⟩
          · have := HX.out.ways
            rw [e', hib] at this
            cases this
          · have := HX.out.ways
            rw [e', hmb] at this
            cases this
          · have := HGA.out
            omega
        have hrB : B ≤ r := HRB.out
        have own1 := own_kept HX.out.own hg1 (fun k e' => by simp only [Value.ownBlock, Option.some.injEq] at e'; simp; omega)
        have me1 : Me w1 BR D bl cp kn := HX.out.me.kept hg1 (fun q hq => by have := (HNE.out q hq).1; simp; omega)
        have bw1 : Below w.heap.size w w1 := HX.out.below.grown hg1 HX.out.below.size (fun k e' => by simp at e'; have := HB.out; omega)
        have wy1 : w1.heap[B]? = some (.cells #[.slice ao n co, .slice af nf cf] 80 (0, 0)) := (hg1.block B (lt_of_block HX.out.ways) (by simp; omega)).trans HX.out.ways
        have d1 : w1.cell? ⟨bl p, 0, none⟩ = some (.int .i64 (d0 : Int)) := by
          rw [(me1.row p hkn).2.cellAt 0 (by rw [hdt]; simp), nz_at _ _ (by rw [hdt]; simp)]
          simp [hdt]
        have df := own1.frozenAt p
        have cell0 : w1.cell? ⟨ga, p, none⟩ = some ((dpT kn left n)[p]'(by simp [dpT]; omega)) := by
          rw [own1.cellAt p (by omega)]
          simp [dpT, hpn]
        obtain ⟨cv, hcv⟩ : ∃ x, x = ((dpT kn left n)[p]'(by simp [dpT]; omega)) := ⟨_, rfl⟩
        rw [← hcv] at cell0
        have tp : (p : Int) < (n : Int) := by omega
        have tk : (0 : Int) < ((kn p).length : Int) := by rw [hdt]; simp
        have hcap := own_cap (me1.row p hkn).2
        have FX : Hid ((w1.setCell ⟨ga, p, none⟩ (.int .i64 (d0 : Int))).ownsRow B 3 1 (.slice (some ⟨ga, 0, none⟩) n cc) n (dpT kn (fun z => left z && !z.sameKey (.int .i64 (p : Int))) n) ∧ Me (w1.setCell ⟨ga, p, none⟩ (.int .i64 (d0 : Int))) BR D bl cp kn ∧ (w1.setCell ⟨ga, p, none⟩ (.int .i64 (d0 : Int))).ranges Tryz.prog 3 hdE gm r m D (fun z => left z && !z.sameKey (.int .i64 (p : Int))) cnt1 ∧ Below w.heap.size w (w1.setCell ⟨ga, p, none⟩ (.int .i64 (d0 : Int))) ∧ (w1.setCell ⟨ga, p, none⟩ (.int .i64 (d0 : Int))).heap[B]? = some (.cells #[.slice ao n co, .slice af nf cf] 80 (0, 0))) := by
          have hgs := grown_set w1 ga p (.int .i64 (d0 : Int))
          have e1 := (own1.stored p (.int .i64 (d0 : Int))).1
          have e2 : (kn p).headD 0 = d0 := by rw [hdt]; rfl
          have e3 := dpT_step (left := left) (n := n) hkn
          rw [e2] at e3
          rw [e3] at e1
          refine ⟨e1, me1.kept hgs (fun q hq => ?_), hrg1.kept hgs (by simp; omega) (by simp; omega), bw1.grown hgs bw1.size (fun k e' => ?_), (hgs.block B (lt_of_block wy1) (by simp; omega)).trans wy1⟩
          · have := (HNE.out q hq).2.2
            have := HGA.out.2.1
            simp
            omega
          · simp at e'
            have := HGA.out.1
            have := HB.out
            omega
        have SUB : Hid (∀ kl, (left kl && !kl.sameKey (.int .i64 (p : Int))) = true → Maps.has D kl = true) := fun kl h => HX.out.sub kl (by rw [Bool.and_eq_true] at h; exact h.1)
        have LW := hide HX.out.lw
        have LEFT : Hid (cnt1 < wr.rangeLeft gm r) := by unfold Hid; rw [HX.out.rg.left_eq]; exact hlt
        have HPP : Hid (p < n ∧ kn p ≠ []) := ⟨hpn, hkn⟩
        have HRC := hide hrch
        have hkl : 0 < (kn p).length := by rw [hdt]; simp
        obtain ⟨kl, hkl2⟩ : ∃ x, x = (kn p).length := ⟨_, rfl⟩
        have HKL := hide hkl2
        rw [← hkl2] at hen hcap hkl tk
        clear hrg HX hkey hlk hv hat hrg1 hlt hg1 hs1 ex hp h3 hrch hdt hkn own1 me1 bw1 wy1 hmb hib hga hBr hrB HNE hcv hkl2
        rw [← HKL.out]
        go_upto_region 9 with fail
        obtain ⟨W5, hW5⟩ : ∃ X, X = w1.setCell ⟨ga, p, none⟩ (.int .i64 (d0 : Int)) := ⟨_, rfl⟩
        rw [← hW5] at FX ⊢
        clear hW5 df cell0 d1 hen
        obtain ⟨-, me5, -, bw5, wy5⟩ := FX.out
        have g0 : W5.cell? ⟨B, 0, none⟩ = some (.slice ao n co) := by rw [cell_of_row W5 _ _ _ 80 (0, 0) wy5]; rfl
        have g1 : W5.cell? ⟨B, 1, none⟩ = some (.slice af nf cf) := by rw [cell_of_row W5 _ _ _ 80 (0, 0) wy5]; rfl
        have J3 := hide (JW.out W5 p (.slice (some ⟨bl p, 0, none⟩) kl (cp p)) (kn p) bw5 HPP.out.1 (HKL.out ▸ own_rn (me5.row p HPP.out.2).2) HPP.out.2 (fun d hd => (HRC.out d hd).2))
        rw [wrR_eq (HK.out p) (HND.out p) HPP.out.2] at J3
        clear me5 bw5 wy5
        obtain ⟨wv, hwv⟩ : ∃ x, x = wrR 150 151 153 fs c p := ⟨_, rfl⟩
        rw [← hwv] at J3
        have HWV := hide hwv
        clear hwv
        go_wp2_with fail
        refine J3.out.mono ?_
        rintro e' w6 ⟨rfl, b6⟩
        have GX : Hid (∀ le' e'', Lw (wrR 150 151 153 fs c) (Dn kn (fun z => left z && !z.sameKey (.int .i64 (p : Int)))) n le' e'' → Dx w B BR ga cc gm r m n (.slice ao n co) (.slice af nf cf) (wrR 150 151 153 fs c) D bl cp kn (fun z => left z && !z.sameKey (.int .i64 (p : Int))) cnt1 le' e'' w6) := fun le' e'' hl => by
          obtain ⟨z1, z2, z3, z4, z5⟩ := FX.out
          exact ⟨z3.kept (grown_later b6) (by simp) (by simp), z2.kept (grown_later b6) (fun _ _ => by simp), own_later z1 b6, hl, SUB.out, below_on z4 b6, (b6.block B (lt_of_block z5)).trans z5⟩
        have HD : Hid (∀ q, Dn kn (fun z => left z && !z.sameKey (.int .i64 (p : Int))) q ↔ Dn kn left q ∨ q = p) := fun q => dn_step HPP.out.2
        have ME : Hid (∀ le' e'' W, Dx w B BR ga cc gm r m n (.slice ao n co) (.slice af nf cf) (wrR 150 151 153 fs c) D bl cp kn (fun z => left z && !z.sameKey (.int .i64 (p : Int))) cnt1 le' e'' W → W.rangeLeft gm r < wr.rangeLeft gm r) := fun le' e'' W hd => by rw [hd.rg.left_eq]; exact LEFT.out
        clear g0 g1 J3 b6 FX SUB
        by_cases c1 : wv = 0
        · have GY := hide (GX.out le e (LW.out.ok HD.out (by rw [← HWV.out]; exact c1)))
          subst c1
          clear GX
          go_wp2_with fail
          go_roundw
          case rel => exact ⟨_, _, _, _, rfl, rfl, GY.out⟩
          case measure => exact ME.out _ _ _ GY.out
        · have f1 : (wv != 0) = true := by simp [c1]
          by_cases c2 : (p : Int) < le
          · have GY := hide (GX.out (p : Int) wv (by rw [HWV.out]; exact LW.out.less HD.out HPP.out.1 (by rw [← HWV.out]; exact c1) c2))
            clear GX c1
            go_wp2_with fail
            go_roundw
            case rel => exact ⟨_, _, _, _, rfl, rfl, GY.out⟩
            case measure => exact ME.out _ _ _ GY.out
          · have GY := hide (GX.out le e (LW.out.more HD.out HPP.out.1 c2))
            clear GX c1
            go_wp2_with fail
            go_roundw
            case rel => exact ⟨_, _, _, _, rfl, rfl, GY.out⟩
            case measure => exact ME.out _ _ _ GY.out
end Go.Proofs.YtfkhhplcogedmaaGreatDoor
