/-
  Buffer: what the chapter's example does to a world: one entity is made, and taken away.
-/
import Derived.Test.YtiolaenkfhcajaaGreatBApl
namespace Go.Proofs.YtiolaenkfhcajaaGreat
open Go.RowKit
set_option maxRecDepth 100000
section
variable {V : World} {own : Nat → Nat} {gw gp gm gt : Nat} {vk : Value} {T : Nat → Ts}
theorem spawn1 (h : Wx 0 V own gw vk gp gm gt 0 bksK [] [] (fun _ => none) (fun _ => none) T) {v : Value} {P : Nat → Prop} (hp : P1 V P v 2 [7]) (hP : ∀ k, P k → own k = 0 ∧ k < V.heap.size) :
    Calls Tryz.prog 34 #[.pointer (some ⟨gw, 0, none⟩), v] V fun e w' => e = .returned (.tuple #[.agg #[.int .i64 0, .int .i64 1], .int .i64 0]) ∧ ∃ g own' T', Wx 0 w' own' gw vk gp gm gt 3 bksK [1] [] (fun x => if x = (0, 1) then some 4 else none) (fun x => if x = 4 then some g else none) T' ∧ (T' 4).1 = [(0, 1)] ∧ Wk own own' V w' := by
  obtain ⟨⟨⟨pk, pa, pn, pc⟩, h1, h2, h3, h4, h5⟩, h6⟩ := hp
  have h2 : pk = 2 := h2
  subst h2
  have hn : pn = 1 := by
    obtain ⟨ao, c, e, -⟩ := h3
    have e : Value.slice pa pn pc = .slice ao 1 c := e
    injection e
  subst hn
  have es : setOf [((2 : Int), pa, 1, pc)] = 4 := by simp [setOf]
  have e1 : comeS bksK 0 2 1 = 0 := by simp [comeS, bksK]
  have ec : comeL bksK 0 [((2 : Int), pa, 1, pc)] = 0 := by simp [comeL, e1]
  refine (spawn_of h v [(2, pa, 1, pc)] h1 (by decide) ec (fun _ => [7]) (fun k hk => hP k (h6 k hk)) (by simp) (fun p hp => ?_) (fun p hp k hk => ?_) (by simp) (by omega) 0 1 ⟨⟨by omega, by omega⟩, by omega, by omega⟩ (fun g e => by cases e) (gs' := [1]) (fr' := []) (fun W S hW => ?_)).mono ?_
  · obtain rfl := List.mem_singleton.1 hp
    exact ⟨h3, h5⟩
  · obtain rfl := List.mem_singleton.1 hp
    exact hP k (h4 k hk)
  · exact take_new hW (by simp)
  · rintro e w' ⟨rfl, l', g, own', -, -, hx, hk⟩
    rw [es] at hx
    exact ⟨rfl, g, own', _, hx, rfl, hk⟩
theorem despawn1 {g : Nat} (h : Wx 0 V own gw vk gp gm gt 3 bksK [1] [] (fun x => if x = (0, 1) then some 4 else none) (fun x => if x = 4 then some g else none) T) (hT : (T 4).1 = [(0, 1)]) :
    Calls Tryz.prog 35 #[.pointer (some ⟨gw, 0, none⟩), .agg #[.int .i64 0, .int .i64 1]] V fun e w' => e = .returned (.int .i64 0) ∧ ∃ own' f' q' T', Wx 0 w' own' gw vk gp gm gt 4 bksK [1] [0] f' q' T' ∧ Wk own own' V w' := by
  refine (despawn_live h 0 0 1 rfl rfl (by simp) (by simp) (by simp) 4 g 0 rfl rfl (by omega) (by rw [hT]; simp) (by simp [hT]) (by omega) (by omega)).mono ?_
  rintro e w' ⟨rfl, own', hx, hk⟩
  exact ⟨rfl, own', _, _, _, hx, hk⟩
theorem lives0 {M : Nat} {f : Int × Int → Option Nat} {q : Nat → Option Nat} (h : Wx 0 V own gw vk gp gm gt M bksK [1] [0] f q T) :
    Calls Tryz.prog 13 #[.pointer (some ⟨gw, 0, none⟩), .agg #[.int .i64 0, .int .i64 1]] V fun e w' => e = .returned (.bool false) ∧ Below V.heap.size V w' :=
  (wlives_any h 0 1).mono fun _e _w' ⟨h1, h2⟩ => ⟨h1, h2⟩
/-- What a made entity leaves: of what is nobody's all stays. -/
def Done1 (w : World) (own : Nat → Nat) (gw : Nat) (vk : Value) (gp gm gt : Nat) (V w' : World) : Prop :=
  Mv V w' (fun k => k < w.heap.size ∧ own k ≠ 0) ∧ ∃ g own' T', (∀ k, w.heap.size ≤ k → k < V.heap.size → own' k = 0) ∧ (∀ k, k < w.heap.size → own' k = own k) ∧ Wx 0 w' own' gw vk gp gm gt 3 bksK [1] [] (fun x => if x = (0, 1) then some 4 else none) (fun x => if x = 4 then some g else none) T' ∧ (T' 4).1 = [(0, 1)]
theorem doSpawn {w : World} (h : Wx 0 w own gw vk gp gm gt 0 bksK [] [] (fun _ => none) (fun _ => none) T) {U : Nat → Prop} (hU : ∀ k, U k → own k = 0 ∧ k < w.heap.size) {a : Option Addr} {n c : Nat} (hp : P1 w U (.slice a n c) 2 [7]) (ix gn kd : Int) (hV : Below w.heap.size w V) :
    Calls Tryz.prog 20 #[.pointer (some ⟨gw, 0, none⟩), .agg #[.int .i64 1, .int .i64 ix, .int .i64 gn, .int .i64 kd, .slice none 0 0, .slice a n c]] V fun e w' => e = .returned (.tuple #[.agg #[.int .i64 0, .int .i64 1], .int .i64 0]) ∧ Done1 w own gw vk gp gm gt V w' := by
  have hx := h.later hV
  refine (apply_spawn (R := fun V' w2 => ∃ g o T', Wx 0 w2 o gw vk gp gm gt 3 bksK [1] [] (fun x => if x = (0, 1) then some 4 else none) (fun x => if x = 4 then some g else none) T' ∧ (T' 4).1 = [(0, 1)] ∧ Wk (rel (rel own w 0) V 0) o V' w2) ix gn kd (hide fun V' hV' => (spawn1 (hx.later hV') (hp.frame (Mv.of_below (below_on hV hV') (fun _ => False)) (fun _ _ e => e)) (fun k hk => ?_)).mono fun e w' ⟨h1, g, o, T', h2, h3, h4⟩ => ⟨h1, g, o, T', h2, h3, h4⟩) (fun V' w2 hb ⟨g, o, T', _, _, hk⟩ k h1 h2 => hk.2.2.2.2.2 k h2 (fun e => e.1 (rel_new h1)))).mono ?_
  · have s1 := hV.size
    have s2 := hV'.size
    have h1 := hU k hk
    exact ⟨by rw [rel_old (by omega), rel_old h1.2]; exact h1.1, by omega⟩
  · rintro e w' ⟨rfl, V', w2, kr, b, ⟨g, o, T', hw, hT, hk⟩, k1, k2, hm⟩
    have s1 := hV.size
    have s2 := b.size
    have s3 := hk.2.2.2.2.1
    have hkr : o kr = 0 := (hk.1 kr k2).trans (rel_new k1)
    have hw2 := hw.frame (L := 0) (.inl rfl) hm (fun k _ e => .inr (by rw [e]; exact hkr))
    refine ⟨rfl, ((Mv.of_below b (fun k => k < w.heap.size ∧ own k ≠ 0)).trans hk.2 (fun k h1 h2 => ?_)).trans hm (fun k h1 h2 => ?_), g, rel o w2 0, T', fun k h1 h2 => ?_, fun k h1 => ?_, hw2, hT⟩
    · have h3 := h2.1
      rw [rel_old h1] at h3
      by_cases h4 : k < w.heap.size
      · rw [rel_old h4] at h3
        exact ⟨h4, h3⟩
      · exact absurd (rel_new (by omega)) h3
    · have h2 : k = kr := h2
      omega
    · rw [rel_old (by omega), hk.1 k (by omega), rel_old h2, rel_new h1]
    · rw [rel_old (by omega), hk.1 k (by omega), rel_old (by omega), rel_old h1]
/-- What a taken entity leaves. -/
def Done2 (w : World) (own : Nat → Nat) (gw : Nat) (vk : Value) (gp gm gt : Nat) (w1 V w' : World) : Prop :=
  Mv V w' (fun k => k < w1.heap.size ∧ (k < w.heap.size → own k ≠ 0)) ∧ ∃ own' f' q' T', (∀ k, k < w.heap.size → own' k = own k) ∧ Wx 0 w' own' gw vk gp gm gt 4 bksK [1] [0] f' q' T'
theorem doDespawn {w V1 w1 : World} (h : Done1 w own gw vk gp gm gt V1 w1) (hb : Below w.heap.size w V1) {a : Option Addr} {n c : Nat} (kd : Int) (hV : Below w1.heap.size w1 V) :
    Calls Tryz.prog 20 #[.pointer (some ⟨gw, 0, none⟩), .agg #[.int .i64 2, .int .i64 0, .int .i64 1, .int .i64 kd, .slice none 0 0, .slice a n c]] V fun e w' => e = .returned (.tuple #[.agg #[.int .i64 0, .int .i64 0], .int .i64 0]) ∧ Done2 w own gw vk gp gm gt w1 V w' := by
  obtain ⟨hm1, g, own1, T1, ho1, ho2, hx1, hT1⟩ := h
  have hx := hx1.later hV
  refine (apply_despawn (R := fun V' w2 => ∃ o f q T', Wx 0 w2 o gw vk gp gm gt 4 bksK [1] [0] f q T' ∧ Wk (rel (rel own1 w1 0) V 0) o V' w2) 0 1 kd (hide fun V' hV' => (despawn1 (hx.later hV') hT1).mono fun e w' ⟨h1, o, f, q, T', h2, h4⟩ => ⟨h1, o, f, q, T', h2, h4⟩) (fun V' w2 hb ⟨o, f, q, T', _, hk⟩ k h1 h2 => hk.2.2.2.2.2 k h2 (fun e => e.1 (rel_new h1)))).mono ?_
  rintro e w' ⟨rfl, V', w2, kr, b, ⟨o, f, q, T', hw, hk⟩, k1, k2, hm⟩
  have s0 := hb.size
  have s4 := hm1.2.2.2.1
  have s1 := hV.size
  have s2 := b.size
  have s3 := hk.2.2.2.2.1
  have hkr : o kr = 0 := (hk.1 kr k2).trans (rel_new k1)
  have hw2 := hw.frame (L := 0) (.inl rfl) hm (fun k _ e => .inr (by rw [e]; exact hkr))
  refine ⟨rfl, ((Mv.of_below b (fun k => k < w1.heap.size ∧ (k < w.heap.size → own k ≠ 0))).trans hk.2 (fun k h1 h2 => ?_)).trans hm (fun k h1 h2 => ?_), rel o w2 0, f, q, T', fun k h1 => ?_, hw2⟩
  · have h3 := h2.1
    rw [rel_old h1] at h3
    by_cases h4 : k < w1.heap.size
    · rw [rel_old h4] at h3
      exact ⟨h4, fun h5 => by rw [ho2 k h5] at h3; exact h3⟩
    · exact absurd (rel_new (by omega)) h3
  · have h2 : k = kr := h2
    omega
  · rw [rel_old (by omega), hk.1 k (by omega), rel_old (by omega), rel_old (by omega), ho2 k h1]
/-- Apply of the example's two commands. -/
theorem apply_world {w : World} {S U : Nat → Prop} {gb gx n sz : Nat} {f : Int × Int → Option Value} {L : Int × Int → List Cm} (hB : Bg w S U gb gx n f L sz) (hsz : sz ≤ 100000) (h : Wx 0 w own gw vk gp gm gt 0 bksK [] [] (fun _ => none) (fun _ => none) T) (hU : ∀ k, U k → own k = 0 ∧ k < w.heap.size) {i1 g1 k1 k2 : Int} {a1 a2 : Option Addr} {n1 p1 n2 p2 : Nat} (hp : P1 w U (.slice a1 n1 p1) 2 [7])
    (h1 : L (0, 9) = [⟨1, i1, g1, k1, .slice none 0 0, .slice a1 n1 p1⟩]) (h2 : L (1, 5) = [⟨2, 0, 1, k2, .slice none 0 0, .slice a2 n2 p2⟩]) (h3 : ∀ x, x ≠ (0, 9) → x ≠ (1, 5) → L x = []) :
    Calls Tryz.prog 10 #[.pointer (some ⟨gb, 0, none⟩), .pointer (some ⟨gw, 0, none⟩)] w fun e w' => ∃ g c, e = .returned (.tuple #[.slice (some ⟨g, 0, none⟩) 1 c, .int .i64 0]) ∧ (w'.cell? ⟨g, 0, none⟩ = some (.int .i64 0) ∧ w'.cell? ⟨g, 1, none⟩ = some (.int .i64 1)) ∧ Mv w w' (fun k => own k ≠ 0) ∧ ∃ own' f' q' T', Wx 0 w' own' gw vk gp gm gt 4 bksK [1] [0] f' q' T' := by
  refine (apply_two hB hsz h1 h2 h3 (R1 := Done1 w own gw vk gp gm gt) (R2 := Done2 w own gw vk gp gm gt) (fun V w' hb hd => ⟨hd.1.2.2.2.1, fun k j1 j2 => hd.1.2.2.2.2 k j2 (fun e => ?_)⟩) (hide fun V hV => doSpawn h hU hp _ _ _ hV) (fun w1 V w' hd => ⟨hd.1.2.2.2.1, fun k j1 j2 => hd.1.2.2.2.2 k j2 (fun e => ?_)⟩) (hide fun V1 w1 V hb hd hV => doDespawn hd hb _ hV)).mono ?_
  · have := e.1
    omega
  · have := e.1
    omega
  · rintro e w' ⟨g, c, rfl, hc, V1, w2, V2, w4, b1, d1, b2, d2, b3⟩
    have s1 := b1.size
    have s2 := d1.1.2.2.2.1
    have s3 := b2.size
    obtain ⟨m2, own', f', q', T', -, hw⟩ := d2
    exact ⟨g, c, rfl, hc, (((((Mv.of_below b1 (fun k => own k ≠ 0)).trans d1.1 (fun k _ e => e.2)).later (b2)).trans m2 (fun k j1 e => e.2 j1)).later b3), _, _, _, _, hw.later b3⟩
end
end Go.Proofs.YtiolaenkfhcajaaGreat
