/-
  Verify: behind.
-/
import Derived.Test.YtklamaibinjcmaaDoorMgE
namespace Go.Proofs.YtklamaibinjcmaaDoor
open Go.RowKit
set_option maxRecDepth 100000
/-- What behind answers. -/
def behV (r : Option Nat) : Value := match r with
  | none => .bool false
  | some _ => .bool true
theorem takE_nn {fs : List Rt} (i : Ins) : 0 ≤ takE fs i := by
  unfold takE parE
  repeat' split
  all_goals omega
set_option maxHeartbeats 4000000 in
theorem behind_any {Q : Nat → Prop} {w : World} {vc vf : Value} {c : List Ins} {fs : List Rt} (h : Il Q w vc c) (hf : Rts Q w vf fs) (ht : Tb w) (p d : Nat) (hp : p < c.length) (hd : d ≤ 64) : Calls Tryd.prog 62 #[.agg #[vc, vf], .agg #[.int .i64 (p : Int), .int .i64 (d : Int)]] w fun e w' => (∃ dv : Int, e = .returned (.tuple #[.int .i64 dv, .bool (behI fs c p d).isSome]) ∧ ∀ d', behI fs c p d = some d' → dv = (d' : Int)) ∧ Below w.heap.size w w' := by
  have JE : Hid (∀ W, Below w.heap.size w W → Calls Tryd.prog 18 #[insV (iat c p), vf] W fun e w' => e = .returned (.tuple #[.int .i64 (takE fs (iat c p)), .int .i64 (putE (iat c p))]) ∧ Below W.heap.size W w') := fun W hW => effect_any (hf.later hW) (ht.later hW) (iat c p)
  obtain ⟨ao, co, rfl, h1, h2⟩ := h.at
  obtain ⟨g, o, rfl, hq, d1, d2, i1, i2⟩ := h.nth hp
  obtain ⟨af, cf, rfl, hf1, hf2, -⟩ := hf
  rw [← iat_eq hp] at d1 d2 i1 i2
  have hn0 := takE_nn (fs := fs) (iat c p)
  have hpt : 0 ≤ putE (iat c p) ∧ putE (iat c p) ≤ 1 := by
    unfold putE
    have h40 := opk_lt (iat c p).op
    have hle : ∀ k, k < 40 → pts k ≤ 1 := by decide
    have := hle _ h40
    omega
  obtain ⟨tk, htk⟩ : ∃ t, t = takE fs (iat c p) := ⟨_, rfl⟩
  obtain ⟨pt, hpt'⟩ : ∃ t, t = putE (iat c p) := ⟨_, rfl⟩
  have HB : Hid (behI fs c p d = if (d : Int) < tk then none else if (d : Int) - tk + pt ≤ 64 then some ((d : Int) - tk + pt).toNat else none) := by
    rw [htk, hpt']
    rfl
  rw [← htk, ← hpt'] at JE
  rw [← htk] at hn0
  rw [← hpt'] at hpt
  unfold insV at JE
  obtain ⟨op, hop⟩ : ∃ x, x = (iat c p).op := ⟨_, rfl⟩
  obtain ⟨av, hav⟩ : ∃ x, x = (iat c p).a := ⟨_, rfl⟩
  rw [← hop] at d1 JE
  rw [← hav] at d2 JE
  obtain ⟨n, hn⟩ : ∃ n, n = c.length := ⟨_, rfl⟩
  obtain ⟨nf, hnf⟩ : ∃ n, n = fs.length := ⟨_, rfl⟩
  rw [← hn] at h1 hp ⊢
  rw [← hnf] at hf1 JE ⊢
  obtain ⟨r, hr⟩ : ∃ r, r = behI fs c p d := ⟨_, rfl⟩
  rw [← hr] at HB ⊢
  have hpn : (p : Int) < (n : Int) := by omega
  have hdb : (d : Int) ≤ 64 := by omega
  clear h htk hpt' hop hav hn hnf hr hq i1 i2 ht
  obtain ⟨w0, hw0⟩ : ∃ X, X = (w.alloc (.cells #[.slice (some ⟨g, o, none⟩) n co, .slice af nf cf] 67)).alloc (.cells #[.int .i64 (p : Int), .int .i64 (d : Int)] 136) := ⟨_, rfl⟩
  have B0 : Hid (Below w.heap.size w w0) := by unfold Hid; rw [hw0]; exact below_on (below_alloc w _) (below_alloc _ _)
  have HC : Hid (∀ W, Below w0.heap.size w0 W → (W.cell? ⟨w.heap.size, 0, none⟩ = some (.slice (some ⟨g, o, none⟩) n co) ∧ W.cell? ⟨w.heap.size, 1, none⟩ = some (.slice af nf cf) ∧ W.cell? ⟨w.heap.size + 1, 0, none⟩ = some (.int .i64 (p : Int)) ∧ W.cell? ⟨w.heap.size + 1, 1, none⟩ = some (.int .i64 (d : Int))) ∧ W.cell? ⟨g, o + p * 2, none⟩ = some (.int .i64 op) ∧ W.cell? ⟨g, o + p * 2 + 1, none⟩ = some (.int .i64 av)) := fun W hW => by
    have hb : w0.heap[w.heap.size]? = some (.cells #[.slice (some ⟨g, o, none⟩) n co, .slice af nf cf] 67 (0, 0)) := by
      rw [hw0]
      exact ((below_alloc (w.alloc (.cells #[.slice (some ⟨g, o, none⟩) n co, .slice af nf cf] 67)) _).block w.heap.size (by simp)).trans (heap_alloc_new w _)
    have hb' : w0.heap[w.heap.size + 1]? = some (.cells #[.int .i64 (p : Int), .int .i64 (d : Int)] 136 (0, 0)) := by
      rw [hw0]
      have := heap_alloc_new (w.alloc (.cells #[.slice (some ⟨g, o, none⟩) n co, .slice af nf cf] 67)) (.cells #[.int .i64 (p : Int), .int .i64 (d : Int)] 136)
      simpa using this
    have e1 := (hW.block _ (lt_of_block hb)).trans hb
    have e2 := (hW.block _ (lt_of_block hb')).trans hb'
    have hM := Mv.of_below (below_on B0.out hW) (fun _ => False)
    refine ⟨⟨?_, ?_, ?_, ?_⟩, hM.cell d1 id, hM.cell d2 id⟩
    · rw [cell_of_row _ _ _ _ 67 (0, 0) e1]; rfl
    · rw [cell_of_row _ _ _ _ 67 (0, 0) e1]; rfl
    · rw [cell_of_row _ _ _ _ 136 (0, 0) e2]; rfl
    · rw [cell_of_row _ _ _ _ 136 (0, 0) e2]; rfl
  obtain ⟨gw, hgw⟩ : ∃ x, x = w.heap.size := ⟨_, rfl⟩
  obtain ⟨gm, hgm⟩ : ∃ x, x = w.heap.size + 1 := ⟨_, rfl⟩
  rw [← hgm] at HC
  go_enter Tryd.func62, Tryd.ntmps62
  go_upto_region 1 with fail
  rw [← hw0, ← hgm, ← hgw]
  rw [← hgw] at HC
  clear hw0 hgw hgm d1 d2
  have S0 := hide (HC.out w0.drew (below_drew w0))
  go_region_held3 (fun V => (V.cell? ⟨gw, 0, none⟩ = some (.slice (some ⟨g, o, none⟩) n co) ∧ V.cell? ⟨gw, 1, none⟩ = some (.slice af nf cf) ∧ V.cell? ⟨gm, 0, none⟩ = some (.int .i64 (p : Int)) ∧ V.cell? ⟨gm, 1, none⟩ = some (.int .i64 (d : Int))) ∧ V.cell? ⟨g, o + p * 2, none⟩ = some (.int .i64 op) ∧ V.cell? ⟨g, o + p * 2 + 1, none⟩ = some (.int .i64 av)) (first | exact S0.out | exact S1) ((go_at_call 18; refine (JE.out _ (below_on B0.out (below_drew w0))).mono ?_; rintro e w1 ⟨rfl, b1⟩; have B1 := hide (below_on (below_drew w0) b1); have S1 := HC.out w1 B1.out; clear b1))
  obtain ⟨⟨-, -, -, e3⟩, -⟩ := S1
  have BF := hide (below_on B0.out B1.out)
  clear S0 HC JE
  by_cases c1 : (d : Int) < tk
  · have f1 : decide ((d : Int) < tk) = true := decide_eq_true c1
    rw [if_pos c1] at HB
    go_wp2_with fail
    go_ret2
    exact ⟨⟨0, by rw [HB.out]; rfl, fun d' e => by rw [HB.out] at e; cases e⟩, BF.out⟩
  · have f1 : decide ((d : Int) < tk) = false := decide_eq_false c1
    rw [if_neg c1] at HB
    have t1 : IntKind.i64.wrap ((d : Int) - tk) = (d : Int) - tk := by rw [IntKind.wrap_i64]; omega
    have t2 : IntKind.i64.wrap ((d : Int) - tk + pt) = (d : Int) - tk + pt := by rw [IntKind.wrap_i64]; omega
    obtain ⟨q, hq⟩ : ∃ q : Nat, (d : Int) - tk + pt = (q : Int) := ⟨((d : Int) - tk + pt).toNat, by omega⟩
    rw [hq] at HB t2
    by_cases c2 : (q : Int) ≤ 64
    · rw [if_pos c2, Int.toNat_natCast] at HB
      go_wp2_with fail
      go_ret2
      exact ⟨⟨q, by rw [HB.out]; rfl, fun d' e => by rw [HB.out] at e; cases e; rfl⟩, BF.out⟩
    · rw [if_neg c2] at HB
      go_wp2_with fail
      go_ret2
      exact ⟨⟨q, by rw [HB.out]; rfl, fun d' e => by rw [HB.out] at e; cases e⟩, BF.out⟩
end Go.Proofs.YtklamaibinjcmaaDoor
