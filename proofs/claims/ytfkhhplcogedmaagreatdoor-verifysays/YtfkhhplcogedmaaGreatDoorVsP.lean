/-
  Verify: the law's says.
-/
import Derived.Test.YtfkhhplcogedmaaGreatDoorMgX
import Derived.Test.YtfkhhplcogedmaaGreatDoorVnF
import Derived.Test.YtfkhhplcogedmaaGreatDoorMgP
import Derived.Test.YtfkhhplcogedmaaGreatDoorVgF
import Derived.Deep.DeepCutAuto
import Derived.Deep.CutBlock
namespace Go.Proofs.YtfkhhplcogedmaaGreatDoor
open Go.RowKit
set_option maxRecDepth 100000
def atO (o : Option (Int × Int)) : Int := (o.map Prod.fst).getD 0
def erN (o : Option (Int × Int)) : Int := (o.map Prod.snd).getD 0
theorem vo_ne {p : Pg} {ks : List Kind} {a e : Int} (h : Vo p ks (some (a, e))) : e ≠ 0 := by
  rcases h with ⟨-, h⟩ | ⟨-, -, h⟩ | ⟨-, -, on, -, h⟩
  · cases h; decide
  · cases h; decide
  rcases h with ⟨n, -, h⟩ | ⟨-, o1, h1, h⟩
  · cases h; decide
  rcases h with ⟨x, rfl, h⟩ | ⟨-, on, -, h⟩
  · cases h
    rcases h1 with ⟨h1, -⟩ | ⟨n, b, hn, -, -, h1⟩
    · cases h1
    · cases h1
      unfold tbE
      split <;> decide
  rcases h with ⟨n, -, h⟩ | ⟨-, o3, h3, h⟩
  · cases h; decide
  rcases h with ⟨x, rfl, h⟩ | ⟨-, h⟩
  · cases h
    rcases h3 with ⟨h3, -⟩ | ⟨n, hn, -, ⟨-, h3⟩ | ⟨b, -, h4, h3⟩⟩
    · cases h3
    · cases h3; decide
    · cases h3
      exact h4.2.1.2
  · rcases h with ⟨h, -⟩ | ⟨n, b, hn, -, -, h⟩
    · cases h
    · cases h; decide
theorem lfV_eq {p : Pg} {ks : List Kind} {o : Option (Int × Int)} (h : Vo p ks o) : lfV o = .tuple #[.int .i64 (atO o), .int .i64 (erN o), .bool true] := by
  cases o with
  | none => rfl
  | some x =>
    obtain ⟨a, e⟩ := x
    have := vo_ne h
    unfold lfV atO erN
    simp [this]
theorem own_capk {B : Nat} {W : World} {g c nk : Nat} {ks : List Kind} (h : Kn.Lk B W (.slice (some ⟨g, 0, none⟩) nk c) ks) : c ≤ 9223372036854775807 := by
  obtain ⟨g', c', L, e, hl, ho, -⟩ := h
  injection e with e1 e2 e3
  subst e3
  exact (own_cap ho).2
theorem Kn.Lk.later {B : Nat} {W W' : World} {v : Value} {ks : List Kind} (h : Kn.Lk B W v ks) (hb : Below W.heap.size W W') : Kn.Lk B W' v ks := by
  obtain ⟨g, c, L, h1, h2, h3, h4, h5⟩ := h
  exact ⟨g, c, L, h1, h2, own_later h3 hb, fun j q1 q2 => (h4 j q1 q2).later hb, h5⟩
theorem FltN.rng {N : Nat} {W : World} {v : Value} {o : Option (Int × Int)} (h : FltN N W v o) : ∀ t g, v = .iface t (.pointer (some ⟨g, 0, Option.none⟩)) → N ≤ g ∧ g < W.heap.size := fun t g e => by
  refine ⟨h.2 t g e, ?_⟩
  cases o with
  | none =>
    have := h.1.symm.trans e
    cases this
  | some x =>
    obtain ⟨g', e', hg⟩ := h.1
    rw [e] at e'
    injection e' with _ e1
    injection e1 with e2
    injection e2 with e3
    injection e3 with e4
    rw [e4]
    exact lt_of_block hg
theorem Flt.mv {W W' : World} {S : Nat → Prop} {v : Value} {o : Option (Int × Int)} (h : Flt W v o) (hm : Mv W W' S) (hs : ∀ t g, v = .iface t (.pointer (some ⟨g, 0, none⟩)) → ¬ S g) : Flt W' v o := by
  cases o with
  | none => exact h
  | some x =>
    obtain ⟨a, e⟩ := x
    obtain ⟨g, h1, h2⟩ := h
    exact ⟨g, h1, hm.at h2 (hs _ g h1)⟩
theorem vo_one {p : Pg} {ks : List Kind} {o o' : Option (Int × Int)} (h : Vo p ks o) (h' : Vo p ks o') : o = o' := by
  rcases h with ⟨h1, rfl⟩ | ⟨h1, h2, rfl⟩ | ⟨h1, h2, h3⟩ <;> rcases h' with ⟨k1, rfl⟩ | ⟨k1, k2, rfl⟩ | ⟨k1, k2, k3⟩
  · rfl
  · exact absurd k1 h1
  · exact absurd k1 h1
  · exact absurd h1 k1
  · rfl
  · rw [h2] at k2; cases k2
  · exact absurd h1 k1
  · rw [h2] at k2; cases k2
  · exact h3.unique k3
theorem infoPf : (Tryz.prog.info? 57).map (fun i => (i.zero, i.size, i.bytes)) = Option.some (Option.some (.pointer Option.none), 1, 8) := by kernel_rfl
theorem ta_nil (w : World) : (Instr.typeAssert .nilIface 45 57 true).run Tryz.prog w = .ok (.tuple #[.pointer Option.none, .bool false]) w := by
  obtain ⟨i0, hi, hz0, hz1, hz2⟩ := info_parts infoPf
  simp [Instr.typeAssert, run_underlying Tryz.underlying57, go_sem, Result.andThen, zeroValue, typeInfo, hi, hz0]
set_option maxHeartbeats 16000000 in
theorem says_of {w : World} {p : Pg} {ks : List Kind} {a1 a2 b1 b2 ka : Option Addr} {n1 m1 n2 m2 l1 k1 l2 k2 nk kc : Nat}
    (JN : Hid (∀ V, Below w.heap.size w V → Calls Tryz.prog 15 #[.slice ka nk kc] V fun e w' => ∃ g c, e = .returned (.slice (some ⟨g, 0, none⟩) nk c) ∧ nk + 1 ≤ c ∧ Kn.Lk V.heap.size w' (.slice (some ⟨g, 0, none⟩) nk c) ks ∧ Below V.heap.size V w'))
    (JV : Hid (∀ V vk' ks', Below w.heap.size w V → Kr V vk' ks' → Calls Tryz.prog 10 #[.agg #[.slice a1 n1 m1, .slice a2 n2 m2], vk'] V fun e w' => ∃ v o, e = .returned v ∧ Vo p ks' o ∧ FltN V.heap.size w' v o ∧ Below V.heap.size V w'))
    (JT : Hid (∀ V, Below w.heap.size w V → Calls Tryz.prog 16 #[.agg #[.slice a1 n1 m1, .slice a2 n2 m2], .agg #[.slice b1 l1 k1, .slice b2 l2 k2]] V fun e w' => e = .returned (.bool true) ∧ Below V.heap.size V w'))
    (JD : Hid (∀ V vk' ks', Below w.heap.size w V → Kr V vk' ks' → Sz ks' → Calls Tryz.prog 18 #[.agg #[.slice b1 l1 k1, .slice b2 l2 k2], vk'] V fun e w' => ∃ o, e = .returned (.tuple #[.int .i64 (atO o), .int .i64 (erN o)]) ∧ Vo p ks' o ∧ Below V.heap.size V w'))
    (hk : Kr w (.slice ka nk kc) ks) (hn : nk = ks.length) (hz : Sz ks) (hkc1 : nk ≤ kc) (hkc2 : kc ≤ 9223372036854775807) :
    Calls Tryz.prog 6 #[.agg #[.slice a1 n1 m1, .slice a2 n2 m2], .agg #[.slice b1 l1 k1, .slice b2 l2 k2], .slice ka nk kc] w fun e w' => e = .returned (.bool true) ∧ Below w.heap.size w w' := by
  have HK := hide hk
  have HN := hide hn
  have HZ := hide hz
  have JF : Hid (∀ V v o ks', Vo p ks' o → Flt V v o → Calls Tryz.prog 9 #[v] V fun e w' => e = .returned (.tuple #[.int .i64 (atO o), .int .i64 (erN o), .bool true]) ∧ Below V.heap.size V w') := fun V v o ks' h1 h2 => (lfault_any h2).mono fun e w' ⟨a, b⟩ => ⟨by rw [a, lfV_eq h1], b⟩
  have JS : Hid (∀ B V va vb, Kn.Lk B V va ks → Kr V vb ks → Calls Tryz.prog 17 #[va, vb] V fun e w' => e = .returned (.bool true) ∧ Below V.heap.size V w') := fun B V va vb h1 h2 => lsamekinds_any h1 h2
  clear hk hn hz
  obtain ⟨W0, hW0⟩ : ∃ X, X = (w.alloc (.cells #[.slice a1 n1 m1, .slice a2 n2 m2] 25)).alloc (.cells #[.slice b1 l1 k1, .slice b2 l2 k2] 25) := ⟨_, rfl⟩
  have B0 : Hid (Below w.heap.size w W0) := by unfold Hid; rw [hW0]; exact below_on (below_alloc w _) (below_alloc _ _)
  have kq : W0.heap[w.heap.size]? = some (.cells #[.slice a1 n1 m1, .slice a2 n2 m2] 25 (0, 0)) := by
    rw [hW0]
    exact ((below_alloc (w.alloc (.cells #[.slice a1 n1 m1, .slice a2 n2 m2] 25)) _).block w.heap.size (by simp)).trans (heap_alloc_new w _)
  have kp : W0.heap[w.heap.size + 1]? = some (.cells #[.slice b1 l1 k1, .slice b2 l2 k2] 25 (0, 0)) := by
    rw [hW0]
    have := heap_alloc_new (w.alloc (.cells #[.slice a1 n1 m1, .slice a2 n2 m2] 25)) (.cells #[.slice b1 l1 k1, .slice b2 l2 k2] 25)
    simpa using this
  obtain ⟨gq, hgq⟩ : ∃ x, x = w.heap.size := ⟨_, rfl⟩
  obtain ⟨gp, hgp⟩ : ∃ x, x = w.heap.size + 1 := ⟨_, rfl⟩
  rw [← hgq] at kq
  rw [← hgp] at kp
  have KP : Hid (∀ V, Below W0.heap.size W0 V → (V.cell? ⟨gq, 0, none⟩ = some (.slice a1 n1 m1) ∧ V.cell? ⟨gq, 1, none⟩ = some (.slice a2 n2 m2)) ∧ V.cell? ⟨gp, 0, none⟩ = some (.slice b1 l1 k1) ∧ V.cell? ⟨gp, 1, none⟩ = some (.slice b2 l2 k2)) := fun V hV => by
    have e1 := (hV.block gq (lt_of_block kq)).trans kq
    have e2 := (hV.block gp (lt_of_block kp)).trans kp
    exact ⟨⟨by rw [cell_of_row V _ _ _ 25 (0, 0) e1]; rfl, by rw [cell_of_row V _ _ _ 25 (0, 0) e1]; rfl⟩, by rw [cell_of_row V _ _ _ 25 (0, 0) e2]; rfl, by rw [cell_of_row V _ _ _ 25 (0, 0) e2]; rfl⟩
  have J1 := hide (JN.out W0 B0.out)
  go_enter Tryz.func6, Tryz.ntmps6
  go_upto_region 1 with fail
  rw [← hW0, ← hgp, ← hgq]
  clear hW0 hgp hgq kp kq
  go_wp2_with fail
  refine J1.out.mono ?_
  rintro e w1 ⟨g, c, rfl, hc, hL, b1'⟩
  have HL := hide hL
  have C1 := hide b1'
  have B1 := hide (below_on B0.out b1')
  obtain ⟨⟨x0, x1⟩, -⟩ := KP.out w1 C1.out
  have J2 := hide (JV.out w1 _ ks B1.out hL.kr)
  clear J1 JN hL b1'
  go_wp2_with fail
  refine J2.out.mono ?_
  rintro e w2 ⟨v2, o2, rfl, ho2, hf2, b2'⟩
  have D2 := hide b2'
  have HO2 := hide ho2
  have HF2 := hide hf2
  have HG2 := hide hf2.rng
  have C2 := hide (below_on C1.out b2')
  have B2 := hide (below_on B1.out b2')
  clear x0 x1
  obtain ⟨⟨x0, x1⟩, -⟩ := KP.out w2 C2.out
  have J3 := hide (JV.out w2 _ ks B2.out (HL.out.kr.later b2'))
  clear J2 ho2 hf2 b2'
  go_wp2_with fail
  refine J3.out.mono ?_
  rintro e w3 ⟨v3, o3, rfl, ho3, hf3, b3'⟩
  obtain rfl : o3 = o2 := vo_one ho3 HO2.out
  have E3 := hide b3'
  have D3 := hide (below_on D2.out b3')
  have HF3 := hide hf3
  have HG3 := hide hf3.rng
  have C3 := hide (below_on C2.out b3')
  have B3 := hide (below_on B2.out b3')
  clear x0 x1
  obtain ⟨⟨x0, x1⟩, x2, x3⟩ := KP.out w3 C3.out
  have J4 := hide (JT.out w3 B3.out)
  clear J3 ho3 hf3 b3' JT
  go_wp2_with fail
  refine J4.out.mono ?_
  rintro e w4 ⟨rfl, b4'⟩
  have E4 := hide (below_on E3.out b4')
  have D4 := hide (below_on D3.out b4')
  have F4 := hide b4'
  have C4 := hide (below_on C3.out b4')
  have B4 := hide (below_on B3.out b4')
  clear x0 x1 x2 x3 J4 b4'
  have J5 := hide (JS.out _ w4 _ _ (HL.out.later D4.out) (HK.out.later B4.out))
  clear JS
  go_wp2_with fail
  refine J5.out.mono ?_
  rintro e w5 ⟨rfl, b5'⟩
  have F5 := hide (below_on F4.out b5')
  have E5 := hide (below_on E4.out b5')
  have D5 := hide (below_on D4.out b5')
  have C5 := hide (below_on C4.out b5')
  have B5 := hide (below_on B4.out b5')
  have HF5 := hide (HF2.out.later E5.out)
  have J6 := hide (JF.out w5 v2 o3 ks HO2.out HF5.out.1)
  clear J5 b5' F4 E4 D4 C4 B4 E3 HF2
  obtain ⟨at_, hat⟩ : ∃ x, x = atO o3 := ⟨_, rfl⟩
  obtain ⟨er, her⟩ : ∃ x, x = erN o3 := ⟨_, rfl⟩
  have HAE : Hid (at_ = atO o3 ∧ er = erN o3) := ⟨hat, her⟩
  rw [← hat, ← her] at J6
  clear hat her
  go_wp2_with fail
  refine J6.out.mono ?_
  rintro e w6 ⟨rfl, b6'⟩
  have F6 := hide (below_on F5.out b6')
  have E6 := hide (below_on E5.out b6')
  have D6 := hide (below_on D5.out b6')
  have C6 := hide (below_on C5.out b6')
  have B6 := hide (below_on B5.out b6')
  have HF6 := hide (HF5.out.later b6')
  obtain ⟨-, x2, x3⟩ := KP.out w6 C6.out
  have J7 := hide (JD.out w6 _ ks B6.out (HK.out.later B6.out) HZ.out)
  clear J6 b6' F5 E5 D5 C5 B5 HF5
  go_wp2_with fail
  refine J7.out.mono ?_
  rintro e w7 ⟨o7, rfl, ho7, b7'⟩
  obtain rfl : o3 = o7 := vo_one HO2.out ho7
  rw [← HAE.out.1, ← HAE.out.2]
  have F7 := hide (below_on F6.out b7')
  have E7 := hide (below_on E6.out b7')
  have D7 := hide (below_on D6.out b7')
  have C7 := hide (below_on C6.out b7')
  have B7 := hide (below_on B6.out b7')
  have HF7 := hide (HF6.out.later b7')
  clear J7 ho7 b7' F6 E6 D6 C6 B6 HF6 x2 x3
  go_upto_region 11 with fail
  go_cut [17, 18] (fun a b wx => ∃ pt bb, a = .pointer pt ∧ b = .bool bb ∧ wx = w7 ∧ Hid ((bb = false ∧ pt = none ∧ o3 = none) ∨ (bb = true ∧ ∃ gF x, o3 = some x ∧ pt = some ⟨gF, 0, none⟩ ∧ v2 = .iface 57 (.pointer (some ⟨gF, 0, none⟩)) ∧ w7.heap[gF]? = some (.cells #[.int .i64 x.1, .int .i64 x.2] 60 (0, 0)))))
  case first =>
    cases o3 with
    | none =>
      obtain rfl : v2 = .nilIface := HF7.out.1
      have hta := ta_nil
      go_wp2_with fail
      go_meet
      exact ⟨none, false, rfl, rfl, rfl, by unfold Hid; simp⟩
    | some x =>
      obtain ⟨gF, hv2, hgF⟩ := HF7.out.1
      have hta := ta_is
      have HH := hide hgF
      have HV := hide hv2
      subst hv2
      clear hgF
      go_wp2_with fail
      go_meet
      exact ⟨some ⟨gF, 0, none⟩, true, rfl, rfl, rfl, .inr ⟨rfl, gF, x, rfl, rfl, rfl, HH.out⟩⟩
  obtain ⟨pt, bb, rfl, rfl, rfl, HX⟩ := hcut
  obtain ⟨Y7, hY7⟩ : ∃ X, X = wc := ⟨_, rfl⟩
  rw [← hY7] at B7 C7 D7 E7 F7 HF7 HX
  rw [← hY7]
  clear hY7
  go_upto_region 12 with fail
  go_cut [76] (fun a wx => a = .bool bb ∧ wx = Y7)
  case first =>
    rcases HX.out with ⟨rfl, rfl, -⟩ | ⟨rfl, gF, x, hx, rfl, hv2, hgF⟩
    · go_wp2_with fail
      go_meet
      exact ⟨rfl, rfl⟩
    · clear hx hv2 hgF
      go_wp2_with fail
      go_meet
      exact ⟨rfl, rfl⟩
  obtain ⟨rfl, hY7⟩ := hcut
  subst hY7
  go_upto_if 76 with fail
  go_cut [76] (fun _ wx => Hid (Below w.heap.size w wx ∧ Below W0.heap.size W0 wx ∧ Below w1.heap.size w1 wx ∧ Flt wx v3 o3))
  case first =>
    rcases HX.out with ⟨rfl, rfl, -⟩ | ⟨rfl, gF, x, hx, rfl, hv2, hgF⟩
    · go_wp2_with fail
      go_meet
      exact ⟨B7.out, C7.out, D7.out, HF3.out.1.later F7.out⟩
    · obtain ⟨x1, x2⟩ := x
      dsimp only at hgF
      have GG : Hid (w1.heap.size ≤ gF ∧ gF < w2.heap.size) := HG2.out _ _ hv2
      obtain ⟨W8, hW8⟩ : ∃ X, X = (wc.setCell ⟨gF, 0, none⟩ (.int .i64 (-7))).setCell ⟨gF, 1, none⟩ (.int .i64 7) := ⟨_, rfl⟩
      have H8 : Hid (Below w.heap.size w W8 ∧ Below W0.heap.size W0 W8 ∧ Below w1.heap.size w1 W8 ∧ Flt W8 v3 o3) := by
        have u1 := B1.out.size
        have u2 := C1.out.size
        have u3 := GG.out
        have hm : Mv wc W8 (fun j => j = gF) := by rw [hW8]; exact (mv_set wc gF 0 _).trans (mv_set _ gF 1 _) (fun _ _ e => e)
        rw [hW8]
        refine ⟨(B7.out.setCell (by show _ ≤ gF; omega) _).setCell (by show _ ≤ gF; omega) _, (C7.out.setCell (by show _ ≤ gF; omega) _).setCell (by show _ ≤ gF; omega) _, (D7.out.setCell (by show _ ≤ gF; omega) _).setCell (by show _ ≤ gF; omega) _, ?_⟩
        rw [← hW8]
        exact (HF3.out.1.later F7.out).mv hm (fun t g' e e' => by have := (HG3.out t g' e).1; omega)
      have y1 : wc.cell? ⟨gF, 0, none⟩ = some (.int .i64 x1) := by rw [cell_of_row wc _ _ _ 60 (0, 0) hgF]; rfl
      have y2 : wc.cell? ⟨gF, 1, none⟩ = some (.int .i64 x2) := by rw [cell_of_row wc _ _ _ 60 (0, 0) hgF]; rfl
      have y3 := frozen_of_row wc gF 0 _ 60 hgF
      have y4 := frozen_of_row wc gF 1 _ 60 hgF
      clear hgF hv2 hx
      go_wp2_with fail
      go_meet
      rw [← hW8]
      exact H8
  obtain ⟨B8', C8', D8', hf8⟩ := hcut.out
  obtain ⟨W8, hW8⟩ : ∃ X, X = wc := ⟨_, rfl⟩
  rw [← hW8] at B8' C8' D8' hf8
  rw [← hW8]
  have B8 := hide B8'
  have C8 := hide C8'
  have D8 := hide D8'
  have J8 := hide (JF.out W8 v3 o3 ks HO2.out hf8)
  rw [← HAE.out.1, ← HAE.out.2] at J8
  clear hcut hW8 B8' C8' D8' hf8 HX HF7 F7 E7 D7 C7 B7 HF3 HG3 HG2 D2 B2 C2 D3 B3 C3
  go_wp2_with fail
  refine J8.out.mono ?_
  rintro e w9 ⟨rfl, b9'⟩
  have D9 := hide (below_on D8.out b9')
  have C9 := hide (below_on C8.out b9')
  have B9 := hide (below_on B8.out b9')
  clear J8 b9' B8 C8 D8
  by_cases h0 : nk = 0
  · obtain rfl := h0
    go_wp2_with fail
    go_ret
    exact ⟨rfl, B9.out⟩
  have tnk : ((nk : Int) == 0) = false := beq_eq_false_iff_ne.2 (by omega)
  go_upto_region 18 with fail
  obtain ⟨⟨x0, x1⟩, -⟩ := KP.out w9 C9.out
  have J9 := hide (JV.out w9 _ ks B9.out (HL.out.kr.later D9.out))
  go_wp2_with fail
  refine J9.out.mono ?_
  rintro e w10 ⟨v10, o10, rfl, -, -, b10'⟩
  have D10 := hide (below_on D9.out b10')
  have C10 := hide (below_on C9.out b10')
  have B10 := hide (below_on B9.out b10')
  clear J9 b10' D9 C9 B9 x0 x1
  go_upto_region 20 with fail
  obtain ⟨i, hi⟩ : ∃ i, i = nk / 2 := ⟨_, rfl⟩
  have tq : ((nk : Int) / 2) = (i : Int) := by omega
  rw [tq]
  have hil : i < ks.length := by have := HN.out; omega
  have h0l : 0 < ks.length := by have := HN.out; omega
  obtain ⟨z0, -, -⟩ := lk_cells (HL.out.later D10.out) HN.out h0l
  obtain ⟨z1, ⟨u, z2, -⟩, ds, z3⟩ := lk_cells (HL.out.later D10.out) HN.out hil
  generalize ks[i].1 = nm2 at z1
  rw [Nat.zero_mul] at z0
  obtain ⟨nm, hnm⟩ : ∃ x, x = ks[0].1 := ⟨_, rfl⟩
  have SN : Hid (Small nm) := by unfold Hid; rw [hnm]; exact (HZ.out.2 _ (List.getElem_mem h0l)).2.1
  rw [← hnm] at z0
  obtain ⟨W11, hW11⟩ : ∃ X, X = w10.alloc (.cells #[.string ⟨#[97]⟩, .string ⟨#[98]⟩, .string ⟨#[99]⟩] 9) := ⟨_, rfl⟩
  obtain ⟨gn, hgn⟩ : ∃ x, x = w10.heap.size := ⟨_, rfl⟩
  have b11 : Below w10.heap.size w10 W11 := hW11 ▸ below_alloc w10 _
  have kn : W11.heap[gn]? = some (.cells #[.string ⟨#[97]⟩, .string ⟨#[98]⟩, .string ⟨#[99]⟩] 9 (0, 0)) := by rw [hW11, hgn]; exact heap_alloc_new w10 _
  have y1 := (b11.cell (p := ⟨g, i * 2, none⟩) (World.block_lt_of_cell? _ _ z1)).trans z1
  have y2 := (b11.cell (p := ⟨g, i * 2 + 1, none⟩) (World.block_lt_of_cell? _ _ z2)).trans z2
  have y5 := (b11.block g (lt_of_block z3)).trans z3
  have y3 := frozen_of_row W11 g (i * 2) _ 63 y5
  have y4 := frozen_of_row W11 g (i * 2 + 1) _ 63 y5
  have hcap := own_capk HL.out
  have KR12 : Hid (Kr (putK W11 g i nm (.slice (some ⟨gn, 0, none⟩) 3 3)) (.slice (some ⟨g, 0, none⟩) nk c) (ks.set i (nm, [⟨#[97]⟩, ⟨#[98]⟩, ⟨#[99]⟩]))) := lk_put (HL.out.later (below_on D10.out b11)) HN.out hil (by omega) hcap kn
  obtain ⟨ks2, hks2⟩ : ∃ x, x = ks.set i (nm, [⟨#[97]⟩, ⟨#[98]⟩, ⟨#[99]⟩]) := ⟨_, rfl⟩
  have SZ2 : Hid (Sz ks2) := by
    unfold Hid
    rw [hks2]
    refine sz_set HZ.out (by show 3 * 16 ≤ 140737488351232; omega) SN.out (fun x hx => ?_)
    simp only [List.mem_cons, List.not_mem_nil, or_false] at hx
    rcases hx with rfl | rfl | rfl <;> decide
  rw [← hks2] at KR12
  have HGG : Hid (W0.heap.size ≤ g) := lk_lt HL.out
  obtain ⟨W12, hW12⟩ : ∃ X, X = putK W11 g i nm (.slice (some ⟨gn, 0, none⟩) 3 3) := ⟨_, rfl⟩
  have B12 : Hid (Below w.heap.size w W12) := by
    have u1 := B0.out.size
    have u2 := HGG.out
    unfold Hid
    rw [hW12]
    exact ((below_on B10.out b11).setCell (by show _ ≤ g; omega) _).setCell (by show _ ≤ g; omega) _
  have C12 : Hid (Below W0.heap.size W0 W12) := by
    have u2 := HGG.out
    unfold Hid
    rw [hW12]
    exact ((below_on C10.out b11).setCell (by show _ ≤ g; omega) _).setCell (by show _ ≤ g; omega) _
  rw [← hW12] at KR12
  unfold putK at hW12
  have tq1 : (i : Int) < (nk : Int) := by omega
  clear hi tq hil h0l z1 z2 z3 hnm b11 kn y5 hcap hks2 B10 C10 D10
  rw [hW11] at y1 y2 y3 y4
  go_upto_region 22 with fail
  rw [← hW11, ← hgn, ← hW12]
  clear hW12 y1 y2 y3 y4 z0 hW11 hgn
  have hb40 := SZ2.out.1
  go_wp2_with (at_builtin; refine wpList_append_kinds rfl _ _ rfl rfl _ ks2 rfl KR12.out hb40 ?_)
  intro v13 w13 k13 b13'
  have K13 := hide k13
  have B13 := hide (below_on B12.out b13')
  have C13 := hide (below_on C12.out b13')
  obtain ⟨⟨x0, x1⟩, -⟩ := KP.out w13 C13.out
  have J13 := hide (JV.out w13 _ ks2 B13.out (KR12.out.later b13'))
  clear k13 b13' hb40
  go_wp2_with fail
  refine J13.out.mono ?_
  rintro e w14 ⟨v14, o14, rfl, ho14, hf14, b14'⟩
  have HO14 := hide ho14
  have B14 := hide (below_on B13.out b14')
  have C14 := hide (below_on C13.out b14')
  have K14 := hide (K13.out.later b14')
  have J14 := hide (JF.out w14 v14 o14 ks2 ho14 hf14.1)
  clear J13 ho14 hf14 b14' x0 x1
  go_wp2_with fail
  refine J14.out.mono ?_
  rintro e w15 ⟨rfl, b15'⟩
  have B15 := hide (below_on B14.out b15')
  have C15 := hide (below_on C14.out b15')
  obtain ⟨-, x2, x3⟩ := KP.out w15 C15.out
  have J15 := hide (JD.out w15 v13 ks2 B15.out (K14.out.later b15') SZ2.out)
  clear J14 b15'
  go_wp2_with fail
  refine J15.out.mono ?_
  rintro e w16 ⟨o16, rfl, ho16, b16'⟩
  obtain rfl : o14 = o16 := vo_one HO14.out ho16
  have B16 := hide (below_on B15.out b16')
  clear J15 ho16 b16' x2 x3
  go_wp2_with fail
  go_ret
  exact ⟨rfl, B16.out⟩
end Go.Proofs.YtfkhhplcogedmaaGreatDoor
