/-
  The law's state: what State tells, twice, and the document's; then it is written over.
-/
import Derived.Test.YtejbdhbphbgckaaBun
import Derived.Test.YtejbdhbphbgckaaFil4
import Derived.Test.YtejbdhbphbgckaaDocFrom
namespace Go.Proofs.Ytejbdhbphbgckaa
open Go.RowKit
section
variable {w W : World} {own : Nat → Nat} {gw ga ca B : Nat} {G : Nat → Nat × Nat} {C D : Nat → St} {L : List Held} {Vs : List (Value × Nat)}
theorem sta_of (h : Bw w gw own G C D L) (hb : Below w.heap.size w W) {e s : Nat} (hV : ∀ j (hj : j < Vs.length), ∃ xs, W.ownsRow w.heap.size e s Vs[j].1 Vs[j].2 xs) (hap : ∀ i j (hi : i < Vs.length) (hj : j < Vs.length), i ≠ j → Ap Vs[i].1 Vs[j].1) :
    Sta W gw (Lb (ext own w.heap.size 6) W 4) Vs ∧ (∀ k, Rb Vs k → ¬ Lb (ext own w.heap.size 6) W 5 k) ∧ (∀ k, Rb Vs k → ext own w.heap.size 6 k = 6) := by
  have hr : ∀ k, Rb Vs k → w.heap.size ≤ k ∧ k < W.heap.size := fun k ⟨p, hp, e⟩ => by
    obtain ⟨j, hj, rfl⟩ := List.getElem_of_mem hp
    obtain ⟨xs, h⟩ := hV j hj
    exact h.lt k e
  have h6 : ∀ k, Rb Vs k → ext own w.heap.size 6 k = 6 := fun k e => by
    have := (hr k e).1
    unfold ext
    rw [if_neg (by omega)]
  obtain ⟨-, -, vl, k1, k2, -⟩ := h.later hb
  refine ⟨⟨k2, fun k e => e.1, fun k e => ⟨fun e' => ?_, (hr k e).2⟩, hap⟩, fun k e e' => ?_, h6⟩
  · have := h6 k e; have := e'.2; omega
  · have := h6 k e; have := e'.2; omega
theorem bu_fill_ints (h : Bw w gw own G C D L) (hb : Below w.heap.size w W) (hV : ∀ j (hj : j < Vs.length), ∃ xs, W.ownsRow w.heap.size 3 1 Vs[j].1 Vs[j].2 xs) (hap : ∀ i j (hi : i < Vs.length) (hj : j < Vs.length), i ≠ j → Ap Vs[i].1 Vs[j].1)
    (hc : ∀ j (hj : j < Vs.length), W.cell? ⟨ga, j, none⟩ = some Vs[j].1) (hga : w.heap.size ≤ ga) (hga2 : ¬ Rb Vs ga) (hVn : ∀ p ∈ Vs, p.2 ≤ 1000000) (hVl : Vs.length ≤ 8) (hca : Vs.length ≤ ca ∧ ca ≤ maxLen) (hL : L.length ≤ 1000000) (hF : Fe own B w) :
    Calls Try.prog 28 #[.pointer (some ⟨gw, 0, none⟩), .slice (some ⟨ga, 0, none⟩) Vs.length ca, .slice none 0 0] W fun e w' => e = .returned (.tuple #[]) ∧ ∃ L2, Bu w' gw B G C D (L ++ L2) ∧ L2.length = 2 * Vs.length ∧ Below B W w' := by
  obtain ⟨s1, s2, s3⟩ := sta_of h hb hV hap
  have hb' := h.later hb
  refine (fill_ints gw ga ca (four G) _ _ L Vs W hb'.2.2 s1 s2 ⟨fun e => ?_, hga2⟩ (fun j hj => ⟨hc j hj, ?_⟩) hVn hVl hca hL).mono ?_
  · have := e.2
    unfold ext at this
    rw [if_neg (by omega)] at this
    omega
  · obtain ⟨xs, hx⟩ := hV j hj
    exact ⟨xs, own_lower hx (Nat.zero_le _)⟩
  · rintro e w' ⟨rfl, S', H', L2, a1, a2, a3, a4, a5⟩
    have hR : ∀ k, Rb Vs k → B ≤ k := fun k ⟨p, hp, e⟩ => by
      obtain ⟨j, hj, rfl⟩ := List.getElem_of_mem hp
      obtain ⟨xs, h⟩ := hV j hj
      exact Nat.le_trans hF.1 (h.lt k e).1
    obtain ⟨b1, b2⟩ := hb'.filled s3 a1 a3 a4 a5 (hF.ext hb.size 6) hR
    exact ⟨rfl, L2, b1, a2, b2⟩
theorem bu_fill_ents (h : Bw w gw own G C D L) (hb : Below w.heap.size w W) (hV : ∀ j (hj : j < Vs.length), ∃ xs, W.ownsRow w.heap.size 41 2 Vs[j].1 Vs[j].2 xs) (hap : ∀ i j (hi : i < Vs.length) (hj : j < Vs.length), i ≠ j → Ap Vs[i].1 Vs[j].1)
    (hc : ∀ j (hj : j < Vs.length), W.cell? ⟨ga, j, none⟩ = some Vs[j].1) (hga : w.heap.size ≤ ga) (hga2 : ¬ Rb Vs ga) (hVn : ∀ p ∈ Vs, p.2 ≤ 1000000) (hVl : Vs.length ≤ 8) (hca : Vs.length ≤ ca ∧ ca ≤ maxLen) (hL : L.length ≤ 1000000) (hF : Fe own B w) :
    Calls Try.prog 28 #[.pointer (some ⟨gw, 0, none⟩), .slice none 0 0, .slice (some ⟨ga, 0, none⟩) Vs.length ca] W fun e w' => e = .returned (.tuple #[]) ∧ ∃ L2, Bu w' gw B G C D (L ++ L2) ∧ L2.length = 2 * Vs.length ∧ Below B W w' := by
  obtain ⟨s1, s2, s3⟩ := sta_of h hb hV hap
  have hb' := h.later hb
  refine (fill_ents gw ga ca (four G) _ _ L Vs W hb'.2.2 s1 s2 ⟨fun e => ?_, hga2⟩ (fun j hj => ⟨hc j hj, ?_⟩) hVn hVl hca hL).mono ?_
  · have := e.2
    unfold ext at this
    rw [if_neg (by omega)] at this
    omega
  · obtain ⟨xs, hx⟩ := hV j hj
    exact ⟨xs, own_lower hx (Nat.zero_le _)⟩
  · rintro e w' ⟨rfl, S', H', L2, a1, a2, a3, a4, a5⟩
    have hR : ∀ k, Rb Vs k → B ≤ k := fun k ⟨p, hp, e⟩ => by
      obtain ⟨j, hj, rfl⟩ := List.getElem_of_mem hp
      obtain ⟨xs, h⟩ := hV j hj
      exact Nat.le_trans hF.1 (h.lt k e).1
    obtain ⟨b1, b2⟩ := hb'.filled s3 a1 a3 a4 a5 (hF.ext hb.size 6) hR
    exact ⟨rfl, L2, b1, a2, b2⟩
theorem ap_later {u v : Value} {B e s n m e' s' B' : Nat} {xs ys : List Value} {w0 w1 : World} (h : w0.ownsRow B e s u n xs) (k : w1.ownsRow B' e' s' v m ys) (hB : w0.heap.size ≤ B') : Ap u v := fun q e1 e2 => by
  have := (h.lt q e1).2
  have := (k.lt q e2).1
  omega
end
set_option maxHeartbeats 4000000 in
theorem lawstate_any (gw i B : Nat) (own : Nat → Nat) (G : Nat → Nat × Nat) (C D : Nat → St) (L : List Held) (w : World) (h : Bw w gw own G C D L) (hi : i < 2) (hCD : D i = C i) (hL : L.length ≤ 1000000) (hF : Fe own B w) :
    Calls Try.prog 10 #[.pointer (some ⟨gw, 0, none⟩), .agg #[.pointer (some ⟨(G i).1, 0, none⟩), .pointer (some ⟨(G i).2, 0, none⟩)]] w fun e w' => e = .returned (.bool true) ∧ ∃ L', Bu w' gw B G C D L' ∧ L'.length = L.length + 8 ∧ Below B w w' := by
  have hok : (C i).2.1.length ≤ 1000000 ∧ (C i).2.2.length ≤ 1000000 := by
    have ho := (h.1 i hi).2
    have := ho.free_len; have := ho.2.2.1; have := ho.2.1
    omega
  have J1 : Hid (∀ W, Below w.heap.size w W → Calls Try.prog 17 #[.pointer (some ⟨(G i).1, 0, none⟩)] W fun e w' => ∃ v1 v2, e = .returned (.tuple #[v1, v2]) ∧ w'.ownsRow W.heap.size 3 1 v1 (C i).2.1.length (ic (C i).2.1) ∧ w'.ownsRow W.heap.size 3 1 v2 (C i).2.2.length (ic (C i).2.2) ∧ Ap v1 v2 ∧ Below W.heap.size W w') := fun W hb => state_any ((h.1 i hi).later hb)
  have J2 : Hid (∀ W, Below w.heap.size w W → Calls Try.prog 26 #[.pointer (some ⟨(G i).2, 0, none⟩)] W fun e w' => ∃ v1 v2, e = .returned (.tuple #[v1, v2]) ∧ w'.ownsRow W.heap.size 3 1 v1 (C i).2.1.length (ic (C i).2.1) ∧ w'.ownsRow W.heap.size 3 1 v2 (C i).2.2.length (ic (C i).2.2) ∧ Ap v1 v2 ∧ Below W.heap.size W w') := fun W hb => by
    have := (h.2.1 i hi).later hb
    rw [hCD] at this
    exact dstate_any this
  have HH := hide h
  obtain ⟨hok1, hok2⟩ := hok
  generalize (C i).2.1 = gs at *
  generalize (C i).2.2 = fr at *
  generalize hg : (G i).1 = g at *
  generalize hr : (G i).2 = r at *
  clear h hg hr hCD
  go_enter Try.func10, Try.ntmps10
  go_upto_region 1 with fail
  obtain ⟨w0, hw0⟩ : ∃ X, X = w.alloc (.cells #[.pointer (some ⟨g, 0, none⟩), .pointer (some ⟨r, 0, none⟩)] 28) := ⟨_, rfl⟩
  have HX : Hid (∀ W, Below w0.heap.size w0 W → W.cell? ⟨w.heap.size, 0, none⟩ = some (.pointer (some ⟨g, 0, none⟩)) ∧ W.cell? ⟨w.heap.size, 1, none⟩ = some (.pointer (some ⟨r, 0, none⟩))) := fun W hW => by
    subst hw0
    refine ⟨(hW.cell (p := ⟨w.heap.size, 0, none⟩) (by simp)).trans ?_, (hW.cell (p := ⟨w.heap.size, 1, none⟩) (by simp)).trans ?_⟩ <;> simp
  have B0 : Below w.heap.size w w0 := hw0 ▸ below_alloc w _
  rw [← hw0]
  obtain ⟨kx, hkx⟩ : ∃ k, k = w.heap.size := ⟨_, rfl⟩
  rw [← hkx] at HX ⊢
  obtain ⟨x0, x1⟩ := HX.out w0 (Below.refl _ _)
  clear hw0 hkx
  go_wp2_with fail
  refine (J1.out w0 B0).mono ?_
  rintro e w1 ⟨a, b, rfl, oa, ob, hab, B1⟩
  clear x0 x1
  obtain ⟨x0, x1⟩ := HX.out w1 B1
  have C1 := below_on B0 B1
  go_wp2_with fail
  refine (J2.out w1 C1).mono ?_
  rintro e w2 ⟨c, d, rfl, oc, od, hcd, B2⟩
  clear x0 x1
  have oa2 := own_later oa B2
  have ob2 := own_later ob B2
  have C2 := below_on C1 B2
  have D2 := below_on B1 B2
  go_wp2_with fail
  refine (same_is a c _ w2 (own_is oa2) (own_is oc)).mono ?_
  rintro e w3 ⟨rfl, B3⟩
  go_wp2_with fail
  refine (same_is b d _ w3 (own_is (own_later ob2 B3)) (own_is (own_later od B3))).mono ?_
  rintro e w4 ⟨rfl, B4⟩
  have B24 := below_on B3 B4
  have D4 := below_on D2 B24
  have C4 := below_on C2 B24
  obtain ⟨x0, x1⟩ := HX.out w4 D4
  go_wp2_with fail
  refine (J1.out w4 C4).mono ?_
  rintro e w5 ⟨e1, f1, rfl, oe, of, hef, B5⟩
  clear x0 x1
  have B25 := below_on B24 B5
  go_wp2_with fail
  refine (same_is e1 c _ w5 (own_is oe) (own_is (own_later oc B25))).mono ?_
  rintro e w6 ⟨rfl, B6⟩
  go_wp2_with fail
  refine (same_is f1 d _ w6 (own_is (own_later of B6)) (own_is (own_later od (below_on B25 B6)))).mono ?_
  rintro e w7 ⟨rfl, B7⟩
  have B27 := below_on (below_on B25 B6) B7
  have B57 := below_on B6 B7
  obtain ⟨ao, ca, rfl⟩ := own_len oa
  obtain ⟨bo, cb, rfl⟩ := own_len ob
  obtain ⟨eo, ce, rfl⟩ := own_len oe
  obtain ⟨fo, cf, rfl⟩ := own_len of
  have oa7 := own_later oa2 B27
  have ob7 := own_later ob2 B27
  have oe7 := own_later oe B57
  have of7 := own_later of B57
  have C7 := below_on C2 B27
  obtain ⟨wz, hwz⟩ : ∃ X, X = w7.alloc (.cells #[.slice ao gs.length ca, .slice bo fr.length cb, .slice eo gs.length ce, .slice fo fr.length cf] 33) := ⟨_, rfl⟩
  have Bz : Below w7.heap.size w7 wz := hwz ▸ below_alloc w7 _
  have hwn : wz.heap[w7.heap.size]? = some (.cells #[.slice ao gs.length ca, .slice bo fr.length cb, .slice eo gs.length ce, .slice fo fr.length cf] 33 (0, 0)) := hwz ▸ heap_alloc_new w7 _
  have s0 := B0.size
  have s1 := B1.size
  have s2 := B2.size
  have s4 := B24.size
  have s5 := B5.size
  have s7 := B57.size
  have HF : Hid (Calls Try.prog 28 #[.pointer (some ⟨gw, 0, none⟩), .slice (some ⟨w7.heap.size, 0, none⟩) 4 4, .slice none 0 0] wz fun e w' => e = .returned (.tuple #[]) ∧ ∃ L2, Bu w' gw B G C D (L ++ L2) ∧ L2.length = 8 ∧ Below B w w') := by
    have hall : ∀ p ∈ [(Value.slice ao gs.length ca, gs.length), (Value.slice bo fr.length cb, fr.length), (Value.slice eo gs.length ce, gs.length), (Value.slice fo fr.length cf, fr.length)], (∃ xs, w7.ownsRow w.heap.size 3 1 p.1 p.2 xs) ∧ p.2 ≤ 1000000 := by
      intro p hp
      simp only [List.mem_cons, List.not_mem_nil, or_false] at hp
      rcases hp with rfl | rfl | rfl | rfl
      · exact ⟨⟨_, own_lower oa7 s0⟩, hok1⟩
      · exact ⟨⟨_, own_lower ob7 s0⟩, hok2⟩
      · exact ⟨⟨_, own_lower oe7 (by omega)⟩, hok1⟩
      · exact ⟨⟨_, own_lower of7 (by omega)⟩, hok2⟩
    have := bu_fill_ints (W := wz) (ga := w7.heap.size) (ca := 4) (Vs := [(.slice ao gs.length ca, gs.length), (.slice bo fr.length cb, fr.length), (.slice eo gs.length ce, gs.length), (.slice fo fr.length cf, fr.length)]) HH.out (below_on C7 Bz) (fun j hj => ?_) ?_ ?_ (by omega) ?_ (fun p hp => (hall p hp).2) (by simp) (by simp [maxLen]) hL hF
    · exact this.mono (fun e w' ⟨h1, L2, h2, h3, h4⟩ => ⟨h1, L2, h2, h3, ((below_on C7 Bz).mono hF.1).trans h4⟩)
    · obtain ⟨xs, hx⟩ := (hall _ (List.getElem_mem hj)).1
      exact ⟨xs, own_later hx Bz⟩
    · have ae := ap_later oa oe (by omega)
      have af := ap_later oa of (by omega)
      have be := ap_later ob oe (by omega)
      have bf := ap_later ob of (by omega)
      intro i j hi hj hij
      match i, hi, j, hj with
      | 0, _, 1, _ => exact hab
      | 0, _, 2, _ => exact ae
      | 0, _, 3, _ => exact af
      | 1, _, 0, _ => exact hab.symm
      | 1, _, 2, _ => exact be
      | 1, _, 3, _ => exact bf
      | 2, _, 0, _ => exact ae.symm
      | 2, _, 1, _ => exact be.symm
      | 2, _, 3, _ => exact hef
      | 3, _, 0, _ => exact af.symm
      | 3, _, 1, _ => exact bf.symm
      | 3, _, 2, _ => exact hef.symm
      | 0, _, 0, _ => exact absurd rfl hij
      | 1, _, 1, _ => exact absurd rfl hij
      | 2, _, 2, _ => exact absurd rfl hij
      | 3, _, 3, _ => exact absurd rfl hij
    · intro j hj
      rw [cell_of_row wz w7.heap.size _ _ 33 (0, 0) hwn]
      match j, hj with
      | 0, _ => rfl
      | 1, _ => rfl
      | 2, _ => rfl
      | 3, _ => rfl
    · rintro ⟨p, hp, e⟩
      obtain ⟨xs, hx⟩ := (hall p hp).1
      have := (hx.lt _ e).2
      omega
  clear oa ob oc od oe of oa2 ob2 oa7 ob7 oe7 of7 hab hcd hef hwn J1 J2
  rw [hwz] at HF
  go_wp2_with fail
  refine HF.out.mono ?_
  rintro e w9 ⟨rfl, L2, hbu, hl2, hbb⟩
  have HBB := hide hbb
  have HBU := hide hbu
  clear hbu hbb
  go_wp2_with fail
  go_ret
  exact ⟨rfl, _, HBU.out, by rw [List.length_append, hl2], HBB.out⟩
end Go.Proofs.Ytejbdhbphbgckaa
