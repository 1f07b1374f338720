/-
  The document's PutText (function 16) and PutRow (function 17).
-/
import Derived.Test.YtoccbeefmagklaaRefBest
namespace Go.Proofs.Ytoccbeefmagklaa
open Go.RowKit
theorem own_later' {w w' : World} {B e size n : Nat} {v : Value} {xs : List Value} (h : w.ownsRow B e size v n xs) (hb : Below w.heap.size w w') : w'.ownsRow B e size v n xs := by
  refine ⟨h.1, ?_⟩
  rcases h.2 with h0 | ⟨g, cap, cur, h1, h2, h3, h4⟩
  · exact .inl h0
  · refine .inr ⟨g, cap, cur, h1, h2, ?_, h4⟩
    rw [hb.block g (Array.getElem?_eq_some_iff.1 h3).1]
    exact h3

set_option maxHeartbeats 1000000 in
set_option maxRecDepth 100000 in
theorem rputText_bs {v : Value} {b : List UInt8} {W : World} (s : ByteArray) (h : Bs W v b ∧ NilOr v) (hl : b.length + s.size + 20 ≤ 140737488355328) :
    Calls Try.prog 16 #[v, .string s] W fun e W' => ∃ v', e = .returned v' ∧ (Bs W' v' (b ++ (Lib.uvarint s.size ++ s.data.toList)) ∧ NilOr v') ∧ Below W.heap.size W W' := by
  obtain ⟨i0, hi, hz0, hz1, hz2⟩ := info_parts info5
  have hlen := Lib.uvarint_length64 (x := s.size) (by omega)
  have P := hide (rput_any v b s.size W h.1 h.2 (by omega) (by omega))
  clear h
  go_enter Try.func16, Try.ntmps16
  go_wp2_with fail
  refine P.out.mono ?_
  rintro e w1 ⟨v1, rfl, hown, hb1⟩
  go_wp2_with (at_builtin; refine Lib.wpList_append_own_string _ rfl _ _ 22 9 rfl W.heap.size 5 i0 Try.underlying22 Try.underlying9 hi hz0 hz1 hz2 _ _ _ rfl hown s rfl ?c1 ?c2 ?c3 ?_)
  case c1 => unfold maxLen; omega
  case c2 => omega
  case c3 => exact hb1.size
  intro v3 w3 hown3 hgrow _
  rw [Lib.strCells_eq, ← Lib.byteCells_append] at hown3
  have hb4 : Below W.heap.size W w3 := hb1.grown hgrow hb1.size (fun k hk => (hown.lt k hk).1)
  clear hown hgrow P
  go_wp2
  go_ret
  refine ⟨v3, rfl, ⟨?_, own_nil hown3⟩, hb4⟩
  rw [← List.append_assoc]
  have e : b.length + (Lib.uvarint s.size).length + s.size = (b ++ Lib.uvarint s.size ++ s.data.toList).length := by
    rw [List.length_append, List.length_append]
    rfl
  rw [e] at hown3
  exact own_bs hown3

set_option maxHeartbeats 1000000 in
set_option maxRecDepth 100000 in
theorem rputRow_bs {v vl : Value} {b : List UInt8} {zs : List Int} {W : World} (h : Bs W v b ∧ NilOr v) (hn : Ns W vl zs) (hz : Rw.AllFit zs) (hzl : zs.length ≤ 1048576) (hl : b.length + 60000000 ≤ 140737488355328) :
    Calls Try.prog 17 #[v, vl] W fun e W' => ∃ v', e = .returned v' ∧ (Bs W' v' (b ++ Rw.rowB zs) ∧ NilOr v') ∧ Below W.heap.size W W' := by
  have hlen := Lib.uvarint_length64 (x := zs.length) (by omega)
  have P := hide (rput_any v b zs.length W h.1 h.2 (by omega) (by omega))
  have HN := hide hn
  have HZ := hide hz
  have hfl := Rw.formB_length hz hzl (Rw.best zs)
  obtain ⟨aol, cl, rfl, hlc, hlm, hlcell⟩ := hn
  unfold maxLen at hlm
  have hwr : IntKind.u64.wrap (zs.length : Int) = (zs.length : Int) := by rw [IntKind.wrap_u64]; omega
  clear hlcell hz h
  by_cases h0 : zs.length = 0
  · have z1 : ((zs.length : Int) == 0) = true := by simp [h0]
    have H0 := hide h0
    clear h0
    go_enter Try.func17, Try.ntmps17
    go_wp2_with fail
    refine P.out.mono ?_
    rintro e w1 ⟨v1, rfl, hown, hb1⟩
    go_wp2
    go_ret
    refine ⟨v1, rfl, ⟨?_, own_nil hown⟩, hb1⟩
    have e : Rw.rowB zs = Lib.uvarint zs.length := by
      unfold Rw.rowB
      rw [if_pos H0.out, H0.out, uvarint_zero]
    rw [e]
    exact own_bs (by simpa using hown)
  · have z1 : ((zs.length : Int) == 0) = false := by simp [h0]
    go_enter Try.func17, Try.ntmps17
    go_wp2_with fail
    refine P.out.mono ?_
    rintro e w1 ⟨v1, rfl, hown, hb1⟩
    have S := hide (rshort_any _ zs w1 (HN.out.below hb1 (Nat.le_refl _)) HZ.out hzl)
    have O := hide hown
    have B1 := hide hb1
    clear hown hb1 P
    go_wp2_with fail
    refine S.out.mono ?_
    rintro e w2 ⟨v2, rfl, ⟨hb2, hn2⟩, hbel⟩
    have hown : w2.ownsRow W.heap.size 5 1 v1 _ _ := own_later' O.out hbel
    have B2 := hide (B1.out.trans (hbel.mono B1.out.size))
    have hs2 := B2.out.size
    have ht := tagged_length zs (Rw.best zs)
    clear S hbel
    go_wp2_with (at_builtin; refine wpList_append_bs _ rfl _ _ rfl W.heap.size _ _ _ rfl hown _ (tagged zs (Rw.best zs)) rfl hb2 hn2 ?k1 ?k2 ?_)
    case k1 => omega
    case k2 => exact hs2
    intro v3 w3 ho3 hb3
    have B3 := hide (B2.out.trans hb3)
    rw [← Lib.byteCells_append] at ho3
    have O3 := hide ho3
    clear ho3 hb3 hown hb2
    go_wp2
    go_ret
    refine ⟨v3, rfl, ⟨?_, own_nil O3.out⟩, B3.out⟩
    have e : Rw.rowB zs = Lib.uvarint zs.length ++ tagged zs (Rw.best zs) := by
      unfold Rw.rowB
      rw [if_neg h0]
      rfl
    rw [e, ← List.append_assoc]
    exact own_bs (by simpa [Nat.add_assoc] using O3.out)
end Go.Proofs.Ytoccbeefmagklaa
