/-
  Pack's numbers and texts, in this program.
-/
import Derived.Test.YtpolajoephjdhaaGreatDoorPkD
import Derived.Laws.BytesArg
namespace Go.Proofs.YtpolajoephjdhaaGreatDoor
open Go.RowKit
set_option maxRecDepth 100000

theorem unzig_eq (n : Nat) (h : n < 18446744073709551616) : bits .xor .i64 ((n : Int) / 2) (wrap64 (-wrap64 (bits .and .u64 (n : Int) 1))) = Dec.unzig n := by
  rw [Lib.u64_and1 _ (by omega) (by omega)]
  unfold Dec.unzig
  rcases Nat.mod_two_eq_zero_or_one n with h2 | h2
  · rw [if_pos h2, show (n : Int) % 2 = 0 by omega, show wrap64 (-wrap64 0) = 0 by decide +kernel, show (n : Int) / 2 = ((n / 2 : Nat) : Int) by omega]
    show IntKind.i64.wrap ((BitVec.ofInt 64 ((n / 2 : Nat) : Int) ^^^ BitVec.ofInt 64 0).toNat : Int) = _
    rw [BitVec.toNat_xor, show (BitVec.ofInt 64 0).toNat = 0 by decide, Nat.xor_zero, ofInt_u64 _ (by omega), IntKind.wrap_i64]
    omega
  · rw [if_neg (by omega), show (n : Int) % 2 = 1 by omega, show wrap64 (-wrap64 1) = -1 by decide +kernel, show (n : Int) / 2 = ((n / 2 : Nat) : Int) by omega]
    have e := Lib.i64_not (n / 2) (by omega)
    rw [← e]
    show IntKind.i64.wrap ((BitVec.ofInt 64 ((n / 2 : Nat) : Int) ^^^ BitVec.ofInt 64 (-1)).toNat : Int) = IntKind.i64.wrap ((BitVec.ofInt 64 (-1) ^^^ BitVec.ofInt 64 ((n / 2 : Nat) : Int)).toNat : Int)
    rw [BitVec.xor_comm]

set_option maxHeartbeats 1000000 in
set_option maxRecDepth 100000 in
theorem unfold_any (n : Nat) (w : World) (h : n < 18446744073709551616) :
    Calls Tryz.prog 128 #[.int .u64 n] w fun e w' => e = .returned (.int .i64 (Dec.unzig n)) ∧ w' = w := by
  go_enter Tryz.func128, Tryz.ntmps128
  go_wp2
  go_ret
  exact ⟨ret_int (unzig_eq n h), rfl⟩

set_option maxHeartbeats 1000000 in
set_option maxRecDepth 100000 in
theorem getInt_any (v : Value) (l : List UInt8) (w : World) (h : Bs w v l) :
    Calls Tryz.prog 116 #[v] w fun e w' => e = .returned (.tuple #[.int .i64 (Dec.unzig (Dec.getN l).1), .int .i64 (Dec.getN l).2]) ∧ w' = w := by
  have hg := get_any v l w h
  have hu := unfold_any (Dec.getN l).1 w (Dec.getN_lt l)
  clear h
  go_enter Tryz.func116, Tryz.ntmps116
  go_wp2_with (first | (go_at_call 88; refine hg.mono ?_; rintro e w' ⟨rfl, rfl⟩) | (go_at_call 128; refine hu.mono ?_; rintro e w' ⟨rfl, rfl⟩))
  go_ret2
  exact ⟨rfl, rfl⟩

/-- string(b). -/
theorem conv_row (w : World) (a : Addr) (c : Nat) (l : List UInt8) (hcell : ∀ j (hj : j < l.length), w.cell? (a.add j) = some (.int .u8 (l[j]).toNat)) :
    (convert 22 9 (.slice (some a) l.length c)).run Tryz.prog w = .ok (.string ⟨l.toArray⟩) w := by
  have hl : (loadCells a l.length).run Tryz.prog w = .ok ((l.map fun b => (b.toNat : Int)).map (Value.int .u8)).toArray w := by
    have := run_loadCells_list (P := Tryz.prog) w a ((l.map fun b => (b.toNat : Int)).map (Value.int .u8)) (fun j v hj => by
      simp only [List.getElem?_map, Option.map_eq_some_iff] at hj
      obtain ⟨_, ⟨b, hb, rfl⟩, rfl⟩ := hj
      obtain ⟨hjl, rfl⟩ := List.getElem?_eq_some_iff.1 hb
      exact hcell j hjl)
    simpa using this
  rw [run_convert_bytes_string w 22 9 5 _ _ c Tryz.underlying22 Tryz.underlying5 Tryz.underlying9, run_bytesToString w _ _ c _ hl, foldl_push_bytes]
  have e : ((l.map fun b => (b.toNat : Int)).map fun n => UInt8.ofNat n.toNat) = l := by
    rw [List.map_map]
    conv => rhs; rw [← List.map_id l]
    apply List.map_congr_left
    intro b _
    simp
  rw [e]
  simp [ByteArray.empty, ByteArray.emptyWithCapacity]
  rfl
theorem conv_bs {w : World} {v : Value} {l : List UInt8} (h : Bs w v l) : (convert 22 9 v).run Tryz.prog w = .ok (.string ⟨l.toArray⟩) w := by
  obtain ⟨ao, c, rfl, h1, h2, h3⟩ := h
  cases ao with
  | none =>
    cases l with
    | nil =>
      rw [run_convert_bytes_nil w 22 5 Tryz.underlying22 Tryz.underlying5 _ c 9 Tryz.underlying9]
      rfl
    | cons b l =>
      obtain ⟨_, _, e, _⟩ := h3 0 (by simp)
      cases e
  | some a =>
    refine conv_row w a c l fun j hj => ?_
    obtain ⟨g, o, e, hc⟩ := h3 j hj
    cases e
    rw [show (⟨g, o, none⟩ : Addr).add j = ⟨g, o + j, none⟩ by simp [Addr.add]]
    exact hc

/-- What GetText tells. -/
def textN (l : List UInt8) : List UInt8 × Nat :=
  if (Dec.getN l).2 = 0 ∨ l.length - (Dec.getN l).2 < (Dec.getN l).1 then ([], 0) else ((l.drop (Dec.getN l).2).take (Dec.getN l).1, (Dec.getN l).2 + (Dec.getN l).1)

set_option maxHeartbeats 1000000 in
set_option maxRecDepth 100000 in
theorem getText_any (v : Value) (l : List UInt8) (w : World) (h : Bs w v l) :
    Calls Tryz.prog 103 #[v] w fun e w' => e = .returned (.tuple #[.string ⟨(textN l).1.toArray⟩, .int .i64 (textN l).2]) ∧ w' = w := by
  have hg := get_any v l w h
  have h1 := Dec.getN_le l
  have h2 := Dec.getN_lt l
  by_cases hno : (Dec.getN l).2 = 0 ∨ l.length - (Dec.getN l).2 < (Dec.getN l).1
  · have E : Hid (textN l = ([], 0)) := by unfold textN; rw [if_pos hno]; rfl
    obtain ⟨ao, c, rfl, hlc, hc, _⟩ := h
    unfold maxLen at hc
    generalize Dec.getN l = p at *
    obtain ⟨n, k⟩ := p
    simp only at hno h1 h2 hg
    by_cases hk : k = 0
    · have hz : ((k : Int) == 0) = true := by simp [hk]
      clear hk hno
      go_enter Tryz.func103, Tryz.ntmps103
      go_wp2_with (go_at_call 88; refine hg.mono ?_; rintro e w' ⟨rfl, rfl⟩)
      go_ret2
      rw [E.out]
      exact ⟨rfl, rfl⟩
    · have hz : ((k : Int) == 0) = false := by simp [hk]
      have hlt : (l.length : Int) - k < n := by omega
      clear hno
      go_enter Tryz.func103, Tryz.ntmps103
      go_wp2_with (go_at_call 88; refine hg.mono ?_; rintro e w' ⟨rfl, rfl⟩)
      go_ret2
      rw [E.out]
      exact ⟨rfl, rfl⟩
  · have E : Hid (textN l = ((l.drop (Dec.getN l).2).take (Dec.getN l).1, (Dec.getN l).2 + (Dec.getN l).1)) := by unfold textN; rw [if_neg hno]; rfl
    rcases h.parts with ⟨ao, c, rfl, rfl⟩ | ⟨g, o, c, rfl, hpos, hlc, hc, hcell⟩
    · exact absurd (Or.inl rfl) hno
    unfold maxLen at hc
    generalize Dec.getN l = p at *
    obtain ⟨n, k⟩ := p
    simp only at hno h1 h2 hg E
    have hz : ((k : Int) == 0) = false := by simp; omega
    have hle : (n : Int) ≤ (l.length : Int) - k := by omega
    have hle' : ¬ ((l.length : Int) - k < n) := by omega
    by_cases hkc : k = c
    · subst hkc
      obtain rfl : n = 0 := by omega
      have hcv := conv_row w ⟨g, o, none⟩ 0 [] (fun j hj => absurd hj (by simp))
      have hcv' : (convert 22 9 (.slice (some ⟨g, o, none⟩) 0 0)).run Tryz.prog w = .ok (.string ⟨#[]⟩) w := hcv
      clear hcv hno
      go_enter Tryz.func103, Tryz.ntmps103
      go_wp2_with (go_at_call 88; refine hg.mono ?_; rintro e w' ⟨rfl, rfl⟩)
      go_ret2
      rw [E.out]
      exact ⟨by simp, rfl⟩
    · have hcv := conv_row w ⟨g, o + k, none⟩ (c - k) ((l.drop k).take n) (fun j hj => by
        simp at hj
        rw [show (⟨g, o + k, none⟩ : Addr).add j = ⟨g, o + (k + j), none⟩ by simp [Addr.add, Nat.add_assoc], hcell (k + j) (by omega)]
        simp)
      rw [show ((l.drop k).take n).length = n by simp; omega] at hcv
      clear hno
      go_enter Tryz.func103, Tryz.ntmps103
      go_wp2_with (go_at_call 88; refine hg.mono ?_; rintro e w' ⟨rfl, rfl⟩)
      go_ret2
      rw [E.out]
      exact ⟨by simp, rfl⟩
end Go.Proofs.YtpolajoephjdhaaGreatDoor
