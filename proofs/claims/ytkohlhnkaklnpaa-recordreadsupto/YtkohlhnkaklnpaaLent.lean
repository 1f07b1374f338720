import Derived.Test.YtkohlhnkaklnpaaSum
namespace Go.Proofs.Ytkohlhnkaklnpaa
open Go.RowKit
theorem info5 : (Try.prog.info? 5).map (fun i => (i.zero, i.size, i.bytes)) = some (some (.int .u8 0), 1, 1) := by kernel_rfl
theorem size5 : (Try.prog.info? 5).map (·.size) = some 1 := by kernel_rfl

/-- A full row that is owned is its block. -/
theorem own_block {w : World} {base e g n : Nat} {xs : List Value} (h : w.ownsRow base e 1 (.slice (some ⟨g, 0, none⟩) n n) n xs) : w.heap[g]? = some (.cells xs.toArray e (0, 0)) ∧ base ≤ g := by
  rcases h.2 with ⟨h', _⟩ | ⟨g', cap', cur, h', hb, hg, _, _, hs, htake⟩
  · simp at h'
  · simp only [Value.slice.injEq, Option.some.injEq, Addr.mk.injEq, and_true, true_and] at h'
    obtain ⟨rfl, rfl⟩ := h'
    have : cur = xs.toArray := by
      rw [← htake, List.take_of_length_le (by simp; omega)]
    exact ⟨this ▸ hg, hb⟩
theorem made_bytes (n : Nat) : (madeCells #[Value.int IntKind.u8 0] n).toList = Lib.byteCells (List.replicate n 0) := by
  rw [toList_madeCells_one]
  simp [Lib.byteCells]
theorem byteCells_one (l : List UInt8) : ∀ u ∈ Lib.byteCells l, u.oneCell' = true := by
  intro u hu
  simp only [Lib.byteCells, List.mem_map] at hu
  obtain ⟨b, _, rfl⟩ := hu
  rfl
theorem byteCells_at {l : List UInt8} {j : Nat} {u : Value} (h : (Lib.byteCells l)[j]? = some u) : ∃ hj : j < l.length, u = .int .u8 (l[j]).toNat := by
  simp only [Lib.byteCells, List.getElem?_map, Option.map_eq_some_iff] at h
  obtain ⟨b, hb, rfl⟩ := h
  obtain ⟨hj, e⟩ := List.getElem?_eq_some_iff.1 hb
  exact ⟨hj, by rw [e]⟩
/-- What a copy out of a slice of bytes asks. -/
theorem Bs.src {w w' : World} {ao : Option Addr} {l : List UInt8} (h3 : ∀ j (hj : j < l.length), ∃ g o, ao = some ⟨g, o, none⟩ ∧ w.cell? ⟨g, o + j, none⟩ = some (.int .u8 (l[j]).toNat)) (hb : Below w.heap.size w w') (m : Nat) (hm : m ≤ l.length) :
    0 < m → ∃ ad, ao = some ad ∧ ∀ j v, (Lib.byteCells (l.take m))[j]? = some v → w'.cell? (ad.add j) = some v := by
  intro h0
  obtain ⟨g, o, rfl, _⟩ := h3 0 (by omega)
  refine ⟨_, rfl, fun j v hv => ?_⟩
  obtain ⟨hj, rfl⟩ := byteCells_at hv
  simp at hj
  obtain ⟨g', o', e, hc⟩ := h3 j (by omega)
  simp at e
  obtain ⟨rfl, rfl⟩ := e
  have hlt := World.block_lt_of_cell? w _ hc
  rw [show (⟨g, o, none⟩ : Addr).add j = ⟨g, o + j, none⟩ by simp [Addr.add], hb.cell (p := ⟨g, o + j, none⟩) hlt, hc]
  simp

def filled (l : List UInt8) (k : Nat) : List UInt8 := l ++ (List.replicate k 201 ++ List.replicate (8 - k) 0)
theorem filled_length (l : List UInt8) (k : Nat) (hk : k ≤ 8) : (filled l k).length = l.length + 8 := by simp [filled]; omega
theorem filled_set (l : List UInt8) (k : Nat) (hk : k < 8) : (filled l k).set (l.length + k) 201 = filled l (k + 1) := by
  unfold filled
  rw [List.set_append_right _ _ (by omega), show l.length + k - l.length = k by omega, List.set_append_right _ _ (by simp), show 8 - k = (8 - (k + 1)) + 1 by omega, List.replicate_succ]
  simp [List.replicate_succ', List.append_assoc]
theorem filled_end (l : List UInt8) : filled l 8 = l ++ List.replicate 8 201 := by simp [filled]
theorem splice_lent (l : List UInt8) : splice (Lib.byteCells (List.replicate (l.length + 8) 0)) 0 (Lib.byteCells l) = Lib.byteCells (filled l 0) := by
  unfold splice filled
  rw [Lib.byteCells_append]
  simp [Lib.byteCells]

set_option maxHeartbeats 1000000 in
set_option maxRecDepth 100000 in
theorem lent_any (v : Value) (l : List UInt8) (w : World) (h : Bs w v l) (hl : l.length ≤ 140737488351232) :
    Calls Try.prog 9 #[v] w fun e w' => e = .returned (.slice (some ⟨w.heap.size, 0, none⟩) (l.length + 8) (l.length + 8)) ∧ Row w' w.heap.size (l ++ List.replicate 8 201) ∧ Below w.heap.size w w' := by
  obtain ⟨i0, hi, hz0, hz1, hz2⟩ := info_parts info5
  obtain ⟨ao, c, rfl, h1, h2, h3⟩ := h
  have H3 := hide h3
  clear h3
  unfold maxLen at h2
  go_enter Try.func9, Try.ntmps9
  go_wp2_with (at_make; refine wpList_make_full _ rfl _ _ 22 rfl w.heap.size 5 i0 (.int .u8 0) 1 Try.underlying22 hi hz0 hz1 .i64 .i64 _ _ (l.length + 8) rfl rfl ?c1 ?c2 ?c3 ?c4 ?c5 ?_)
  case c1 => omega
  case c2 => omega
  case c3 => rw [hz2]; omega
  case c4 => unfold maxLen; omega
  case c5 => omega
  intro w1 hown hgrow
  rw [made_bytes] at hown
  have hb1 : Below w.heap.size w w1 := (Below.refl _ _).grown hgrow (Nat.le_refl _) (by intro k hk; cases hk)
  have hr1 := (own_block hown).1
  clear hown hgrow
  have hsrc := Bs.src H3.out hb1 l.length (Nat.le_refl _)
  rw [List.take_length] at hsrc
  have HS := hide hsrc
  clear hsrc
  go_wp2_with (refine wpList_copy_splice rfl _ _ 22 22 rfl 5 Try.underlying22 size5 _ _ _ _ _ _ rfl rfl w.heap.size 0 (Lib.byteCells (List.replicate (l.length + 8) 0)) 5 hr1 (Lib.byteCells l) ?d1 ?d2 ?d3 (byteCells_one l) w.heap.size w hb1 (Nat.le_refl _) ?_)
  case d1 => rw [Lib.byteCells_length]; simp
  case d2 => intro h0; rw [Lib.byteCells_length] at h0; first | exact ⟨rfl, HS.out h0⟩ | exact HS.out h0
  case d3 => simp [Lib.byteCells_length]
  intro w2 hr2 hb2
  rw [splice_lent] at hr2
  clear hr1 hb1 HS H3
  go_wp2
  go_loopw [4] (fun i wr => ∃ k : Nat, k ≤ 8 ∧ i = .int .i64 ((l.length + k : Nat) : Int) ∧ Row wr w.heap.size (filled l k) ∧ Below w.heap.size w wr) (fun i _ => l.length + 8 - (intOf i).toNat)
  case atStart => exact ⟨0, Nat.zero_le _, rfl, hr2.out, hb2⟩
  case round =>
    obtain ⟨k, hk, rfl, hr, hb⟩ := hrel
    by_cases hlt : k < 8
    · have hfz := hr.frozen (l.length + k)
      have hcl := hr.cell (l.length + k) (by rw [filled_length _ _ hk]; omega)
      have HR := hide hr
      clear hr
      go_wp2
      refine ⟨⟨k + 1, by omega, by go_num, ?_, hb.setCell (Nat.le_refl _) _⟩, by simp [intOf]; omega⟩
      have := HR.out.set (l.length + k) 201
      rw [filled_set l k hlt] at this
      exact this
    · go_wp2
      go_ret
      obtain rfl : k = 8 := by omega
      rw [filled_end] at hr
      exact ⟨rfl, hr, hb⟩
end Go.Proofs.Ytkohlhnkaklnpaa
