import Derived.Test.YtoccbeefmagklaaGetMore
import Derived.Test.YtoccbeefmagklaaSize
import Derived.Test.YtoccbeefmagklaaRead
namespace Go.Proofs.Ytoccbeefmagklaa
open Go.RowKit

theorem info2 : (Try.prog.info? 2).map (fun i => (i.zero, i.size, i.bytes)) = some (some (.int .i64 0), 1, 8) := by kernel_rfl
abbrev BCells (w : World) (g o : Nat) (l : List UInt8) : Prop := ∀ j (hj : j < l.length), w.cell? ⟨g, o + j, none⟩ = some (.int .u8 (l[j]).toNat)
theorem Bs.cut {w : World} {g o c : Nat} {l : List UInt8} (hc : BCells w g o l) (hlc : l.length ≤ c) (hm : c ≤ maxLen) {k : Nat} (hk : k ≤ l.length) (_hkc : k ≠ c) : Bs w (.slice (some ⟨g, o + k, none⟩) (l.length - k) (c - k)) (l.drop k) := by
  have := Bs.row (w := w) (g := g) (o := o + k) (c := c - k) (l := l.drop k) (by simp; omega) (by omega) (fun j hj => by
    simp at hj
    have := hc (k + j) (by omega)
    rw [← Nat.add_assoc] at this
    rw [this]
    simp)
  rwa [List.length_drop] at this
theorem Bs.cutEnd {w : World} {g o c : Nat} {l : List UInt8} (hlc : l.length ≤ c) {k : Nat} (hk : k ≤ l.length) (hkc : k = c) : Bs w (.slice (some ⟨g, o, none⟩) (l.length - k) 0) (l.drop k) := by
  have e : l.drop k = [] := List.drop_eq_nil_of_le (by omega)
  rw [e, show l.length - k = 0 by omega]
  exact ⟨some ⟨g, o, none⟩, 0, rfl, Nat.le_refl _, Nat.zero_le _, fun j hj => absurd hj (by simp)⟩
theorem bcells_below {B : Nat} {w w' : World} {g o : Nat} {l : List UInt8} (h : BCells w g o l) (hb : Below B w w') (hg : g < B) : BCells w' g o l :=
  fun j hj => (hb.cell (p := ⟨g, o + j, none⟩) hg).trans (h j hj)

/-- A block of int64, whole. -/
abbrev Nrow (w : World) (g : Nat) (zs : List Int) : Prop := w.heap[g]? = some (.cells (zs.map (Value.int .i64)).toArray 2 (0, 0))
theorem Nrow.cells {w : World} {g : Nat} {zs : List Int} (h : Nrow w g zs) : Cells w g 0 zs := fun j hj => by
  rw [Nat.zero_add, cell_of_row w g j _ 2 (0, 0) h]
  simp [hj]
theorem Nrow.frozen {w : World} {g : Nat} {zs : List Int} (h : Nrow w g zs) (j : Nat) : w.frozen? ⟨g, j, none⟩ = false := frozen_of_row w g j _ 2 h
theorem Nrow.set {w : World} {g : Nat} {zs : List Int} (h : Nrow w g zs) (j : Nat) (z : Int) : Nrow (w.setCell ⟨g, j, none⟩ (.int .i64 z)) g (zs.set j z) := by
  have := heap_setCell_same w g j _ 2 (.int .i64 z) h
  unfold Nrow
  rw [this]
  simp [List.map_set]
theorem nums_step {k : Nat} {b : List UInt8} (h : (Dec.getN b).2 ≠ 0) : Rd.nums (k + 1) b = (Rd.nums k (b.drop (Dec.getN b).2)).map fun r => (Dec.unzig (Dec.getN b).1 :: r.1, (Dec.getN b).2 + r.2) := by
  rw [Rd.nums, if_neg h]
theorem nums_stop {k : Nat} {b : List UInt8} (h : (Dec.getN b).2 = 0) : Rd.nums (k + 1) b = none := by rw [Rd.nums, if_pos h]

theorem nset (pre : List Int) (count k : Nat) (z : Int) (hp : pre.length = k) (hk : k < count) : (pre ++ List.replicate (count - k) 0).set k z = (pre ++ [z]) ++ List.replicate (count - (k + 1)) 0 := by
  rw [List.set_append_right _ _ (by omega), hp, Nat.sub_self, show count - k = (count - (k + 1)) + 1 by omega, List.replicate_succ]
  simp
theorem getInt_none (g o : Nat) (w : World) : Calls Try.prog 23 #[.slice (some ⟨g, o, none⟩) 0 0] w fun e w' => e = .returned (.tuple #[.int .i64 0, .int .i64 0]) ∧ w' = w :=
  getInt_any _ [] w ⟨some ⟨g, o, none⟩, 0, rfl, Nat.le_refl _, Nat.zero_le _, fun j hj => absurd hj (by simp)⟩
/-- What a reader of numbers hands back. -/
def Read (w w' : World) (e : Ending) (r : Option (List Int × Nat)) : Prop :=
  (r = none ∧ ∃ v, e = .returned (.tuple #[v, .int .i64 0]) ∧ v = .slice none 0 0) ∨
  ∃ zs t g, r = some (zs, t) ∧ e = .returned (.tuple #[.slice (some ⟨g, 0, none⟩) zs.length zs.length, .int .i64 t]) ∧ w.heap.size ≤ g ∧ Nrow w' g zs

set_option maxHeartbeats 4000000 in
set_option maxRecDepth 100000 in
theorem readNumbers_some (g o c count : Nat) (l : List UInt8) (w : World) (hpos : 1 ≤ count) (hcount : count ≤ 100000) (hlc : l.length ≤ c) (hm : c ≤ maxLen) (hc : BCells w g o l) (hg : g < w.heap.size) (hle : count ≤ l.length) :
    Calls Try.prog 52 #[.slice (some ⟨g, o, none⟩) l.length c, .int .i64 count] w fun e w' => Read w w' e (Rd.nums count l) ∧ Below w.heap.size w w' := by
  obtain ⟨i0, hi, hz0, hz1, hz2⟩ := info_parts info2
  have HC := hide hc
  have HM := hide hm
  unfold maxLen at hm
  clear hc
  go_enter Try.func52, Try.ntmps52
  go_wp2_with (at_make; refine wpList_make_full _ rfl _ _ 24 rfl w.heap.size 2 i0 (.int .i64 0) 1 Try.underlying24 hi hz0 hz1 .i64 .i64 _ _ count rfl rfl ?c1 ?c2 ?c3 ?c4 ?c5 ?_)
  case c1 => omega
  case c2 => omega
  case c3 => rw [hz2]; omega
  case c4 => unfold maxLen; omega
  case c5 => omega
  intro w1 hown hgrow
  have hb1 : Below w.heap.size w w1 := (Below.refl _ _).grown hgrow (Nat.le_refl _) (by intro k hk; cases hk)
  have hr1 := (own_block hown).1
  have hr2 : Nrow w1 w.heap.size (List.replicate count 0) := by
    unfold Nrow
    rw [hr1, toList_madeCells_one]
    simp
  have HR := hide hr2
  have HB := hide hb1
  clear hown hgrow hr1 hr2 hb1
  go_wp2
  go_loopw [7, 18] (fun a i wr => ∃ (k at' : Nat) (pre : List Int), k ≤ count ∧ pre.length = k ∧ at' ≤ l.length ∧ i = .int .i64 k ∧ a = .int .i64 at' ∧ Nrow wr w.heap.size (pre ++ List.replicate (count - k) 0) ∧ Below w.heap.size w wr ∧ Hid (Rd.nums count l = (Rd.nums (count - k) (l.drop at')).map fun r => (pre ++ r.1, at' + r.2))) (fun _ i _ => count - (intOf i).toNat)
  case atStart => exact ⟨0, 0, [], Nat.zero_le _, rfl, Nat.zero_le _, rfl, rfl, HR.out, HB.out, show _ = _ by simp⟩
  case round =>
    obtain ⟨k, a, pre, hk, hpl, ha, rfl, rfl, hrow, hb, hdec⟩ := hrel
    have HRr := hide hrow
    have HBr := hide hb
    have HP := hide hpl
    clear hrow hb hpl
    by_cases hlt : k < count
    · have hle2 := Dec.getN_le (l.drop a)
      rw [List.length_drop] at hle2
      by_cases hac : a = c
      · have hnil : l.drop a = [] := List.drop_eq_nil_of_le (by omega)
        subst hac
        have hgi := getInt_none g o wr
        have E := hide (show Rd.nums count l = none by rw [hdec.out, hnil, show count - k = (count - k - 1) + 1 by omega, nums_stop rfl]; rfl)
        clear hdec hnil
        go_wp2_with fail
        refine hgi.mono ?_
        rintro e w' ⟨rfl, rfl⟩
        go_wp2
        go_ret2
        exact ⟨.inl ⟨E.out, _, rfl, rfl⟩, HBr.out⟩
      · have hgi := getInt_any _ _ wr (Bs.cut (bcells_below HC.out HBr.out hg) hlc HM.out ha hac)
        have hac' : ¬ (a : Int) = c := by omega
        have ED := hide (fun h => (nums_step (k := count - k - 1) (b := l.drop a) h))
        have ES := hide (fun h => (nums_stop (k := count - k - 1) (b := l.drop a) h))
        have hfit := Rd.unzig_fits (l.drop a)
        generalize Dec.getN (l.drop a) = p at *
        obtain ⟨n, s⟩ := p
        simp only at hle2 hfit hgi
        generalize Dec.unzig n = z at *
        by_cases hs0 : s = 0
        · have E := hide (show Rd.nums count l = none by rw [hdec.out, show count - k = (count - k - 1) + 1 by omega, ES.out hs0]; rfl)
          have hz : ((s : Int) == 0) = true := by simp [hs0]
          have HS0 := hide hs0
          clear hdec hs0
          go_wp2_with fail
          refine hgi.mono ?_
          rintro e w' ⟨rfl, rfl⟩
          go_wp2
          go_ret2
          have hs0 := HS0.out
          subst hs0
          exact ⟨.inl ⟨E.out, _, rfl, rfl⟩, HBr.out⟩
        · have hz : ((s : Int) == 0) = false := by simp [hs0]
          have hfz := HRr.out.frozen k
          have hcl := HRr.out.cells k (by simp [HP.out]; omega)
          rw [Nat.zero_add] at hcl
          obtain ⟨y, hy⟩ : ∃ y, (pre ++ List.replicate (count - k) 0).getD k 0 = y := ⟨_, rfl⟩
          rw [hy] at hcl
          have HY := hide hy
          clear hy
          have E := hide (show Rd.nums count l = (Rd.nums (count - (k + 1)) (l.drop (a + s))).map fun r => ((pre ++ [z]) ++ r.1, (a + s) + r.2) by
            rw [hdec.out, show count - k = (count - k - 1) + 1 by omega, ED.out hs0, List.drop_drop, show count - (k + 1) = count - k - 1 by omega, Option.map_map]
            congr 1
            funext r
            simp [Nat.add_assoc])
          clear hdec
          go_wp2_with fail
          refine hgi.mono ?_
          rintro e w' ⟨rfl, rfl⟩
          go_wp2
          refine ⟨⟨k + 1, a + s, pre ++ [z], by omega, by simp [HP.out], by omega, by go_num, by go_num, ?_, HBr.out.setCell (Nat.le_refl _) _, E.out⟩, by simp [intOf]; omega⟩
          have := HRr.out.set k z
          rw [nset pre count k z HP.out hlt] at this
          exact this
    · obtain rfl : k = count := by omega
      have E := hide (show Rd.nums k l = some (pre, a) by rw [hdec.out]; simp [Rd.nums])
      clear hdec
      go_wp2
      go_ret2
      have hrow := HRr.out
      simp only [Nat.sub_self, List.replicate_zero, List.append_nil] at hrow
      refine ⟨.inr ⟨pre, a, w.heap.size, E.out, by rw [HP.out]; rfl, Nat.le_refl _, hrow⟩, HBr.out⟩

set_option maxHeartbeats 1000000 in
set_option maxRecDepth 100000 in
theorem readNumbers_few (ao : Option Addr) (n c count : Nat) (w : World) (hn : n < count) (_hc : count ≤ 100000) :
    Calls Try.prog 52 #[.slice ao n c, .int .i64 count] w fun e w' => e = .returned (.tuple #[.slice none 0 0, .int .i64 0]) ∧ w' = w := by
  have h : (n : Int) < count := by omega
  go_enter Try.func52, Try.ntmps52
  go_wp2
  go_ret2
  exact ⟨rfl, rfl⟩
theorem nums_few {count : Nat} {l : List UInt8} (h : l.length < count) : Rd.nums count l = none := by
  cases he : Rd.nums count l with
  | none => rfl
  | some r =>
    obtain ⟨zs, t⟩ := r
    have := Rd.nums_facts count l zs t he
    omega
theorem readNumbers_any (v : Value) (l : List UInt8) (count : Nat) (w : World) (h : Bs w v l) (hpos : 1 ≤ count) (hcount : count ≤ 100000) :
    Calls Try.prog 52 #[v, .int .i64 count] w fun e w' => Read w w' e (Rd.nums count l) ∧ Below w.heap.size w w' := by
  by_cases hle : count ≤ l.length
  · rcases h.parts with ⟨ao, c, rfl, rfl⟩ | ⟨g, o, c, rfl, hp, hlc, hm, hc⟩
    · simp at hle
      omega
    · exact readNumbers_some g o c count l w hpos hcount hlc hm hc (World.block_lt_of_cell? w _ (hc 0 hp)) hle
  · obtain ⟨ao, c, rfl, _, _, _⟩ := h
    refine (readNumbers_few ao l.length c count w (by omega) hcount).mono ?_
    rintro e w' ⟨rfl, rfl⟩
    exact ⟨.inl ⟨nums_few (by omega), _, rfl, rfl⟩, Below.refl _ _⟩
end Go.Proofs.Ytoccbeefmagklaa
