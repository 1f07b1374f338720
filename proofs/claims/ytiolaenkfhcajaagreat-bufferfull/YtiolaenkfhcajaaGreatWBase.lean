/-
  World: a map from sets to tables; a set's bits; kinds in memory.
-/
import Derived.Test.YtiolaenkfhcajaaGreatTSet
import Derived.Laws.BitsAllLaws
namespace Go.Proofs.YtiolaenkfhcajaaGreat
open Go.RowKit
set_option maxRecDepth 100000
/-! ### A map from sets to tables -/
theorem keyed3 : Maps.Keyed Tryz.prog 3 := Maps.int_keyed Tryz.underlying3
def ptrElem (v : Value) : Option (DataW Nat × List MemPlace) :=
  match v with
  | .pointer none => some (.nil, [])
  | .pointer (some ⟨g, 0, none⟩) => some (.held g, [])
  | _ => none
theorem ptrElem_inv {v : Value} {g : Nat} {ps : List MemPlace} (h : ptrElem v = some (.held g, ps)) : v = .pointer (some ⟨g, 0, none⟩) := by
  unfold ptrElem at h
  split at h
  · simp at h
  · rename_i g'
    simp only [Option.some.injEq, Prod.mk.injEq, DataW.held.injEq] at h
    rw [h.1]
  · cases h
theorem key3 (s : Nat) (h : s < 9007199254740992) : keyOf Tryz.prog 3 (.int .i64 (s : Int)) = some (.int .i64 (s : Int)) := by
  have hw : (Lit.int .i64 (s : Int)).wf = true := by simp [Lit.wf, IntKind.min, IntKind.max, IntKind.signed, IntKind.bits]; omega
  simp [keyOf, mapKey, Tryz.underlying3, hw]
/-- A map from sets to tables: where each lies. -/
def Mq (w : World) (gm n : Nat) (q : Nat → Option Nat) : Prop :=
  ∃ D : DataW Nat, w.ownsMap Tryz.prog 3 ptrElem gm n D ∧ (∀ s : Nat, s < 9007199254740992 → Maps.has D (.int .i64 (s : Int)) = (q s).isSome ∧ ∀ g, q s = some g → D.atKey (.int .i64 (s : Int)) .nil = .held g) ∧ ∀ kl, Maps.has D kl = true → ∃ s : Nat, s < 9007199254740992 ∧ kl = .int .i64 (s : Int)
section
variable {w w' : World} {gm n : Nat} {q : Nat → Option Nat}
theorem Mq.made (w : World) : Mq (w.alloc (.map #[] 0)) w.heap.size 0 (fun _ => none) :=
  ⟨.map [], World.ownsMap_made w _ _ _, fun _ _ => ⟨rfl, fun _ h => by cases h⟩, fun kl h => by
    have e : Maps.has (H := Nat) (.map []) kl = false := rfl
    rw [e] at h
    cases h⟩
theorem Mq.lt (h : Mq w gm n q) : gm < w.heap.size := by
  obtain ⟨D, h1, -⟩ := h
  exact h1.lt
theorem Mq.same (h : Mq w gm n q) (hs : w'.heap[gm]? = w.heap[gm]?) : Mq w' gm n q := by
  obtain ⟨D, ⟨es, ck, h1, h2⟩, h3⟩ := h
  exact ⟨D, ⟨es, ck, hs.trans h1, h2⟩, h3⟩
theorem zero133 (w : World) : (zeroValue 96).run Tryz.prog w = .ok (.pointer none) w := by kernel_rfl
theorem Mq.look (h : Mq w gm n q) (s : Nat) (hs : s < 9007199254740992) : ∃ v, (Instr.lookup 61 (.map (some gm)) (.int .i64 (s : Int)) true).run Tryz.prog w = .ok (.tuple #[v, .bool (q s).isSome]) w ∧ ∀ g, q s = some g → v = .pointer (some ⟨g, 0, none⟩) := by
  obtain ⟨D, h1, h2, -⟩ := h
  obtain ⟨v, ps, hr, hv⟩ := h1.look_ok keyed3 Tryz.underlying61 (zero133 w) (zd := .nil) (zp := []) rfl (key3 s hs)
  obtain ⟨h3, h4⟩ := h2 s hs
  rw [h3] at hr
  refine ⟨v, hr, fun g hg => ?_⟩
  rw [h4 g hg] at hv
  exact ptrElem_inv hv
theorem Mq.store (h : Mq w gm n q) (s g : Nat) (hs : s < 9007199254740992) (hn : n ≤ 1000000) : ∃ w', (Instr.mapUpdate 61 (.map (some gm)) (.int .i64 (s : Int)) (.pointer (some ⟨g, 0, none⟩))).run Tryz.prog w = .ok () w' ∧ Mq w' gm (n + 1) (fun x => if x = s then some g else q x) ∧ w.mapTurned w' gm := by
  obtain ⟨D, h1, h2, hz⟩ := h
  obtain ⟨w', hr, h3, h4⟩ := h1.store keyed3 Tryz.underlying61 (by unfold maxLen; omega) (key3 s hs) (val := .pointer (some ⟨g, 0, none⟩)) (d := .held g) (ps := []) rfl
  refine ⟨w', hr, ⟨_, h3, fun x hx => ?_, fun kl hkl => ?_⟩, h4⟩
  rotate_left
  · by_cases c : kl = .int .i64 (s : Int)
    · exact ⟨s, hs, c⟩
    · rw [Maps.has_put_other c] at hkl
      exact hz kl hkl
  by_cases ex : x = s
  · subst ex
    refine ⟨by rw [Maps.has_put_same h1.isMap (keyed3.key (key3 x hs))]; simp, fun j hj => ?_⟩
    rw [Maps.atKey_put_same h1.isMap (keyed3.key (key3 x hs))]
    simp only [if_true, Option.some.injEq] at hj
    rw [hj]
  · have hne : (Lit.int .i64 (x : Int)) ≠ .int .i64 (s : Int) := fun e' => by
      simp only [Lit.int.injEq, true_and] at e'
      omega
    rw [Maps.has_put_other hne, Maps.atKey_put_other hne]
    simp only [if_neg ex]
    exact h2 x hx
theorem Mq.drop (h : Mq w gm n q) (s : Nat) (hs : s < 9007199254740992) (ty : TypeId) : ∃ w', (Builtin.delete_ #[61, 3] ty #[.map (some gm), .int .i64 (s : Int)]).run Tryz.prog w = .ok (.tuple #[]) w' ∧ Mq w' gm n (fun x => if x = s then none else q x) ∧ w.mapTurned w' gm := by
  obtain ⟨D, h1, h2, hz⟩ := h
  obtain ⟨w', hr, h3, h4⟩ := h1.drop keyed3 Tryz.underlying61 (key3 s hs) ty
  refine ⟨w', hr, ⟨_, h3, fun x hx => ?_, fun kl hkl => ?_⟩, h4⟩
  rotate_left
  · by_cases c : kl = .int .i64 (s : Int)
    · exact ⟨s, hs, c⟩
    · rw [Maps.has_del_other c] at hkl
      exact hz kl hkl
  by_cases ex : x = s
  · subst ex
    refine ⟨by rw [Maps.has_del_same]; simp, fun j hj => by simp at hj⟩
  · have hne : (Lit.int .i64 (x : Int)) ≠ .int .i64 (s : Int) := fun e' => by
      simp only [Lit.int.injEq, true_and] at e'
      omega
    rw [Maps.has_del_other hne, Maps.atKey_del_other hne]
    simp only [if_neg ex]
    exact h2 x hx
end
/-! ### Sets -/
theorem ofInt_i64 (a : Nat) (ha : a < 9223372036854775808) : (BitVec.ofInt 64 (a : Int)).toNat = a := by
  rw [BitVec.ofInt_natCast, BitVec.toNat_ofNat]; exact Nat.mod_eq_of_lt (by omega)
theorem i64_and_nat (a b : Nat) (ha : a < 9223372036854775808) (hb : b < 9223372036854775808) : bits .and .i64 (a : Int) (b : Int) = ((a &&& b : Nat) : Int) := by
  have hx : a &&& b < 2 ^ 63 := Nat.and_lt_two_pow _ (by omega)
  show IntKind.i64.wrap ((BitVec.ofInt 64 (a : Int) &&& BitVec.ofInt 64 (b : Int)).toNat : Int) = _
  rw [BitVec.toNat_and, ofInt_i64 a ha, ofInt_i64 b hb, IntKind.wrap_i64]
  omega
theorem i64_or_nat (a b : Nat) (ha : a < 9223372036854775808) (hb : b < 9223372036854775808) : bits .or .i64 (a : Int) (b : Int) = ((a ||| b : Nat) : Int) := by
  have hx : a ||| b < 2 ^ 63 := Nat.or_lt_two_pow (by omega) (by omega)
  show IntKind.i64.wrap ((BitVec.ofInt 64 (a : Int) ||| BitVec.ofInt 64 (b : Int)).toNat : Int) = _
  rw [BitVec.toNat_or, ofInt_i64 a ha, ofInt_i64 b hb, IntKind.wrap_i64]
  omega
theorem has_any (s k : Nat) (w : World) (hs : s < 8192) (hk : k ≤ 12) : Calls Tryz.prog 40 #[.int .i64 (s : Int), .int .i64 (k : Int)] w fun e w' => e = .returned (.bool (s.testBit k)) ∧ w' = w := by
  have t1 : ¬ (k : Int) < 0 := by omega
  have e1 : (bits BinOp.and IntKind.i64 ((s : Int) / 2 ^ k) 1 != 0) = s.testBit k := by
    have h1 : ((s : Int) / 2 ^ k) = ((s / 2 ^ k : Nat) : Int) := by
      rw [Int.natCast_ediv]
      congr 1
    have hlt : s / 2 ^ k < 9223372036854775808 := Nat.lt_of_le_of_lt (Nat.div_le_self _ _) (by omega)
    have h2 := i64_and_nat (s / 2 ^ k) 1 hlt (by omega)
    rw [h1]
    rw [show ((1 : Nat) : Int) = 1 from rfl] at h2
    rw [h2, Nat.testBit, Nat.shiftRight_eq_div_pow, Nat.and_comm]
    rcases Nat.mod_two_eq_zero_or_one (s / 2 ^ k) with h | h
    · simp [Nat.one_and_eq_mod_two, h]
    · simp [Nat.one_and_eq_mod_two, h]
  go_enter Tryz.func40, Tryz.ntmps40
  go_wp2_with fail
  go_ret
  exact ⟨rfl, rfl⟩
end Go.Proofs.YtiolaenkfhcajaaGreat
