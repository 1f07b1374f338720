/-
  The document's sign.
-/
import Derived.Test.YtaaiogfbohndaaaDoorDoc
namespace Go.Proofs.YtaaiogfbohndaaaDoor
open Go.RowKit
set_option maxRecDepth 1000000
def s2 : List (UInt8 × UInt8) := [(61, 61), (33, 61), (60, 61), (62, 61), (38, 38), (124, 124)]
def s1 : List UInt8 := [43, 45, 42, 47, 37, 60, 62, 33, 61, 40, 41, 123, 125, 44, 59, 58, 63, 46]
def sgs : List (List UInt8) := s2.map (fun x => [x.1, x.2]) ++ s1.map (fun c => [c])
/-- Does a text stand at a place? -/
def stB (s : ByteArray) (p : Nat) (t : List UInt8) : Bool := decide (p + t.length ≤ s.size) && ((s.extract p (p + t.length)).toList == t)
theorem stB_two (s : ByteArray) (p : Nat) (c d : UInt8) (hc : c ≠ 0) (hd : d ≠ 0) : stB s p [c, d] = (bt s p == c.toNat && bt s (p + 1) == d.toNat) := pre_two c d hc hd
theorem stB_one (s : ByteArray) (p : Nat) (c : UInt8) (hc : c ≠ 0) : stB s p [c] = (bt s p == c.toNat) := pre_one c hc
theorem stB_ext {s : ByteArray} {p : Nat} {t : List UInt8} (h : stB s p t = true) : s.extract p (p + t.length) = ⟨t.toArray⟩ := by
  unfold stB at h
  simp only [Bool.and_eq_true, beq_iff_eq] at h
  have h2 := h.2
  rw [Lib.extract_toList] at h2
  have : (s.extract p (p + t.length)).data.toList = t := by rw [ext_data]; exact h2
  apply ByteArray.ext
  apply Array.toList_inj.1
  rw [this]
theorem two_iff (s : ByteArray) (p : Nat) : two (bt s p) (bt s (p + 1)) = (s2.map (fun x => [x.1, x.2])).any (stB s p) := by
  simp only [s2, List.map_cons, List.map_nil, List.any_cons, List.any_nil, Bool.or_false]
  rw [stB_two s p _ _ (by decide) (by decide), stB_two s p _ _ (by decide) (by decide), stB_two s p _ _ (by decide) (by decide), stB_two s p _ _ (by decide) (by decide), stB_two s p _ _ (by decide) (by decide), stB_two s p _ _ (by decide) (by decide)]
  simp only [two, Bool.or_assoc]
  rfl
theorem one_iff (s : ByteArray) (p : Nat) : one (bt s p) = (s1.map (fun c => [c])).any (stB s p) := by
  have h : ∀ c : UInt8, c ≠ 0 → stB s p [c] = (bt s p == c.toNat) := fun c hc => stB_one s p c hc
  simp only [s1, List.map_cons, List.map_nil, List.any_cons, List.any_nil, Bool.or_false]
  repeat rw [h _ (by decide)]
  simp only [one, Bool.or_assoc]
  rfl
/-- The sign that stands at a place. -/
def sgT (s : ByteArray) (p : Nat) : ByteArray := s.extract p (p + sgn (bt s p) (bt s (p + 1)))
theorem len2 : ∀ t ∈ s2.map (fun x => [x.1, x.2]), t.length = 2 := by
  intro t h
  obtain ⟨x, _, rfl⟩ := List.mem_map.1 h
  rfl
theorem len1 : ∀ t ∈ s1.map (fun c => [c]), t.length = 1 := by
  intro t h
  obtain ⟨x, _, rfl⟩ := List.mem_map.1 h
  rfl
theorem sg_some {s : ByteArray} {p : Nat} {t : List UInt8} (h : sgs.find? (stB s p) = some t) : sgT s p = ⟨t.toArray⟩ := by
  have hs := List.find?_some h
  rw [← stB_ext hs]
  unfold sgT
  congr 2
  unfold sgs at h
  rw [List.find?_append] at h
  unfold sgn
  rw [two_iff, one_iff]
  cases h2 : (s2.map (fun x => [x.1, x.2])).find? (stB s p) with
  | some t2 =>
    rw [h2] at h
    simp only [Option.some_or, Option.some.injEq] at h
    subst h
    have hm := List.mem_of_find?_eq_some h2
    rw [if_pos (List.any_eq_true.2 ⟨_, hm, hs⟩), len2 _ hm]
  | none =>
    rw [h2] at h
    simp only [Option.none_or] at h
    have hm := List.mem_of_find?_eq_some h
    rw [if_neg, if_pos (List.any_eq_true.2 ⟨_, hm, hs⟩), len1 _ hm]
    rw [Bool.not_eq_true, List.any_eq_false]
    exact List.find?_eq_none.1 h2
theorem sg_none {s : ByteArray} {p : Nat} (h : sgs.find? (stB s p) = none) : sgT s p = ByteArray.empty := by
  have h' := List.find?_eq_none.1 h
  have : sgn (bt s p) (bt s (p + 1)) = 0 := by
    unfold sgn
    rw [two_iff, one_iff, if_neg, if_neg]
    · rw [Bool.not_eq_true, List.any_eq_false]
      exact fun t ht => h' t (by unfold sgs; exact List.mem_append_right _ ht)
    · rw [Bool.not_eq_true, List.any_eq_false]
      exact fun t ht => h' t (by unfold sgs; exact List.mem_append_left _ ht)
  unfold sgT
  rw [this, Nat.add_zero]
  apply ByteArray.ext
  apply Array.toList_inj.1
  rw [ext_data, Nat.sub_self]
  rfl
theorem starts_any (s : ByteArray) (p : Nat) (hp : p ≤ s.size) (hs : s.size ≤ 8000) (t : List UInt8) (ht : t.length ≤ 2) (w : World) :
    Calls Tryd.prog 46 #[.string s, .int .i64 p, .string ⟨t.toArray⟩] w fun e w' => e = .returned (.bool (stB s p t)) ∧ w' = w := by
  have h : stB s p t = (decide (p + t.length ≤ s.size) && ((s.extract p (p + t.length)).toList == t)) := rfl
  have hz : (⟨t.toArray⟩ : ByteArray).size = t.length := by simp [← ByteArray.size_data]
  go_enter Tryd.func46, Tryd.ntmps46
  have H := hide h
  clear h
  go_wp2
  · have g : (p : Int) + t.length ≤ s.size := by assumption
    have h := H.out
    rw [decide_eq_true (by omega), Bool.true_and] at h
    rw [h]
    go_ret
    exact ⟨rfl, rfl⟩
  · have g : (s.size : Int) < p + t.length := by assumption
    have h := H.out
    rw [decide_eq_false (by omega), Bool.false_and] at h
    rw [h]
    go_ret
    exact ⟨rfl, rfl⟩
def sgA : Array Value := (sgs.map fun t => Value.string ⟨t.toArray⟩).toArray
theorem sgA_at (w : World) (i : Nat) (hi : i < 24) : (w.alloc (.cells sgA 9)).cell? ⟨w.heap.size, i, none⟩ = some (.string ⟨(sgs.getD i []).toArray⟩) := by
  rw [cell_of_row (w.alloc (.cells sgA 9)) w.heap.size i sgA 9 (0, 0) Array.getElem?_push_size]
  have hl : sgs.length = 24 := rfl
  unfold sgA
  rw [List.getElem?_toArray, List.getElem?_map, List.getElem?_eq_getElem (by omega), List.getD_eq_getElem?_getD, List.getElem?_eq_getElem (by omega)]
  rfl
def sgF (s : ByteArray) (p g i : Nat) (u : Nat → Value) : Act := { tmps := #[.string s, .int .i64 (p : Nat), undef, undef, .string ⟨#[]⟩, .slice (some ⟨g, 0, none⟩) 24 24, .int .i64 (i : Nat), u 7, u 8, u 9, u 10, u 11, u 12, u 13, u 14, u 15, u 16, u 17, u 18, u 19, u 20, u 21, u 22, u 23, u 24, u 25, u 26], defers := [] }
def SgI (s : ByteArray) (p : Nat) (w : World) (m : Nat) (A : Act) (W : World) : Prop := W = w.alloc (.cells sgA 9) ∧ ∃ i : Nat, A = sgF s p w.heap.size i (fun k => A.tmps.getD k undef) ∧ i ≤ 24 ∧ sgs.find? (stB s p) = (sgs.drop i).find? (stB s p) ∧ m = 24 - i
theorem sgs_len : ∀ i, i < 24 → (sgs.getD i []).length ≤ 2 := by decide
theorem dsign_any (s : ByteArray) (p : Nat) (hp : p ≤ s.size) (hs : s.size ≤ 8000) (w : World) :
    Calls Tryd.prog 33 #[.string s, .int .i64 p] w fun e w' => e = .returned (.string (sgT s p)) ∧ Below w.heap.size w w' := by
  have hbel : Below w.heap.size w (w.alloc (.cells sgA 9)) := (Below.refl _ w).alloc (Nat.le_refl _) _
  have HB := hide hbel
  clear hbel
  go_enter Tryd.func33, Tryd.ntmps33
  go_wp2
  refine loop_ghost (SgI s p w) 24 ⟨rfl, 0, rfl, by omega, rfl, rfl⟩ ?_
  rintro m A W ⟨rfl, i, hA, hi, hf, hm⟩
  generalize (fun k => A.tmps.getD k undef) = u at hA
  subst hA
  simp only [sgF]
  have HF := hide hf
  have HM := hide hm
  clear hf hm
  by_cases hlt : i < 24
  · have hc := sgA_at w i hlt
    obtain ⟨t, ht⟩ : ∃ t, t = sgs.getD i [] := ⟨_, rfl⟩
    have hl := sgs_len i hlt
    have hdr : sgs.drop i = t :: sgs.drop (i + 1) := by
      have e : sgs.length = 24 := rfl
      rw [List.drop_eq_getElem_cons (by omega), ht, List.getD_eq_getElem?_getD, List.getElem?_eq_getElem (by omega)]
      rfl
    rw [← ht] at hc hl
    have cs := starts_any s p hp hs t hl
    have HD := hide hdr
    generalize hW : w.alloc (.cells sgA 9) = W at *
    generalize hG : w.heap.size = G at *
    clear hdr ht
    have HW := hide hW
    have HG := hide hG
    clear hW hG
    generalize hb : stB s p t = b at cs
    have HBB := hide hb
    clear hb
    cases b
    · go_wp2_with (go_at_call 46; refine (cs _).mono ?_; rintro e w' ⟨rfl, rfl⟩)
      have hm := HM.out
      refine ⟨24 - (i + 1), by omega, by rw [HW.out], i + 1, by rw [HG.out]; rfl, by omega, ?_, rfl⟩
      rw [HF.out, HD.out, List.find?_cons, HBB.out]
    · go_wp2_with (go_at_call 46; refine (cs _).mono ?_; rintro e w' ⟨rfl, rfl⟩)
      have hx := HF.out
      rw [HD.out, List.find?_cons, HBB.out] at hx
      rw [sg_some hx]
      go_ret
      exact ⟨rfl, by rw [HG.out]; exact HB.out⟩
  · obtain rfl : i = 24 := by omega
    have hx := HF.out
    have hx2 : sgs.find? (stB s p) = none := hx
    have HX := hide hx2
    clear hx hx2
    go_wp2
    rw [sg_none HX.out]
    go_ret
    exact ⟨rfl, HB.out⟩
end Go.Proofs.YtaaiogfbohndaaaDoor
