import Derived.Test.YtafmiolehlagkaaGreatGm6
import Derived.Test.YtafmiolehlagkaaGreatTBase
import Derived.Test.YtafmiolehlagkaaGreatTCol
import Derived.Test.YtafmiolehlagkaaGreatWParts
import Derived.Test.YtafmiolehlagkaaGreatWMath
import Derived.Test.YtafmiolehlagkaaGreatIPool
import Derived.Test.YtafmiolehlagkaaGreatPSize
/-
  A4, THERE AND BACK, AS PLAIN MATHEMATICS: runs, and the whole row. No program in this text.
-/
namespace Go.Proofs.YtafmiolehlagkaaGreat.Pak
open Go.RowKit
set_option maxRecDepth 100000

/-! ### Runs: (number, how often) -/
def expand (rl : List (Int × Nat)) : List Int := rl.flatMap fun r => List.replicate r.2 r.1
def encR (rl : List (Int × Nat)) : List UInt8 := rl.flatMap fun r => Lib.uvarint r.2 ++ Rw.ivar r.1
/-- Runs that may stand behind 'last'. -/
def Valid : Option Int → List (Int × Nat) → Prop
  | _, [] => True
  | last, r :: t => last ≠ some r.1 ∧ r.2 ≠ 0 ∧ Valid (some r.1) t
def goR : Rw.RunsAt → List Int → Rw.RunsAt
  | s, [] => s
  | s, z :: r => if r.head? = some z then goR ⟨s.bytes, s.count, s.len + 1⟩ r else goR ⟨s.bytes ++ (Lib.uvarint (s.len + 1) ++ Rw.ivar z), s.count + 1, 0⟩ r

theorem goR_to (l : List Int) : ∀ (m k : Nat), m = l.length - k → k ≤ l.length → goR (Rw.runsTo l k) (l.drop k) = Rw.runsTo l l.length
  | 0, k, hm, hk => by
    have e : k = l.length := by omega
    subst e
    rw [List.drop_length]
    rfl
  | m + 1, k, hm, hk => by
    have hlt : k < l.length := by omega
    rw [← goR_to l m (k + 1) (by omega) (by omega), List.drop_eq_getElem_cons hlt]
    have hgd : l.getD k 0 = l[k] := by rw [List.getD_eq_getElem?_getD, List.getElem?_eq_getElem hlt]; rfl
    have he : Rw.ends l k = !decide ((l.drop (k + 1)).head? = some l[k]) := by
      unfold Rw.ends
      rw [List.head?_drop, hgd]
      by_cases hl : k + 1 = l.length
      · rw [List.getElem?_eq_none (by omega)]
        simp [hl]
      · rw [List.getD_eq_getElem?_getD, List.getElem?_eq_getElem (by omega), show (k + 1 == l.length) = false by simp [hl], Bool.false_or]
        simp only [Option.getD_some, Option.some.injEq]
        by_cases hx : l[k] = l[k + 1]
        · rw [hx, bne_self_eq_false, decide_eq_true rfl]
          rfl
        · rw [bne_iff_ne.2 hx, decide_eq_false (fun e => hx e.symm)]
          rfl
    rw [goR, Rw.runsTo, he]
    by_cases hx : (l.drop (k + 1)).head? = some l[k]
    · rw [if_pos hx, if_neg (by rw [decide_eq_true hx]; simp)]
    · rw [if_neg hx, if_pos (by rw [decide_eq_false hx]; rfl), hgd]
theorem runs_goR (l : List Int) : Rw.runsTo l l.length = goR ⟨[], 0, 0⟩ l := by
  have := goR_to l l.length 0 (by omega) (Nat.zero_le _)
  rw [List.drop_zero] at this
  exact this.symm
theorem goR_run (z : Int) (rest : List Int) (hr : rest.head? ≠ some z) : ∀ (n : Nat) (s : Rw.RunsAt), goR s (List.replicate (n + 1) z ++ rest) = goR ⟨s.bytes ++ (Lib.uvarint (s.len + n + 1) ++ Rw.ivar z), s.count + 1, 0⟩ rest
  | 0, s => by
    show goR s (z :: rest) = _
    rw [goR, if_neg hr]
  | n + 1, s => by
    rw [List.replicate_succ, List.cons_append, goR, if_pos (by rw [List.replicate_succ]; rfl), goR_run z rest hr n]
    simp only
    rw [show s.len + 1 + n + 1 = s.len + (n + 1) + 1 by omega]
theorem expand_head {last : Int} {rl : List (Int × Nat)} (h : Valid (some last) rl) : (expand rl).head? ≠ some last := by
  cases rl with
  | nil => simp [expand]
  | cons r t =>
    obtain ⟨h1, h2, _⟩ := h
    obtain ⟨m, hm⟩ : ∃ m, r.2 = m + 1 := ⟨r.2 - 1, by omega⟩
    simp only [expand, List.flatMap_cons, hm, List.replicate_succ, List.cons_append, List.head?_cons]
    exact fun e => h1 e.symm
theorem goR_expand : ∀ (rl : List (Int × Nat)) (last : Option Int) (bs : List UInt8) (c : Nat), Valid last rl → goR ⟨bs, c, 0⟩ (expand rl) = ⟨bs ++ encR rl, c + rl.length, 0⟩
  | [], _, bs, c, _ => by simp [expand, encR, goR]
  | r :: t, last, bs, c, h => by
    obtain ⟨h1, h2, h3⟩ := h
    obtain ⟨m, hm⟩ : ∃ m, r.2 = m + 1 := ⟨r.2 - 1, by omega⟩
    have e : expand (r :: t) = List.replicate (m + 1) r.1 ++ expand t := by simp [expand, hm]
    rw [e, goR_run r.1 (expand t) (expand_head h3) m, goR_expand t (some r.1) _ _ h3]
    simp only [encR, List.flatMap_cons, hm, Nat.zero_add, List.append_assoc, List.length_cons]
    rw [show c + 1 + t.length = c + (t.length + 1) by omega]
theorem runsB_expand {rl : List (Int × Nat)} (h : Valid none rl) : Rw.runsB (expand rl) = Lib.uvarint rl.length ++ encR rl := by
  unfold Rw.runsB
  rw [runs_goR, goR_expand rl none [] 0 h]
  simp
theorem rle : ∀ zs : List Int, ∃ rl, zs = expand rl ∧ Valid none rl
  | [] => ⟨[], rfl, trivial⟩
  | z :: r => by
    obtain ⟨rl, e, hv⟩ := rle r
    cases rl with
    | nil => exact ⟨[(z, 1)], by rw [e]; rfl, by simp, by simp, trivial⟩
    | cons p t =>
      obtain ⟨_, h2, h3⟩ := hv
      by_cases hp : p.1 = z
      · refine ⟨(z, p.2 + 1) :: t, ?_, by simp, by simp, hp ▸ h3⟩
        rw [e]
        simp [expand, List.replicate_succ, hp]
      · refine ⟨(z, 1) :: p :: t, ?_, by simp, by simp, ?_, h2, h3⟩
        · rw [e]; simp [expand]
        · simpa using fun e => hp e.symm

theorem runs_put : ∀ (rl : List (Int × Nat)) (last : Option Int) (b : List UInt8), Valid last rl → (∀ r ∈ rl, r.2 < 18446744073709551616 ∧ Rw.Fits r.1) → Rd.runs rl.length (expand rl).length last (encR rl ++ b) = some (expand rl, (encR rl).length)
  | [], last, b, _, _ => by simp [Rd.runs, expand, encR]
  | r :: t, last, b, h, hf => by
    obtain ⟨h1, h2, h3⟩ := h
    obtain ⟨f1, f2⟩ := hf r List.mem_cons_self
    have e1 : encR (r :: t) ++ b = Lib.uvarint r.2 ++ (Rw.ivar r.1 ++ (encR t ++ b)) := by simp [encR]
    have g1 := getN_put f1 (Rw.ivar r.1 ++ (encR t ++ b))
    have g2 := getN_ivar f2 (encR t ++ b)
    have p1 := Lib.uvarint_pos r.2
    have p2 : 1 ≤ (Rw.ivar r.1).length := Lib.uvarint_pos _
    have el : (expand (r :: t)).length = r.2 + (expand t).length := by simp [expand]
    rw [e1, List.length_cons, Rd.runs, g1]
    simp only
    rw [if_neg (by rw [el]; omega), List.drop_left, g2]
    simp only
    rw [if_neg (by
      intro hc
      rcases hc with hc | hc
      · omega
      · rw [Dec.unzig_zigzag] at hc; exact h1 hc), Dec.unzig_zigzag]
    have e2 : (Lib.uvarint r.2 ++ (Rw.ivar r.1 ++ (encR t ++ b))).drop ((Lib.uvarint r.2).length + (Rw.ivar r.1).length) = encR t ++ b := by
      rw [← List.append_assoc]
      exact List.drop_left' (by simp)
    rw [e2, el, Nat.add_sub_cancel_left, runs_put t (some r.1) b h3 (fun x hx => hf x (List.mem_cons_of_mem _ hx))]
    simp [expand, encR, Nat.add_assoc]
theorem expand_counts {rl : List (Int × Nat)} {r : Int × Nat} (h : r ∈ rl) : r.2 ≤ (expand rl).length := by
  induction rl with
  | nil => simp at h
  | cons p t ih =>
    have el : (expand (p :: t)).length = p.2 + (expand t).length := by simp [expand]
    rcases List.mem_cons.1 h with rfl | h
    · omega
    · have := ih h
      omega
theorem expand_mem {rl : List (Int × Nat)} {r : Int × Nat} (h : r ∈ rl) (h0 : r.2 ≠ 0) : r.1 ∈ expand rl := by
  simp only [expand, List.mem_flatMap]
  exact ⟨r, h, by rw [List.mem_replicate]; exact ⟨h0, rfl⟩⟩
theorem valid_counts : ∀ {last : Option Int} {rl : List (Int × Nat)}, Valid last rl → ∀ r ∈ rl, r.2 ≠ 0
  | _, [], _, r, h => by simp at h
  | _, p :: t, hv, r, h => by
    obtain ⟨_, h2, h3⟩ := hv
    rcases List.mem_cons.1 h with rfl | h
    · exact h2
    · exact valid_counts h3 r h
theorem valid_length {last : Option Int} {rl : List (Int × Nat)} (h : Valid last rl) : rl.length ≤ (expand rl).length := by
  induction rl generalizing last with
  | nil => simp
  | cons p t ih =>
    obtain ⟨_, h2, h3⟩ := h
    have := ih h3
    have el : (expand (p :: t)).length = p.2 + (expand t).length := by simp [expand]
    simp only [List.length_cons]
    omega

/-! ### A form -/
theorem form_put {zs : List Int} (h : Rw.AllFit zs) (hl : zs.length ≤ 1048576) {f : Nat} (hf : f ≤ 2) (b : List UInt8) : Rd.form (Rw.formB zs f ++ b) f zs.length = some (zs, (Rw.formB zs f).length) := by
  by_cases h2 : f = 2
  · subst h2
    obtain ⟨rl, rfl, hv⟩ := rle zs
    have hb : Rw.formB (expand rl) 2 = Lib.uvarint rl.length ++ encR rl := by unfold Rw.formB; rw [if_pos rfl, runsB_expand hv]
    have hc := valid_length hv
    have p1 := Lib.uvarint_pos rl.length
    unfold Rd.form
    rw [if_pos rfl, hb, List.append_assoc, getN_put (by omega)]
    simp only
    rw [if_neg (by omega), List.drop_left, runs_put rl none b hv (fun r hr => ⟨by have := expand_counts hr; omega, h _ (expand_mem hr (valid_counts hv r hr))⟩)]
    simp
  · have hb : Rw.formB zs f = flat (ent zs f) := by unfold Rw.formB; rw [if_neg h2, bodyTo_eq]; rfl
    unfold Rd.form
    rw [if_neg h2, hb]
    have := nums_put (ent zs f) b (ent_fit h f)
    rw [ent_length] at this
    rw [this]
    rcases (show f = 0 ∨ f = 1 by omega) with rfl | rfl
    · simp [ent_zero]
    · simp [sums_steps h]
/-! ### The row -/
theorem best_byte (zs : List Int) : (UInt8.ofNat (Rw.best zs)).toNat = Rw.best zs := by
  have := Rw.best_le zs
  simp [UInt8.toNat_ofNat']
  omega
end Go.Proofs.YtafmiolehlagkaaGreat.Pak

/-
  World: Load, what is read of what Snapshot writes, as plain mathematics.
-/
namespace Go.Proofs.YtafmiolehlagkaaGreat.Pak
open Go.RowKit
set_option maxRecDepth 100000
theorem row_put2 {zs : List Int} (h : Rw.AllFit zs) (hl : zs.length ≤ 100000) (most : Nat) (hm : zs.length ≤ most) (b : List UInt8) : Rd.row (Rw.rowB zs ++ b) (most : Int) = (zs, (Rw.rowB zs).length) := by
  by_cases h0 : zs.length = 0
  · obtain rfl : zs = [] := List.eq_nil_of_length_eq_zero h0
    have hu : Lib.uvarint 0 = [0] := Lib.uvarint_small (by omega)
    have hg := getN_put (n := 0) (by omega) b
    rw [hu] at hg
    have hr : Rw.rowB [] = [0] := rfl
    unfold Rd.row
    rw [hr, hg]
    simp only [List.length_cons, List.length_nil]
    rw [if_neg (by omega), if_pos trivial]
  · have hr : Rw.rowB zs = Lib.uvarint zs.length ++ (UInt8.ofNat (Rw.best zs) :: Rw.formB zs (Rw.best zs)) := by unfold Rw.rowB; rw [if_neg h0]
    have hg := getN_put (n := zs.length) (by omega) ((UInt8.ofNat (Rw.best zs) :: Rw.formB zs (Rw.best zs)) ++ b)
    have p1 := Lib.uvarint_pos zs.length
    unfold Rd.row
    rw [hr, List.append_assoc, hg]
    simp only
    generalize hU : Lib.uvarint zs.length = U at *
    have e1 : (U ++ (UInt8.ofNat (Rw.best zs) :: Rw.formB zs (Rw.best zs) ++ b)).getD U.length 0 = UInt8.ofNat (Rw.best zs) := by
      rw [List.getD_eq_getElem?_getD, List.getElem?_append_right (Nat.le_refl _)]
      simp
    have e2 : (U ++ (UInt8.ofNat (Rw.best zs) :: Rw.formB zs (Rw.best zs) ++ b)).drop (U.length + 1) = Rw.formB zs (Rw.best zs) ++ b := by
      rw [List.drop_append]
      simp
    have hb := Rw.best_le zs
    rw [if_neg (by omega), if_neg h0, e1, best_byte, e2, form_put h (by omega) hb b, if_neg (by simp; omega)]
    simp
    omega
theorem row_pos (zs : List Int) : 0 < (Rw.rowB zs).length := by
  unfold Rw.rowB
  split
  · simp
  · simp
    omega
theorem and_none : ∀ n : Fin 13, ∀ i : Fin 14, 1 ≤ i.val → i.val ≤ n.val → (2 ^ (n.val + 1) - 2).testBit i.val = true := by decide +kernel
theorem all_lt {n : Nat} (h : n ≤ 12) : 2 ^ (n + 1) - 2 < 8192 := by
  have : 2 ^ (n + 1) ≤ 2 ^ 13 := Nat.pow_le_pow_right (by omega) (by omega)
  have e : 2 ^ 13 = 8192 := by decide
  omega
/-- A set of some of n kinds has nothing else. -/
theorem set_within {n s : Nat} (hn : n ≤ 12) (hs : ∀ k, s.testBit k = true → 1 ≤ k ∧ k ≤ n) : s &&& (18446744073709551615 - (2 ^ (n + 1) - 2)) = 0 := by
  refine Nat.eq_of_testBit_eq (fun i => ?_)
  have hx := all_lt hn
  have e : 18446744073709551615 - (2 ^ (n + 1) - 2) = 2 ^ 64 - ((2 ^ (n + 1) - 2) + 1) := by omega
  rw [Nat.testBit_and, e, Nat.testBit_two_pow_sub_succ (by omega), Nat.zero_testBit]
  cases hb : s.testBit i
  · simp
  · have := hs i hb
    rw [and_none ⟨n, by omega⟩ ⟨i, by omega⟩ this.1 this.2]
    simp
end Go.Proofs.YtafmiolehlagkaaGreat.Pak

/-
  World: the reader of bytes: skip.
-/
namespace Go.Proofs.YtafmiolehlagkaaGreat
open Go.RowKit
set_option maxRecDepth 100000
theorem bs_cut {w : World} {g o c : Nat} {l : List UInt8} (hc : ∀ j (hj : j < l.length), w.cell? ⟨g, o + j, none⟩ = some (.int .u8 (l[j]).toNat)) (hlc : l.length ≤ c) (hm : c ≤ maxLen) {k : Nat} (hk : k ≤ l.length) : Pak.Bs w (.slice (some ⟨g, o + k, none⟩) (l.length - k) (c - k)) (l.drop k) := by
  have := Pak.Bs.row (w := w) (g := g) (o := o + k) (c := c - k) (l := l.drop k) (by simp; omega) (by omega) (fun j hj => by
    simp at hj
    have := hc (k + j) (by omega)
    rw [← Nat.add_assoc] at this
    rw [this]
    simp)
  rwa [List.length_drop] at this
theorem bs_end {w : World} {g o c : Nat} {l : List UInt8} (hlc : l.length ≤ c) {k : Nat} (hk : k ≤ l.length) (hkc : k = c) : Pak.Bs w (.slice (some ⟨g, o, none⟩) (l.length - k) 0) (l.drop k) := by
  have e : l.drop k = [] := List.drop_eq_nil_of_le (by omega)
  rw [e, show l.length - k = 0 by omega]
  exact ⟨some ⟨g, o, none⟩, 0, rfl, Nat.le_refl _, Nat.zero_le _, fun j hj => absurd hj (by simp)⟩
/-- A reader, all well so far: what it has still to read; the bytes lie below B. -/
def Rb (w : World) (B k : Nat) (l : List UInt8) : Prop :=
  B ≤ k ∧ ∃ v, w.heap[k]? = some (.cells #[v, .bool false] 126 (0, 0)) ∧ Pak.Bs w v l ∧ ∀ j, v.ownBlock = some j → j < B
theorem Bs.mv {w w' : World} {v : Value} {l : List UInt8} {S : Nat → Prop} (h : Pak.Bs w v l) (hm : Mv w w' S) (hs : ∀ j, v.ownBlock = some j → ¬ S j) : Pak.Bs w' v l := by
  obtain ⟨ao, c, rfl, h1, h2, h3⟩ := h
  refine ⟨ao, c, rfl, h1, h2, fun j hj => ?_⟩
  obtain ⟨g, o, rfl, hc⟩ := h3 j hj
  exact ⟨g, o, rfl, hm.cell hc (hs g rfl)⟩
theorem Rb.mv {w w' : World} {B k : Nat} {l : List UInt8} {S : Nat → Prop} (h : Rb w B k l) (hm : Mv w w' S) (hs : ∀ j, S j → B ≤ j ∧ j ≠ k) : Rb w' B k l := by
  obtain ⟨h1, v, h2, h3, h4⟩ := h
  refine ⟨h1, v, hm.at h2 (fun e => (hs k e).2 rfl), Bs.mv h3 hm (fun j e e2 => ?_), h4⟩
  have := (hs j e2).1
  have := h4 j e
  omega
theorem Rb.later {w w' : World} {B k : Nat} {l : List UInt8} (h : Rb w B k l) (hb : Below w.heap.size w w') : Rb w' B k l := h.mv (Mv.of_below hb (fun _ => False)) (fun _ e => e.elim)
theorem Rb.lt {w : World} {B k : Nat} {l : List UInt8} (h : Rb w B k l) : k < w.heap.size := by
  obtain ⟨h1, v, h2, -⟩ := h
  exact lt_of_block h2
theorem Rb.cut {w : World} {B k : Nat} {l : List UInt8} {v v' : Value} (hB : B ≤ k) (hk : w.heap[k]? = some (.cells #[v, .bool false] 126 (0, 0))) (hv : Pak.Bs w v' l) (hj : ∀ j, v'.ownBlock = some j → j < B) : Rb ((w.setCell ⟨k, 1, none⟩ (.bool false)).setCell ⟨k, 0, none⟩ v') B k l ∧ Mv w ((w.setCell ⟨k, 1, none⟩ (.bool false)).setCell ⟨k, 0, none⟩ v') (fun j => j = k) := by
  have hm : Mv w ((w.setCell ⟨k, 1, none⟩ (.bool false)).setCell ⟨k, 0, none⟩ v') (fun j => j = k) := ((Mv.refl w (fun j => j = k)).set (g := k) rfl _ _).set (g := k) rfl _ _
  refine ⟨⟨hB, v', ?_, Bs.mv hv hm (fun j e e2 => ?_), hj⟩, hm⟩
  · rw [heap_setCell_same _ k 0 _ 126 _ (heap_setCell_same w k 1 _ 126 (.bool false) hk)]
    rfl
  · have := hj j e
    omega
set_option maxHeartbeats 2000000 in
theorem skip_any (w : World) (B k : Nat) (l : List UInt8) (h : Rb w B k l) (n : Nat) (h1 : 1 ≤ n) (h2 : n ≤ l.length) :
    Calls Tryz.prog 129 #[.pointer (some ⟨k, 0, none⟩), .int .i64 (n : Int)] w fun e w' => e = .returned (.tuple #[]) ∧ Rb w' B k (l.drop n) ∧ Mv w w' (fun j => j = k) := by
  obtain ⟨hB, v, hk, hv, hj⟩ := h
  rcases hv.parts with ⟨ao, c, rfl, rfl⟩ | ⟨g, o, c, rfl, h0, hlc, hm, hc⟩
  · simp at h2; omega
  have HV := hide hv
  have HK := hide hk
  have hgB := hj g rfl
  have c0 : w.cell? ⟨k, 0, none⟩ = some (.slice (some ⟨g, o, none⟩) l.length c) := by rw [cell_of_row w k _ _ 126 (0, 0) hk]; rfl
  have c1 : w.cell? ⟨k, 1, none⟩ = some (.bool false) := by rw [cell_of_row w k _ _ 126 (0, 0) hk]; rfl
  have f0 : w.frozen? ⟨k, 0, none⟩ = false := frozen_of_row w k 0 _ 126 hk
  have f1 : w.frozen? ⟨k, 1, none⟩ = false := frozen_of_row w k 1 _ 126 hk
  have z0 : ((n : Int) == 0) = false := by simp; omega
  have HM := hide hm
  unfold maxLen at hm
  have HC := hide hc
  clear hc hk hv hj
  have z1 : ¬ (n : Int) < 0 := by omega
  have hk1 := heap_setCell_same w k 1 _ 126 (.bool false) HK.out
  have d0 : (w.setCell ⟨k, 1, none⟩ (.bool false)).cell? ⟨k, 0, none⟩ = some (.slice (some ⟨g, o, none⟩) l.length c) := by rw [cell_of_row _ k _ _ 126 (0, 0) hk1]; rfl
  have e0 : (w.setCell ⟨k, 1, none⟩ (.bool false)).frozen? ⟨k, 0, none⟩ = false := frozen_of_row _ k 0 _ 126 hk1
  have HK1 := hide hk1
  clear hk1
  by_cases hnc : n = c
  · subst hnc
    go_enter Tryz.func129, Tryz.ntmps129
    go_wp2_with fail
    go_end0
    obtain ⟨q1, q2⟩ := Rb.cut (l := l.drop n) hB HK.out (v' := .slice (some ⟨g, o, none⟩) 0 0) (by
      have := bs_end (w := w) (g := g) (o := o) hlc h2 rfl
      rwa [show l.length - n = 0 by omega] at this) (fun j e => by cases e; exact hgB)
    exact ⟨rfl, q1, q2⟩
  · have hnc' : ¬ (n : Int) = c := by omega
    go_enter Tryz.func129, Tryz.ntmps129
    go_wp2_with fail
    go_end0
    obtain ⟨q1, q2⟩ := Rb.cut (l := l.drop n) hB HK.out (bs_cut HC.out hlc HM.out h2) (fun j e => by cases e; exact hgB)
    exact ⟨rfl, q1, q2⟩
end Go.Proofs.YtafmiolehlagkaaGreat

/-
  World: the reader of bytes: set.
-/
namespace Go.Proofs.YtafmiolehlagkaaGreat
open Go.RowKit
set_option maxRecDepth 100000
set_option maxHeartbeats 2000000 in
theorem setr_any (w : World) (B k s n : Nat) (l : List UInt8) (h : Rb w B k (Lib.uvarint s ++ l)) (hn : n ≤ 12) (hs : ∀ j, s.testBit j = true → 1 ≤ j ∧ j ≤ n) (hs2 : s < 8192) :
    Calls Tryz.prog 132 #[.pointer (some ⟨k, 0, none⟩), .int .i64 (n : Int)] w fun e w' => e = .returned (.int .i64 (s : Int)) ∧ Rb w' B k l ∧ Mv w w' (fun j => j = k) := by
  have hg := Pak.getN_put (n := s) (by omega) l
  have hp := Lib.uvarint_pos s
  have J2 := skip_any w B k _ h (Lib.uvarint s).length hp (by simp)
  rw [List.drop_left] at J2
  obtain ⟨hB, v, hk, hv, hj⟩ := h
  have J1 := Pak.get_any v _ w hv
  rw [hg] at J1
  dsimp only at J1
  have c0 : w.cell? ⟨k, 0, none⟩ = some v := by rw [cell_of_row w k _ _ 126 (0, 0) hk]; rfl
  have hz : (bits BinOp.andNot IntKind.u64 (s : Int) (IntKind.u64.wrap (IntKind.u64.wrap (2 ^ (n + 1)) - 2)) != 0) = false := by
    have hx := Pak.all_lt hn
    have e1 : ((2 : Int) ^ (n + 1)) = ((2 ^ (n + 1) : Nat) : Int) := by simp
    have e2 : 2 ≤ 2 ^ (n + 1) := by have := Nat.pow_le_pow_right (n := 2) (by omega) (show 1 ≤ n + 1 by omega); omega
    have e3 : IntKind.u64.wrap (IntKind.u64.wrap (2 ^ (n + 1)) - 2) = ((2 ^ (n + 1) - 2 : Nat) : Int) := by
      rw [e1, IntKind.wrap_u64, IntKind.wrap_u64]
      omega
    rw [e3, u64_andNot_nat s _ (by omega) (by omega), Pak.set_within hn hs]
    rfl
  have H1 := hide J1
  have H2 := hide J2
  generalize Lib.uvarint s = u at *
  clear J1 J2 hg hp hk hv hj hs
  go_enter Tryz.func132, Tryz.ntmps132
  go_wp2_with fail
  refine H1.out.mono ?_
  rintro e w1 ⟨rfl, rfl⟩
  go_wp2_with fail
  refine H2.out.mono ?_
  rintro e w2 ⟨rfl, hr⟩
  have HR := hide hr
  clear hr
  go_wp2_with fail
  go_ret
  exact ⟨rfl, HR.out⟩
end Go.Proofs.YtafmiolehlagkaaGreat

/-
  World: the reader of bytes: values.
-/
namespace Go.Proofs.YtafmiolehlagkaaGreat
open Go.RowKit
set_option maxRecDepth 100000
theorem val_step (vals : List Int) (l : List UInt8) (j : Nat) (hj : j < vals.length) : (vals.drop j).flatMap Pak.Rw.ivar ++ l = Pak.Rw.ivar vals[j] ++ ((vals.drop (j + 1)).flatMap Pak.Rw.ivar ++ l) := by
  rw [List.drop_eq_getElem_cons hj, List.flatMap_cons, List.append_assoc]
theorem ivar_pos (z : Int) : 0 < (Pak.Rw.ivar z).length := Lib.uvarint_pos _
set_option maxHeartbeats 2000000 in
theorem values_any (w : World) (B k : Nat) (vals : List Int) (l : List UInt8) (h : Rb w B k (vals.flatMap Pak.Rw.ivar ++ l)) (hf : Pak.Rw.AllFit vals) (hl : vals.length ≤ 100000) :
    Calls Tryz.prog 134 #[.pointer (some ⟨k, 0, none⟩), .int .i64 (vals.length : Int)] w fun e w' => e = .returned (.slice (some ⟨w.heap.size, 0, none⟩) vals.length vals.length) ∧ w'.ownsRow w.heap.size 2 1 (.slice (some ⟨w.heap.size, 0, none⟩) vals.length vals.length) vals.length (zc vals) ∧ Rb w' B k l ∧ Mv w w' (fun j => j = k) := by
  obtain ⟨i0, hi0, hz0, hz1, hz2⟩ := info_parts info2
  have hkw := h.lt
  obtain ⟨n, hn⟩ : ∃ n, n = vals.length := ⟨_, rfl⟩
  have HN := hide hn
  have H := hide h
  have HF := hide hf
  rw [← hn] at hl ⊢
  clear h hf hn
  go_enter Tryz.func134, Tryz.ntmps134
  go_wp2_with (at_make; refine wpList_make_full _ rfl _ _ 30 rfl w.heap.size 2 i0 (.int .i64 0) 1 Tryz.underlying30 hi0 hz0 hz1 .i64 .i64 _ _ n rfl rfl ?c1 ?c2 ?c3 ?c4 ?c5 ?_)
  case c1 => omega
  case c2 => omega
  case c3 => rw [hz2]; omega
  case c4 => unfold maxLen; omega
  case c5 => omega
  intro w1 hown hgrow
  rw [toList_madeCells_one] at hown
  have hb1 : Below w.heap.size w w1 := (Below.refl _ _).grown hgrow (Nat.le_refl _) (by intro k hk; cases hk)
  have HM1 : Hid (Mv w w1 (fun j => j = k)) := Mv.of_below hb1 _
  have HR1 : Hid (Rb w1 B k ((vals.drop 0).flatMap Pak.Rw.ivar ++ l)) := H.out.later hb1
  have HO1 : Hid (w1.ownsRow w.heap.size 2 1 (.slice (some ⟨w.heap.size, 0, none⟩) n n) n (zc (vals.take 0 ++ List.replicate (n - 0) 0))) := by
    have e : zc (vals.take 0 ++ List.replicate (n - 0) 0) = List.replicate n (.int .i64 0) := by simp [zc]
    rw [e]
    exact hown
  clear hown hgrow hb1 H
  obtain ⟨ko, hko⟩ : ∃ k, k = w.heap.size := ⟨_, rfl⟩
  rw [show (Value.slice (some ⟨w.heap.size, 0, none⟩) n n) = .slice (some ⟨ko, 0, none⟩) n n by rw [hko]] at HO1
  rw [← hko] at hkw ⊢
  have HK : Hid (ko = w.heap.size) := hko
  have hne : ko ≠ k := by omega
  clear hko
  go_wp2_with fail
  go_loopw [13] (fun v13 W => ∃ j : Nat, j ≤ n ∧ v13 = .int .i64 (j : Int) ∧ Hid (W.ownsRow w.heap.size 2 1 (.slice (some ⟨ko, 0, none⟩) n n) n (zc (vals.take j ++ List.replicate (n - j) 0))) ∧ Hid (Rb W B k ((vals.drop j).flatMap Pak.Rw.ivar ++ l)) ∧ Hid (Mv w W (fun j => j = k))) (fun v13 _ => n - (intOf v13).toNat)
  case atStart => exact ⟨0, Nat.zero_le _, rfl, HO1, HR1, HM1⟩
  case round =>
    clear HO1 HR1 HM1
    obtain ⟨j, hjl, rfl, HO, HR, HM⟩ := hrel
    by_cases hj : j < n
    · have t1 : (j : Int) < (n : Int) := by omega
      have hjv : j < vals.length := by have := HN.out; omega
      have hr := HR.out
      rw [val_step vals l j hjv] at hr
      have hfx := HF.out _ (List.getElem_mem hjv)
      have JS := skip_any wr B k _ hr (Pak.Rw.ivar vals[j]).length (ivar_pos _) (by simp)
      rw [List.drop_left] at JS
      obtain ⟨-, v, hk, hv, -⟩ := hr
      have JG := Pak.getInt_any v _ wr hv
      rw [Pak.getN_ivar hfx] at JG
      dsimp only at JG
      rw [Pak.Dec.unzig_zigzag] at JG
      have c0 : wr.cell? ⟨k, 0, none⟩ = some v := by rw [cell_of_row wr k _ _ 126 (0, 0) hk]; rfl
      have H1 := hide JG
      have H2 := hide JS
      have hx : vals[j]? = some vals[j] := by simp [hjv]
      have HX := hide hx
      generalize vals[j] = x at *
      generalize (Pak.Rw.ivar x).length = u at *
      clear JG JS hk hv hfx hx
      go_wp2_with fail
      refine H1.out.mono ?_
      rintro e w1 ⟨rfl, rfl⟩
      go_wp2_with fail
      refine H2.out.mono ?_
      rintro e w2 ⟨rfl, hr2, hm2⟩
      have ho2 := hm2.own HO.out (fun q e e2 => by cases e; exact hne e2)
      have eo : w2.cell? ⟨ko, j, none⟩ = some (.int .i64 0) := by
        rw [ho2.cellAt j (by omega)]
        exact fill_at _ _ _ HN.out.symm hj
      have ef := ho2.frozenAt j
      have hst := (ho2.stored j (.int .i64 x)).1
      rw [zc_set, fill_set _ _ _ _ HN.out.symm hj HX.out] at hst
      have HST := hide hst
      have hm3 : Mv w2 (w2.setCell ⟨ko, j, none⟩ (.int .i64 x)) (fun q => q = ko) := (Mv.refl w2 (fun q => q = ko)).set (g := ko) rfl _ _
      have HR3 : Hid (Rb (w2.setCell ⟨ko, j, none⟩ (.int .i64 x)) B k ((vals.drop (j + 1)).flatMap Pak.Rw.ivar ++ l)) := hr2.mv hm3 (fun q e => by
        have := hr2.1
        have := hr2.lt
        omega)
      have HM3 : Hid (Mv w (w2.setCell ⟨ko, j, none⟩ (.int .i64 x)) (fun j => j = k)) := (HM.out.trans hm2 (fun _ _ e => e)).trans hm3 (fun q hq e => by
        have := HK.out
        omega)
      clear hst ho2 hr2 hm2 hm3 H1 H2
      go_wp2_with fail
      go_roundw
      case rel => exact ⟨j + 1, by omega, by go_num, HST, HR3, HM3⟩
      case measure => simp [intOf]; omega
    · obtain rfl : j = n := by omega
      have t1 : ¬ (j : Int) < (j : Int) := by omega
      have hfin : (zc (vals.take j ++ List.replicate (j - j) 0)) = zc vals := by
        rw [List.take_of_length_le (by have := HN.out; omega)]
        simp
      have hr := HO.out
      rw [hfin] at hr
      have hr2 := HR.out
      rw [List.drop_eq_nil_of_le (by have := HN.out; omega), List.flatMap_nil, List.nil_append] at hr2
      have HRF := hide hr
      have HR2 := hide hr2
      clear hr hfin HR HO hr2
      go_wp2_with fail
      go_ret
      obtain rfl := HK.out
      exact ⟨rfl, HRF.out, HR2.out, HM.out⟩
end Go.Proofs.YtafmiolehlagkaaGreat

/-
  World: Load reads one entity's parts.
-/
namespace Go.Proofs.YtafmiolehlagkaaGreat
open Go.RowKit
set_option maxRecDepth 100000
theorem Pv.mv {B : Nat} {w w' : World} {L : List Pt} {R : List (Nat × List Int)} {S : Nat → Prop} (h : Pv B w L R) (hm : Mv w w' S) (hs : ∀ j, S j → j < B) : Pv B w' L R := ⟨h.1, fun i h1 h2 => ⟨(h.2 i h1 h2).1, hm.own (h.2 i h1 h2).2 (fun j e e2 => by
  have := ((h.2 i h1 h2).2.lt j e).1
  have := hs j e2
  omega)⟩⟩
section
variable {w w' : World} {own : Nat → Nat} {gw gp gm gt M M' : Nat} {vk : Value} {ks : List Kind} {gs fr gs' fr' : List Nat} {f f' : Int × Int → Option Nat} {q q' : Nat → Option Nat} {T T' : Nat → Ts}
set_option maxHeartbeats 8000000 in
theorem read_any (h : Wx 0 w own gw vk gp gm gt M ks gs fr f q T) (hks : ks.length ≤ 12) (B k s : Nat) (row : List Int) (l : List UInt8) (hr : Rb w B k (Lib.uvarint s ++ (row.flatMap Pak.Rw.ivar ++ l))) (hk0 : own k = 0) (hsb : Sb ks s) (hs : s < 8192) (hlen : row.length = fsum ks s 1) (h48 : row.length ≤ 48) (hfit : Pak.Rw.AllFit row) :
    Calls Tryz.prog 66 #[.pointer (some ⟨gw, 0, none⟩), .pointer (some ⟨k, 0, none⟩)] w fun e w' => ∃ v, e = .returned v ∧ ∃ L, w'.ownsRow w.heap.size 32 2 v L.length (pz L) ∧ Pv w.heap.size w' L (partsL ks s 1 row) ∧ (∀ p ∈ L, p.2.1 ≠ none) ∧ Rb w' B k l ∧ Mv w w' (fun j => j = k) := by
  obtain ⟨i0, hi0, hz0, hz1, hz2⟩ := info_parts infoP
  have H := hide h
  have hkw := hr.lt
  obtain ⟨c0, c1, c2, c3⟩ := h.cells
  have hkr := h.2.2.2.1.kr
  obtain ⟨ak, ck, rfl, hk1, -⟩ := hkr
  have J0 := hide (setr_any w B k s ks.length _ hr hks hsb hs)
  have HLE := hide hlen
  have HFT := hide hfit
  have HK0 := hide hk0
  clear h hr hlen hfit hk0 hsb c1 c2 c3
  go_enter Tryz.func66, Tryz.ntmps66
  go_wp2_with fail
  refine J0.out.mono ?_
  rintro e w1 ⟨rfl, hr1, hm1⟩
  have HR1 := hide hr1
  have HM1 := hide hm1
  clear hr1 hm1 J0 c0
  go_wp2_with fail
  go_loopw [6, 7] (fun v6 v7 W => ∃ (j : Nat) (rest : List Int) (L : List Pt) (R : List (Nat × List Int)), j ≤ ks.length ∧ v7 = .int .i64 ((j + 1 : Nat) : Int) ∧ rest.length ≤ 48 ∧ Hid (partsL ks s 1 row = R ++ partsL (ks.drop j) s (j + 1) rest ∧ rest.length = fsum (ks.drop j) s (j + 1) ∧ Pak.Rw.AllFit rest) ∧ L.length ≤ j ∧ Hid (W.ownsRow w.heap.size 32 2 v6 L.length (pz L)) ∧ Hid (Pv w.heap.size W L R ∧ ∀ p ∈ L, p.2.1 ≠ none) ∧ Hid (∀ p ∈ L, Ap (ptV p) v6) ∧ Hid (Rb W B k (rest.flatMap Pak.Rw.ivar ++ l)) ∧ Hid (Mv w W (fun j => j = k))) (fun _ v7 _ => ks.length + 1 - (intOf v7).toNat)
  case atStart => exact ⟨0, row, [], [], Nat.zero_le _, rfl, h48, ⟨rfl, HLE.out, HFT.out⟩, Nat.zero_le _, World.ownsRow_nil _ _ _ _, ⟨Pv.nil _ _, fun p hp => by simp at hp⟩, fun p hp => by simp at hp, HR1, HM1⟩
  case round =>
    clear HR1 HM1
    obtain ⟨j, rest, L, R, hkl, rfl, h48, HP, hLk, HO, HV, HAp, HR, HM⟩ := hrel
    have hx := H.out.frame (L := 0) (.inl rfl) HM.out (fun q _ e => .inl (by rw [e]; exact HK0.out))
    obtain ⟨c0, -, -, -⟩ := hx.cells
    have hkr := hx.2.2.2.1.kr
    have JFd : Hid (∀ (j : Nat) (h1 : 1 ≤ j) (h2 : j ≤ ks.length), Calls Tryz.prog 89 #[.pointer (some ⟨gw, 0, none⟩), .int .i64 (j : Int)] wr fun e w' => e = .returned (.int .i64 ((ks[j - 1]'(by omega)).2.length : Int)) ∧ w' = wr) := fun j h1 h2 => fields_any hx.2.2.1 hkr j h1 h2 hks
    clear hx hkr
    by_cases hlt : j < ks.length
    · have t1 : ((j + 1 : Nat) : Int) ≤ (ks.length : Int) := by omega
      have hps := parts_step ks s j hlt rest
      have hfs := fsum_step ks s j hlt
      have JH := hide (has_any s (j + 1) wr hs (by omega))
      have JF1 := hide (JFd.out (j + 1) (by omega) (by omega))
      simp only [Nat.add_sub_cancel] at JF1
      generalize (ks[j]'hlt).2.length = m at *
      obtain ⟨K, hK⟩ : ∃ K : Int, K = ((j + 1 : Nat) : Int) := ⟨_, rfl⟩
      have t3 : IntKind.i64.wrap (K + 1) = ((j + 1 + 1 : Nat) : Int) := by rw [IntKind.wrap_i64]; omega
      rw [← hK] at t1 JH JF1 ⊢
      have HKK := hide hK
      have HPS := hide hps
      have HFS := hide hfs
      clear hK hps hfs JFd
      cases hbt : s.testBit (j + 1) with
      | false =>
        rw [hbt] at JH HPS HFS
        have hp2 := HPS.out
        have hf2 := HFS.out
        simp only [Bool.false_eq_true, if_false, Nat.zero_add] at hp2 hf2
        have HP2 := hide hp2
        have HF2 := hide hf2
        clear HPS HFS hp2 hf2 hbt JF1
        go_wp2_with fail
        refine JH.out.mono ?_
        rintro e w' ⟨rfl, rfl⟩
        go_wp2_with fail
        go_roundw
        case rel => exact ⟨j + 1, rest, L, R, by omega, by have hKK := HKK.out; subst hKK; go_num, h48, ⟨by rw [HP.out.1, HP2.out], by rw [HP.out.2.1, HF2.out], HP.out.2.2⟩, by omega, HO, HV, HAp, HR, HM⟩
        case measure => have hKK := HKK.out; simp only [intOf]; omega
      | true =>
        rw [hbt] at JH HPS HFS
        have hp2 := HPS.out
        have hf2 := HFS.out
        simp only [if_true] at hp2 hf2
        have HP2 := hide hp2
        have HF2 := hide hf2
        have hmr : m ≤ rest.length := by rw [HP.out.2.1, HF2.out]; omega
        clear HPS HFS hp2 hf2 hbt
        obtain ⟨a6, c6, rfl⟩ := own_len HO.out
        have hlm : (rest.take m).length = m := by rw [List.length_take]; omega
        have JV : Hid (Calls Tryz.prog 134 #[.pointer (some ⟨k, 0, none⟩), .int .i64 (m : Int)] wr fun e w' => e = .returned (.slice (some ⟨wr.heap.size, 0, none⟩) m m) ∧ w'.ownsRow wr.heap.size 2 1 (.slice (some ⟨wr.heap.size, 0, none⟩) m m) m (zc (rest.take m)) ∧ Rb w' B k ((rest.drop m).flatMap Pak.Rw.ivar ++ l) ∧ Mv wr w' (fun j => j = k)) := by
          have hrb := HR.out
          rw [← List.take_append_drop m rest, List.flatMap_append, List.append_assoc] at hrb
          have := values_any wr B k (rest.take m) _ hrb (fun z hz => HP.out.2.2 z (List.mem_of_mem_take hz)) (by rw [hlm]; omega)
          rw [hlm] at this
          exact this
        have HLM := hide hlm
        clear hlm
        go_wp2_with fail
        refine JH.out.mono ?_
        rintro e wr ⟨rfl, rfl⟩
        go_wp2_with fail
        refine JF1.out.mono ?_
        rintro e wr ⟨rfl, rfl⟩
        go_wp2_with fail
        refine JV.out.mono ?_
        rintro e w5 ⟨rfl, ho5, hr5, hm5⟩
        obtain ⟨ko, hko⟩ : ∃ q, q = wr.heap.size := ⟨_, rfl⟩
        rw [show (Value.slice (some ⟨wr.heap.size, 0, none⟩) m m) = .slice (some ⟨ko, 0, none⟩) m m by rw [hko]] at ho5 ⊢
        have HKO := hide hko
        have O5 := hide ho5
        have M5 := hide hm5
        have R5 := hide hr5
        have HA : Hid (∀ (v' : Value) (w' : World), w'.ownsRow w.heap.size 32 2 v' (L.length + 1) (pz L ++ [.int .i64 K, .slice (some ⟨ko, 0, none⟩) m m]) → (w5.alloc (.cells #[.int .i64 K, .slice (some ⟨ko, 0, none⟩) m m] 32)).grownBy w' (Value.slice a6 L.length c6).ownBlock → (v'.ownBlock = (Value.slice a6 L.length c6).ownBlock ∨ v'.ownBlock = some (w5.heap.size + 1)) → w'.ownsRow w.heap.size 32 2 v' (L ++ [(K, some (⟨ko, 0, none⟩ : Addr), m, m)]).length (pz (L ++ [(K, some (⟨ko, 0, none⟩ : Addr), m, m)])) ∧ (Pv w.heap.size w' (L ++ [(K, some (⟨ko, 0, none⟩ : Addr), m, m)]) (R ++ [(j + 1, rest.take m)]) ∧ ∀ p ∈ L ++ [(K, some (⟨ko, 0, none⟩ : Addr), m, m)], p.2.1 ≠ none) ∧ (∀ p ∈ L ++ [(K, some (⟨ko, 0, none⟩ : Addr), m, m)], Ap (ptV p) v') ∧ Rb w' B k ((rest.drop m).flatMap Pak.Rw.ivar ++ l) ∧ Mv w w' (fun j => j = k)) := fun v' w' g1 g2 g3 => by
          have b6 := below_alloc w5 (.cells #[.int .i64 K, .slice (some ⟨ko, 0, none⟩) m m] 32)
          have hwr := HM.out.size
          have hw5 := M5.out.size
          have q1 : ∀ j, (Value.slice a6 L.length c6).ownBlock = some j → w.heap.size ≤ j ∧ j < wr.heap.size := fun j e => HO.out.lt j e
          have q2 : ∀ j, (Value.slice (some ⟨ko, 0, none⟩) m m).ownBlock = some j → wr.heap.size ≤ j ∧ j < w5.heap.size := fun j e => O5.out.lt j e
          have q3 : ∀ p ∈ L, ∀ j, (ptV p).ownBlock = some j → j < wr.heap.size := fun p hp j e => by
            obtain ⟨n, hn, rfl⟩ := List.getElem_of_mem hp
            exact ((HV.out.1.2 n hn (by rw [← HV.out.1.1]; exact hn)).2.lt j e).2
          refine ⟨?_, ⟨?_, fun p hp => ?_⟩, ?_, (R5.out.later b6).mv ((Mv.refl _ (fun j => (Value.slice a6 L.length c6).ownBlock = some j)).grown g2 (fun j _ e => e)) (fun j e => ?_), ((HM.out.trans M5.out (fun _ _ e => e)).later b6).grown g2 (fun j hj e => ?_)⟩
          · rw [pz_append, pz_two, List.length_append]
            exact g1
          · refine Pv.push (((HV.out.1.mv M5.out (fun j e => by omega)).later b6).grown g2 (fun p hp j e e2 => HAp.out p hp j e e2)) (K, some (⟨ko, 0, none⟩ : Addr), m, m) (j + 1) (rest.take m) HKK.out ?_
            rw [HLM.out]
            exact own_kept (own_lower (own_later O5.out b6) hwr) g2 (fun j e e2 => by have h1 := q1 j e2; have h2 := q2 j e; omega)
          · rw [List.mem_append, List.mem_singleton] at hp
            rcases hp with hp | rfl
            · exact HV.out.2 p hp
            · simp
          · intro p hp j e1 e2
            rw [List.mem_append, List.mem_singleton] at hp
            rcases g3 with g3 | g3
            · rw [g3] at e2
              rcases hp with hp | rfl
              · exact HAp.out p hp j e1 e2
              · have h1 := q1 j e2
                have h2 := q2 j e1
                omega
            · rw [g3] at e2
              have e3 := Option.some.inj e2
              rcases hp with hp | rfl
              · have := q3 p hp j e1
                omega
              · have h2 := q2 j e1
                omega
          · have h1 := q1 j e
            have h2 := R5.out.1
            omega
          · have h1 := q1 j e
            omega
        have HO5 : Hid (w5.ownsRow w.heap.size 32 2 (.slice a6 L.length c6) L.length (pz L)) := M5.out.own HO.out (fun j e e2 => by have := (HO.out.lt j e).1; omega)
        have hs5 : w.heap.size ≤ w5.heap.size := Nat.le_trans HM.out.size M5.out.size
        clear JV JF1 JH ho5 hm5 hr5 hko
        go_wp2_with (at_builtin; refine wpList_append_own_at _ rfl _ _ 33 rfl w.heap.size 32 i0 (.agg #[.int .i64 0, .slice none 0 0]) 2 32 Tryz.underlying33 hi0 hz0 hz1 hz2 rfl (by decide) _ L.length (pz L) rfl (HO5.out.alloc _) ⟨w5.heap.size, 0, none⟩ 1 1 [.int .i64 K, .slice (some ⟨ko, 0, none⟩) m m] rfl rfl ?c1 ?c2 (by unfold maxLen; omega) (by omega) ?c5 ?_)
        case c1 =>
          intro j u hj
          match j, hj with
          | 0, hj => simp at hj; subst hj; simp [Addr.add]
          | 1, hj => simp at hj; subst hj; simp [Addr.add]
        case c2 =>
          intro u hu
          simp at hu
          rcases hu with rfl | rfl <;> rfl
        case c5 =>
          simp
          omega
        intro v' w' g1 g2 _ g3
        obtain ⟨r1, r2, r3, r4, r5⟩ := HA.out v' w' g1 g2 g3
        have X1 := hide r1
        have X2 := hide r2
        have X3 := hide r3
        have X4 := hide r4
        have X5 := hide r5
        clear g1 g2 g3 r1 r2 r3 r4 r5 HA
        go_wp2_with fail
        go_roundw
        case rel =>
          refine ⟨j + 1, rest.drop m, L ++ [(K, some (⟨ko, 0, none⟩ : Addr), m, m)], R ++ [(j + 1, rest.take m)], by omega, by have hKK := HKK.out; subst hKK; go_num, by rw [List.length_drop]; omega, ⟨?_, ?_, fun z hz => HP.out.2.2 z (List.mem_of_mem_drop hz)⟩, by simp; omega, X1, X2, X3, X4, X5⟩
          · rw [HP.out.1, HP2.out, List.append_assoc]
            rfl
          · have h1 := HP.out.2.1
            rw [HF2.out] at h1
            rw [List.length_drop]
            omega
        case measure => have hKK := HKK.out; simp only [intOf]; omega
    · obtain rfl : j = ks.length := by omega
      have t1 : ¬ ((ks.length + 1 : Nat) : Int) ≤ (ks.length : Int) := by omega
      have hp := HP.out
      rw [List.drop_eq_nil_of_le (Nat.le_refl _)] at hp
      have hrest : rest = [] := List.eq_nil_of_length_eq_zero hp.2.1
      subst hrest
      have hfin : partsL ks s 1 row = R := by rw [hp.1]; simp [partsL]
      have HFN := hide hfin
      clear hp hfin HP JFd
      go_wp2_with fail
      go_ret
      rw [HFN.out]
      exact ⟨_, rfl, L, HO.out, HV.out.1, fun a b c d hm => HV.out.2 (a, b, c, d) hm, HR.out, HM.out⟩
end
end Go.Proofs.YtafmiolehlagkaaGreat

/-
  All.
-/
namespace Go.Proofs.YtafmiolehlagkaaGreat
open Go.RowKit
set_option maxRecDepth 100000
def nz (p : Nat × Nat) : Bool := !(p.1 == 0 && p.2 == 0)
theorem filter_take_succ {lv : List (Nat × Nat)} {i : Nat} (h : i < lv.length) : (lv.take (i + 1)).filter nz = (lv.take i).filter nz ++ (if nz lv[i] then [lv[i]] else []) := by
  rw [List.take_add_one, List.getElem?_eq_getElem h, List.filter_append]
  simp [List.filter_cons]
set_option maxHeartbeats 2000000 in
set_option maxRecDepth 100000 in
theorem all_pm (g n : Nat) (vg vl vf : Value) (gs fr : List Nat) (lv : List (Nat × Nat)) (w : World) (h : Pm w g n vg vl vf gs fr lv) (hl : lv.length ≤ 1000000) :
    Calls Tryz.prog 65 #[.pointer (some ⟨g, 0, none⟩)] w fun e w' => ∃ v, e = .returned v ∧ w'.ownsRow w.heap.size 29 2 v (lv.filter nz).length (ec (lv.filter nz)) ∧ Below w.heap.size w w' := by
  obtain ⟨i0, hi, hz0, hz1, hz2⟩ := info_parts info41
  obtain ⟨c0, c1, c2, c3⟩ := h.cell
  obtain ⟨ao, c, rfl⟩ := own_len h.2.2.1
  obtain ⟨hc1, hc2⟩ := own_cap h.2.2.1
  have H := hide h
  clear h
  go_enter Tryz.func65, Tryz.ntmps65
  go_wp2_with fail
  clear c0 c1 c2 c3
  go_loopw [3, 11] (fun v3 v11 wr => ∃ i : Nat, i ≤ lv.length ∧ v11 = .int .i64 (i : Int) ∧ Hid (Below w.heap.size w wr) ∧ Hid (wr.ownsRow w.heap.size 29 2 v3 ((lv.take i).filter nz).length (ec ((lv.take i).filter nz)))) (fun _ v11 _ => lv.length - (intOf v11).toNat)
  case atStart => exact ⟨0, Nat.zero_le _, rfl, Below.refl _ _, World.ownsRow_nil _ _ _ _⟩
  case round =>
    obtain ⟨i, hil, rfl, HB, HO⟩ := hrel
    by_cases hlt : i < lv.length
    · have t1 : (i : Int) < (lv.length : Int) := by omega
      have hP := H.out.later HB.out
      obtain ⟨gl, c', ee, -, -⟩ := own_form hP.2.2.1 (by omega)
      simp only [Value.slice.injEq] at ee
      obtain ⟨rfl, -, rfl⟩ := ee
      obtain ⟨e1, e2⟩ := i_own_ent hP.2.2.1 i hlt
      have hs := filter_take_succ hlt
      have hsz := HB.out.size
      have hfl : ((lv.take i).filter nz).length ≤ 1000000 := Nat.le_trans (List.length_filter_le _ _) (by rw [List.length_take]; omega)
      generalize ((lv.take i).filter nz) = L at *
      generalize lv[i] = p at *
      obtain ⟨a, b⟩ := p
      obtain ⟨ao3, c3, rfl⟩ := own_len HO.out
      have HS := hide hs
      simp only at e1 e2
      clear hP hs
      cases hz : nz (a, b) with
      | false =>
        have hab : a = 0 ∧ b = 0 := by simpa [nz] using hz
        obtain ⟨rfl, rfl⟩ := hab
        go_wp2_with fail
        go_roundw
        case rel => 
          refine ⟨i + 1, by omega, by go_num, below_on HB.out (below_alloc wr _), ?_⟩
          have := HS.out
          rw [hz] at this
          rw [this]
          simpa [Hid] using own_later HO.out (below_alloc wr _)
        case measure => simp [intOf]; omega
      | true =>
        have hab : a = 0 → ¬ b = 0 := fun h1 h2 => by simp [nz, h1, h2] at hz
        have K : Hid (∀ (v' : Value) (w' : World), w'.ownsRow w.heap.size 29 2 v' (L.length + 1) (ec L ++ [.int .i64 (a : Int), .int .i64 (b : Int)]) → ((wr.alloc (.cells #[.int .i64 (a : Int), .int .i64 (b : Int)] 29)).alloc (.cells #[.int .i64 (a : Int), .int .i64 (b : Int)] 29)).grownBy w' (Value.slice ao3 L.length c3).ownBlock → Below w.heap.size w w' ∧ w'.ownsRow w.heap.size 29 2 v' ((lv.take (i + 1)).filter nz).length (ec ((lv.take (i + 1)).filter nz))) := fun v' w' h1 h2 => by
          refine ⟨(below_on (below_on HB.out (below_alloc wr _)) (below_alloc _ _)).grown h2 (by simp; omega) (fun k e => (HO.out.lt k e).1), ?_⟩
          have := HS.out
          rw [hz] at this
          rw [this, ec_append]
          simpa [ec] using h1
        by_cases ha : a = 0
        · have hb : ¬ b = 0 := hab ha
          subst ha
          clear hab
          go_wp2_with (at_builtin; refine wpList_append_lies _ rfl _ _ 39 rfl w.heap.size 29 i0 (.agg #[.int .i64 0, .int .i64 0]) 2 16 Tryz.underlying39 hi hz0 hz1 hz2 rfl (by decide) _ _ _ rfl ((HO.out.alloc _).alloc _) ⟨wr.heap.size + 1, 0, none⟩ 1 1 [.int .i64 0, .int .i64 (b : Int)] rfl rfl ?c1 ?c2 (by omega) (by unfold maxLen; omega) (by omega) ?c5 _ rfl ?_)
          case c1 =>
            intro j u hj
            match j, hj with
            | 0, hj => simp at hj; subst hj; simp [Addr.add]
            | 1, hj => simp at hj; subst hj; simp [Addr.add]
          case c2 =>
            intro u hu
            simp at hu
            rcases hu with rfl | rfl <;> rfl
          case c5 => simp; omega
          intro g9 c9 w9 h1 h2 _ _
          obtain ⟨h3, h4⟩ := K.out _ _ h1 h2
          have H3 := hide h3
          have H4 := hide h4
          clear h1 h2 h3 h4 K
          go_wp2_with fail
          go_roundw
          case rel => exact ⟨i + 1, by omega, by go_num, H3, H4⟩
          case measure => simp [intOf]; omega
        · clear hab
          go_wp2_with (at_builtin; refine wpList_append_lies _ rfl _ _ 39 rfl w.heap.size 29 i0 (.agg #[.int .i64 0, .int .i64 0]) 2 16 Tryz.underlying39 hi hz0 hz1 hz2 rfl (by decide) _ _ _ rfl ((HO.out.alloc _).alloc _) ⟨wr.heap.size + 1, 0, none⟩ 1 1 [.int .i64 (a : Int), .int .i64 (b : Int)] rfl rfl ?d1 ?d2 (by omega) (by unfold maxLen; omega) (by omega) ?d5 _ rfl ?_)
          case d1 =>
            intro j u hj
            match j, hj with
            | 0, hj => simp at hj; subst hj; simp [Addr.add]
            | 1, hj => simp at hj; subst hj; simp [Addr.add]
          case d2 =>
            intro u hu
            simp at hu
            rcases hu with rfl | rfl <;> rfl
          case d5 => simp; omega
          intro g9 c9 w9 h1 h2 _ _
          obtain ⟨h3, h4⟩ := K.out _ _ h1 h2
          have H3 := hide h3
          have H4 := hide h4
          clear h1 h2 h3 h4 K
          go_wp2_with fail
          go_roundw
          case rel => exact ⟨i + 1, by omega, by go_num, H3, H4⟩
          case measure => simp [intOf]; omega
    · obtain rfl : i = lv.length := by omega
      have ho := HO.out
      rw [List.take_length] at ho
      have HO1 := hide ho
      have t1 : ¬ (lv.length : Int) < (lv.length : Int) := by omega
      clear ho HO
      go_wp2_with fail
      go_ret
      exact ⟨_, rfl, HO1.out, HB.out⟩
theorem all_any {w : World} {S : Nat → Prop} {g n : Nat} {gs fr : List Nat} (h : Pl w S g n gs fr) :
    Calls Tryz.prog 65 #[.pointer (some ⟨g, 0, none⟩)] w fun e w' => ∃ v, e = .returned v ∧ w'.ownsRow w.heap.size 29 2 v ((lvOf gs fr).filter nz).length (ec ((lvOf gs fr).filter nz)) ∧ Below w.heap.size w w' := by
  obtain ⟨⟨vg, vl, vf, hp, _⟩, ho⟩ := h
  exact all_pm g n vg vl vf gs fr _ w hp (by rw [lvOf_len]; have := ho.2.2.1; have := ho.2.1; omega)
end Go.Proofs.YtafmiolehlagkaaGreat

/-
  World: Load: who lives, in the pool's order; what has been put so far.
-/
namespace Go.Proofs.YtafmiolehlagkaaGreat
open Go.RowKit
set_option maxRecDepth 100000
def ie (p : Nat × Nat) : Int × Int := ((p.1 : Int), (p.2 : Int))
def allL (gs fr : List Nat) : List (Nat × Nat) := (lvOf gs fr).filter nz
theorem all_mem {gs fr : List Nat} (p : Nat × Nat) (h : p ∈ allL gs fr) : ∃ i, i < gs.length ∧ on gs fr i = true ∧ p = (i, gs.getD i 0) := by
  unfold allL at h
  obtain ⟨h1, h2⟩ := List.mem_filter.1 h
  unfold lvOf at h1
  obtain ⟨i, hi, rfl⟩ := List.mem_map.1 h1
  rw [List.mem_range] at hi
  by_cases c : on gs fr i = true
  · exact ⟨i, hi, c, by rw [if_pos c]⟩
  · rw [if_neg c] at h2
    simp [nz] at h2
theorem all_rise (gs fr : List Nat) : ((allL gs fr).map ie).Pairwise (fun x y => x.1 < y.1) := by
  unfold allL lvOf
  refine List.pairwise_map.2 (List.pairwise_filter.2 (List.pairwise_map.2 (List.pairwise_lt_range.imp (fun {i j} hij => ?_))))
  intro h1 h2
  by_cases c : on gs fr i = true
  · by_cases d : on gs fr j = true
    · rw [if_pos c, if_pos d]
      simp only [ie]
      omega
    · rw [if_neg d] at h2
      simp [nz] at h2
  · rw [if_neg c] at h1
    simp [nz] at h1
theorem all_livers {gs fr : List Nat} {C : Co} (ho : Ok 200 gs fr) (hl : Lv gs fr C) : Livers (fC C) ((allL gs fr).map ie) := by
  have hr := all_rise gs fr
  refine ⟨hr.imp (fun {x y} h => by omega), hr.imp (fun {x y} h e => by rw [e] at h; omega), fun e _ => ?_, fun e he => ?_⟩
  · obtain ⟨a, b⟩ := e
    rw [fC_is, ← hl, lives_iff]
    constructor
    · rintro ⟨i, rfl, h1, h2, h3, rfl⟩
      refine List.mem_map.2 ⟨(i, gs.getD i 0), List.mem_filter.2 ⟨List.mem_map.2 ⟨i, List.mem_range.2 h1, ?_⟩, ?_⟩, rfl⟩
      · have hon : on gs fr i = true := by
          unfold on
          rw [Bool.and_eq_true, decide_eq_true_eq, Bool.not_eq_true', List.contains_eq_mem, decide_eq_false_iff_not]
          exact ⟨h2, h3⟩
        rw [if_pos hon]
      · have hm : gs.getD i 0 ∈ gs := by
          rw [List.getD_eq_getElem?_getD, List.getElem?_eq_getElem h1, Option.getD_some]
          exact List.getElem_mem h1
        have h0 := (ho.2.2.2.1 _ hm).1
        generalize gs.getD i 0 = z at *
        simp [nz]
        omega
    · intro hm
      obtain ⟨p, hp, e⟩ := List.mem_map.1 hm
      obtain ⟨i, h1, h2, rfl⟩ := all_mem p hp
      simp only [ie, Prod.mk.injEq] at e
      simp only [on, Bool.and_eq_true, decide_eq_true_eq, Bool.not_eq_true', List.contains_eq_mem, decide_eq_false_iff_not] at h2
      exact ⟨i, e.1.symm, h1, h2.1, h2.2, e.2.symm⟩
  · obtain ⟨p, hp, rfl⟩ := List.mem_map.1 he
    obtain ⟨i, h1, h2, rfl⟩ := all_mem p hp
    have := ho.2.2.1
    simp only [on, Bool.and_eq_true, decide_eq_true_eq] at h2
    simp only [ie, InB]
    omega
/-- What has been put so far. -/
def Cr (C : Co) (E : List (Int × Int)) (i : Nat) : Co := fun x => if x ∈ E.take i then C x else none
theorem cr_zero (C : Co) (E : List (Int × Int)) : Cr C E 0 = fun _ => none := by
  funext x
  simp [Cr]
theorem cr_step {C : Co} {E : List (Int × Int)} {i : Nat} (hi : i < E.length) {p : Nat × List Int} (hp : C E[i] = some p) : Cr C E (i + 1) = fun x => if x = E[i] then some p else Cr C E i x := by
  funext x
  have hm : x ∈ E.take (i + 1) ↔ x ∈ E.take i ∨ x = E[i] := by
    rw [List.take_succ_eq_append_getElem hi, List.mem_append, List.mem_singleton]
  by_cases c : x = E[i]
  · simp only [Cr]
    rw [if_pos (hm.2 (.inr c)), if_pos c, c]
    exact hp
  · simp only [Cr, if_neg c]
    by_cases d : x ∈ E.take i
    · rw [if_pos (hm.2 (.inl d)), if_pos d]
    · rw [if_neg (fun e => (hm.1 e).elim d c), if_neg d]
theorem cr_next {C : Co} {E : List (Int × Int)} {i : Nat} (hn : E.Nodup) (hi : i < E.length) : Cr C E i E[i] = none := by
  simp only [Cr]
  rw [if_neg]
  intro h
  obtain ⟨j, hj, e⟩ := List.getElem_of_mem h
  rw [List.length_take] at hj
  rw [List.getElem_take] at e
  have := nodup_at hn _ _ e
  omega
theorem cr_all {gs fr : List Nat} {C : Co} {E : List (Int × Int)} (ho : Ok 200 gs fr) (hl : Lv gs fr C) (hE : Livers (fC C) E) : Cr C E E.length = C := by
  funext x
  simp only [Cr, List.take_length]
  by_cases c : x ∈ E
  · rw [if_pos c]
  · rw [if_neg c]
    cases hx : C x with
    | none => rfl
    | some p =>
      exfalso
      obtain ⟨a, b⟩ := x
      have h1 : livesOf gs fr a b = true := by rw [hl, hx]; rfl
      have h2 := inb_of ho h1
      exact c ((hE.2.2.1 _ h2).1 (by rw [fC_is, hx]; rfl))
theorem cr_cnt {gs fr : List Nat} {C : Co} {E : List (Int × Int)} {i : Nat} (ho : Ok 200 gs fr) (hl : Lv gs fr C) (hE : Livers (fC C) E) (hi : i < E.length) (F : List (Int × Int)) (hn : F.Nodup) (hF : ∀ e ∈ F, (fC (Cr C E i) e).isSome = true) : F.length < 200 := by
  have hx := cr_next (C := C) hE.2.1 hi
  have := lives_cnt hl ho.2.2.1 (F ++ [E[i]]) (by
    rw [List.nodup_append]
    refine ⟨hn, by simp, fun x hx' y hy e => ?_⟩
    rw [List.mem_singleton.1 hy] at e
    have := hF x hx'
    rw [e, fC_is, hx] at this
    cases this) (fun x hx' => by
    rcases List.mem_append.1 hx' with h | h
    · have := hF x h
      rw [fC_is] at this ⊢
      simp only [Cr] at this
      by_cases c : x ∈ E.take i
      · rwa [if_pos c] at this
      · rw [if_neg c] at this
        cases this
    · rw [List.mem_singleton.1 h]
      exact (hE.2.2.1 _ (hE.2.2.2 _ (List.getElem_mem hi))).2 (List.getElem_mem hi))
  rw [List.length_append, List.length_singleton] at this
  omega
theorem pv_pg {B s : Nat} {W : World} {ks : List Kind} {row : List Int} {L : List Pt} (h : Pv B W L (partsL ks s 1 row)) (hr : row.length = fsum ks s 1) : Pg ks L ∧ L.map (fun p => p.1.toNat) = (partsL ks s 1 row).map (·.1) := by
  obtain ⟨h1, h2⟩ := h
  have hm : L.map (fun p => p.1.toNat) = (partsL ks s 1 row).map (·.1) := by
    refine List.ext_getElem (by simp [h1]) (fun i i1 i2 => ?_)
    simp only [List.length_map] at i1 i2
    rw [List.getElem_map, List.getElem_map, (h2 i i1 i2).1]
    simp
  have hLn : ∀ x ∈ L, ∃ r ∈ partsL ks s 1 row, x.1 = (r.1 : Int) ∧ x.2.2.1 = r.2.length := fun x hx => by
    obtain ⟨i, hi, rfl⟩ := List.getElem_of_mem hx
    obtain ⟨k1, k2⟩ := h2 i hi (by omega)
    refine ⟨_, List.getElem_mem (by omega : i < (partsL ks s 1 row).length), k1, ?_⟩
    obtain ⟨ao, c, e⟩ := own_len k2
    simp only [ptV, Value.slice.injEq] at e
    exact e.2.1
  refine ⟨⟨fun x hx => ?_, ?_⟩, hm⟩
  · obtain ⟨r, hr', e1, e2⟩ := hLn x hx
    have m1 := partsL_mem ks s 1 row r hr'
    have m2 := partsL_len ks s 1 row hr r hr'
    refine ⟨by omega, by omega, ?_⟩
    rw [e2, m2, e1]
    simp
  · have : L.map (fun p => p.1.toNat - 1) = (partsL ks s 1 row).map (fun r => r.1 - 1) := by
      have := congrArg (List.map (fun n => n - 1)) hm
      simpa [List.map_map, Function.comp_def] using this
    rw [this]
    refine List.pairwise_map.2 (List.Pairwise.imp_of_mem (fun {x y} hx hy hlt => ?_) (partsL_pair ks s 1 row))
    have a1 := partsL_mem ks s 1 row x hx
    have a2 := partsL_mem ks s 1 row y hy
    omega
/-- The parts that were read, put: what the world is then. -/
theorem put_read {W : World} {own : Nat → Nat} {gw gp gm gt M B s : Nat} {vk : Value} {ks : List Kind} {gs fr : List Nat} {f : Int × Int → Option Nat} {q : Nat → Option Nat} {T : Nat → Ts} {row : List Int} {L : List Pt} {v : Value} (h : Wx 0 W own gw vk gp gm gt M ks gs fr f q T) (hw : Wi ks f q T) (hks : ks.length ≤ 12) (hk4 : ∀ x ∈ ks, x.2.length ≤ 4) (a b : Int) (hib : InB (a, b)) (hfn : f (a, b) = none) (hcnt : ∀ E : List (Int × Int), E.Nodup → (∀ e ∈ E, (f e).isSome = true) → E.length < 200) (hM : M ≤ 900000) (hv : W.ownsRow B 32 2 v L.length (pz L)) (hL : Pv B W L (partsL ks s 1 row)) (hLn : ∀ p ∈ L, p.2.1 ≠ none) (hr : row.length = fsum ks s 1) (hsb : Sb ks s) :
    Calls Tryz.prog 67 #[.pointer (some ⟨gw, 0, none⟩), .agg #[.int .i64 a, .int .i64 b], v] W fun e w' => e = .returned (.tuple #[]) ∧ ∃ (g : Nat) (own' : Nat → Nat), Wx 0 w' own' gw vk gp gm gt (M + 3) ks gs fr (fun x => if x = (a, b) then some s else f x) (fun x => if x = s then some g else q x) (moreT q T s (a, b) row) ∧ Wk own own' W w' ∧ Wi ks (fun x => if x = (a, b) then some s else f x) (fun x => if x = s then some g else q x) (moreT q T s (a, b) row) := by
  obtain ⟨hpg, hm⟩ := pv_pg hL hr
  have hso := set_all hsb hm
  have hiz : ∀ i (h1 : i < L.length) (h2 : i < (partsL ks s 1 row).length), Iz W (ptV L[i]) (partsL ks s 1 row)[i].2 := fun i h1 h2 => Iz.own (hL.2 i h1 h2).2
  refine (put_parts h hw hks hk4 a b hib hfn hcnt hM v L (fun p => valsOf W (ptV p)) (Rp.own hv) hpg (fun p hp => ?_)).mono ?_
  · obtain ⟨i, hi, rfl⟩ := List.getElem_of_mem hp
    have := hiz i hi (by rw [← hL.1]; exact hi)
    rw [this.vals]
    exact ⟨this, fun e => absurd e (hLn _ hp)⟩
  · rintro e w' ⟨rfl, vals, g, own', r1, r2, r3, r4, r5⟩
    rw [hso] at r1 r3 r4 r5
    obtain rfl : vals = row := cont_ext r4 hr (fun r => (r5 r).trans (by
      constructor
      · rintro ⟨p, hp, rfl⟩
        obtain ⟨i, hi, rfl⟩ := List.getElem_of_mem hp
        have h2 : i < (partsL ks s 1 row).length := by rw [← hL.1]; exact hi
        have e1 : (L[i].1.toNat, valsOf W (ptV L[i])) = (partsL ks s 1 row)[i] := by
          rw [(hiz i hi h2).vals, (hL.2 i hi h2).1]
          simp
        rw [e1]
        exact List.getElem_mem h2
      · intro hr'
        obtain ⟨i, hi, rfl⟩ := List.getElem_of_mem hr'
        have h1 : i < L.length := by rw [hL.1]; exact hi
        refine ⟨L[i], List.getElem_mem h1, ?_⟩
        rw [(hiz i h1 hi).vals, (hL.2 i h1 hi).1]
        simp))
    exact ⟨rfl, g, own', r1, r2, r3⟩
end Go.Proofs.YtafmiolehlagkaaGreat

namespace Go.Proofs.YtafmiolehlagkaaGreat.Pak
open Go.RowKit
set_option maxRecDepth 100000

theorem info2 : (Tryz.prog.info? 2).map (fun i => (i.zero, i.size, i.bytes)) = some (some (.int .i64 0), 1, 8) := by kernel_rfl
abbrev BCells (w : World) (g o : Nat) (l : List UInt8) : Prop := ∀ j (hj : j < l.length), w.cell? ⟨g, o + j, none⟩ = some (.int .u8 (l[j]).toNat)
theorem Bs.cut {w : World} {g o c : Nat} {l : List UInt8} (hc : BCells w g o l) (hlc : l.length ≤ c) (hm : c ≤ maxLen) {k : Nat} (hk : k ≤ l.length) (_hkc : k ≠ c) : Bs w (.slice (some ⟨g, o + k, none⟩) (l.length - k) (c - k)) (l.drop k) := by
  have := Bs.row (w := w) (g := g) (o := o + k) (c := c - k) (l := l.drop k) (by simp; omega) (by omega) (fun j hj => by
    simp at hj
    have := hc (k + j) (by omega)
    rw [← Nat.add_assoc] at this
    rw [this]
    simp)
  rwa [List.length_drop] at this
theorem bcells_below {B : Nat} {w w' : World} {g o : Nat} {l : List UInt8} (h : BCells w g o l) (hb : Below B w w') (hg : g < B) : BCells w' g o l :=
  fun j hj => (hb.cell (p := ⟨g, o + j, none⟩) hg).trans (h j hj)

/-- A block of int64, whole. -/
abbrev Nrow (w : World) (g : Nat) (zs : List Int) : Prop := w.heap[g]? = some (.cells (zs.map (Value.int .i64)).toArray 2 (0, 0))
theorem Nrow.cells {w : World} {g : Nat} {zs : List Int} (h : Nrow w g zs) : Cells w g 0 zs := fun j hj => by
  rw [Nat.zero_add, cell_of_row w g j _ 2 (0, 0) h]
  simp [hj]
theorem Nrow.frozen {w : World} {g : Nat} {zs : List Int} (h : Nrow w g zs) (j : Nat) : w.frozen? ⟨g, j, none⟩ = false := frozen_of_row w g j _ 2 h
theorem Nrow.set {w : World} {g : Nat} {zs : List Int} (h : Nrow w g zs) (j : Nat) (z : Int) : Nrow (w.setCell ⟨g, j, none⟩ (.int .i64 z)) g (zs.set j z) := by
  have := heap_setCell_same w g j _ 2 (.int .i64 z) h
  unfold Nrow
  rw [this]
  simp [List.map_set]
theorem nums_step {k : Nat} {b : List UInt8} (h : (Dec.getN b).2 ≠ 0) : Rd.nums (k + 1) b = (Rd.nums k (b.drop (Dec.getN b).2)).map fun r => (Dec.unzig (Dec.getN b).1 :: r.1, (Dec.getN b).2 + r.2) := by
  rw [Rd.nums, if_neg h]
theorem nums_stop {k : Nat} {b : List UInt8} (h : (Dec.getN b).2 = 0) : Rd.nums (k + 1) b = none := by rw [Rd.nums, if_pos h]

theorem nset (pre : List Int) (count k : Nat) (z : Int) (hp : pre.length = k) (hk : k < count) : (pre ++ List.replicate (count - k) 0).set k z = (pre ++ [z]) ++ List.replicate (count - (k + 1)) 0 := by
  rw [List.set_append_right _ _ (by omega), hp, Nat.sub_self, show count - k = (count - (k + 1)) + 1 by omega, List.replicate_succ]
  simp
theorem getInt_none (g o : Nat) (w : World) : Calls Tryz.prog 178 #[.slice (some ⟨g, o, none⟩) 0 0] w fun e w' => e = .returned (.tuple #[.int .i64 0, .int .i64 0]) ∧ w' = w :=
  getInt_any _ [] w ⟨some ⟨g, o, none⟩, 0, rfl, Nat.le_refl _, Nat.zero_le _, fun j hj => absurd hj (by simp)⟩
/-- What a reader of numbers hands back. -/
def Read (w w' : World) (e : Ending) (r : Option (List Int × Nat)) : Prop :=
  (r = none ∧ ∃ v, e = .returned (.tuple #[v, .int .i64 0]) ∧ v = .slice none 0 0) ∨
  ∃ zs t g, r = some (zs, t) ∧ e = .returned (.tuple #[.slice (some ⟨g, 0, none⟩) zs.length zs.length, .int .i64 t]) ∧ w.heap.size ≤ g ∧ Nrow w' g zs

set_option maxHeartbeats 4000000 in
set_option maxRecDepth 100000 in
theorem readNumbers_some (g o c count : Nat) (l : List UInt8) (w : World) (hpos : 1 ≤ count) (hcount : count ≤ 100000) (hlc : l.length ≤ c) (hm : c ≤ maxLen) (hc : BCells w g o l) (hg : g < w.heap.size) (hle : count ≤ l.length) :
    Calls Tryz.prog 200 #[.slice (some ⟨g, o, none⟩) l.length c, .int .i64 count] w fun e w' => Read w w' e (Rd.nums count l) ∧ Below w.heap.size w w' := by
  obtain ⟨i0, hi, hz0, hz1, hz2⟩ := info_parts info2
  have HC := hide hc
  have HM := hide hm
  unfold maxLen at hm
  clear hc
  go_enter Tryz.func200, Tryz.ntmps200
  go_wp2_with (at_make; refine wpList_make_full _ rfl _ _ 30 rfl w.heap.size 2 i0 (.int .i64 0) 1 Tryz.underlying30 hi hz0 hz1 .i64 .i64 _ _ count rfl rfl ?c1 ?c2 ?c3 ?c4 ?c5 ?_)
  case c1 => omega
  case c2 => omega
  case c3 => rw [hz2]; omega
  case c4 => unfold maxLen; omega
  case c5 => omega
  intro w1 hown hgrow
  have hb1 : Below w.heap.size w w1 := (Below.refl _ _).grown hgrow (Nat.le_refl _) (by intro k hk; cases hk)
  have hr1 := (own_block hown).1
  have hr2 : Nrow w1 w.heap.size (List.replicate count 0) := by
    unfold Nrow
    rw [hr1, toList_madeCells_one]
    simp
  have HR := hide hr2
  have HB := hide hb1
  clear hown hgrow hr1 hr2 hb1
  go_wp2
  go_loopw [7, 18] (fun a i wr => ∃ (k at' : Nat) (pre : List Int), k ≤ count ∧ pre.length = k ∧ at' ≤ l.length ∧ i = .int .i64 k ∧ a = .int .i64 at' ∧ Nrow wr w.heap.size (pre ++ List.replicate (count - k) 0) ∧ Below w.heap.size w wr ∧ Hid (Rd.nums count l = (Rd.nums (count - k) (l.drop at')).map fun r => (pre ++ r.1, at' + r.2))) (fun _ i _ => count - (intOf i).toNat)
  case atStart => exact ⟨0, 0, [], Nat.zero_le _, rfl, Nat.zero_le _, rfl, rfl, HR.out, HB.out, show _ = _ by simp⟩
  case round =>
    obtain ⟨k, a, pre, hk, hpl, ha, rfl, rfl, hrow, hb, hdec⟩ := hrel
    have HRr := hide hrow
    have HBr := hide hb
    have HP := hide hpl
    clear hrow hb hpl
    by_cases hlt : k < count
    · have hle2 := Dec.getN_le (l.drop a)
      rw [List.length_drop] at hle2
      by_cases hac : a = c
      · have hnil : l.drop a = [] := List.drop_eq_nil_of_le (by omega)
        subst hac
        have hgi := getInt_none g o wr
        have E := hide (show Rd.nums count l = none by rw [hdec.out, hnil, show count - k = (count - k - 1) + 1 by omega, nums_stop rfl]; rfl)
        clear hdec hnil
        go_wp2_with fail
        refine hgi.mono ?_
        rintro e w' ⟨rfl, rfl⟩
        go_wp2
        go_ret2
        exact ⟨.inl ⟨E.out, _, rfl, rfl⟩, HBr.out⟩
      · have hgi := getInt_any _ _ wr (Bs.cut (bcells_below HC.out HBr.out hg) hlc HM.out ha hac)
        have hac' : ¬ (a : Int) = c := by omega
        have ED := hide (fun h => (nums_step (k := count - k - 1) (b := l.drop a) h))
        have ES := hide (fun h => (nums_stop (k := count - k - 1) (b := l.drop a) h))
        have hfit := Rd.unzig_fits (l.drop a)
        generalize Dec.getN (l.drop a) = p at *
        obtain ⟨n, s⟩ := p
        simp only at hle2 hfit hgi
        generalize Dec.unzig n = z at *
        by_cases hs0 : s = 0
        · have E := hide (show Rd.nums count l = none by rw [hdec.out, show count - k = (count - k - 1) + 1 by omega, ES.out hs0]; rfl)
          have hz : ((s : Int) == 0) = true := by simp [hs0]
          have HS0 := hide hs0
          clear hdec hs0
          go_wp2_with fail
          refine hgi.mono ?_
          rintro e w' ⟨rfl, rfl⟩
          go_wp2
          go_ret2
          have hs0 := HS0.out
          subst hs0
          exact ⟨.inl ⟨E.out, _, rfl, rfl⟩, HBr.out⟩
        · have hz : ((s : Int) == 0) = false := by simp [hs0]
          have hfz := HRr.out.frozen k
          have hcl := HRr.out.cells k (by simp [HP.out]; omega)
          rw [Nat.zero_add] at hcl
          obtain ⟨y, hy⟩ : ∃ y, (pre ++ List.replicate (count - k) 0).getD k 0 = y := ⟨_, rfl⟩
          rw [hy] at hcl
          have HY := hide hy
          clear hy
          have E := hide (show Rd.nums count l = (Rd.nums (count - (k + 1)) (l.drop (a + s))).map fun r => ((pre ++ [z]) ++ r.1, (a + s) + r.2) by
            rw [hdec.out, show count - k = (count - k - 1) + 1 by omega, ED.out hs0, List.drop_drop, show count - (k + 1) = count - k - 1 by omega, Option.map_map]
            congr 1
            funext r
            simp [Nat.add_assoc])
          clear hdec
          go_wp2_with fail
          refine hgi.mono ?_
          rintro e w' ⟨rfl, rfl⟩
          go_wp2
          refine ⟨⟨k + 1, a + s, pre ++ [z], by omega, by simp [HP.out], by omega, by go_num, by go_num, ?_, HBr.out.setCell (Nat.le_refl _) _, E.out⟩, by simp [intOf]; omega⟩
          have := HRr.out.set k z
          rw [nset pre count k z HP.out hlt] at this
          exact this
    · obtain rfl : k = count := by omega
      have E := hide (show Rd.nums k l = some (pre, a) by rw [hdec.out]; simp [Rd.nums])
      clear hdec
      go_wp2
      go_ret2
      have hrow := HRr.out
      simp only [Nat.sub_self, List.replicate_zero, List.append_nil] at hrow
      refine ⟨.inr ⟨pre, a, w.heap.size, E.out, by rw [HP.out]; rfl, Nat.le_refl _, hrow⟩, HBr.out⟩

set_option maxHeartbeats 1000000 in
set_option maxRecDepth 100000 in
theorem readNumbers_few (ao : Option Addr) (n c count : Nat) (w : World) (hn : n < count) (_hc : count ≤ 100000) :
    Calls Tryz.prog 200 #[.slice ao n c, .int .i64 count] w fun e w' => e = .returned (.tuple #[.slice none 0 0, .int .i64 0]) ∧ w' = w := by
  have h : (n : Int) < count := by omega
  go_enter Tryz.func200, Tryz.ntmps200
  go_wp2
  go_ret2
  exact ⟨rfl, rfl⟩
theorem nums_few {count : Nat} {l : List UInt8} (h : l.length < count) : Rd.nums count l = none := by
  cases he : Rd.nums count l with
  | none => rfl
  | some r =>
    obtain ⟨zs, t⟩ := r
    have := Rd.nums_facts count l zs t he
    omega
theorem readNumbers_any (v : Value) (l : List UInt8) (count : Nat) (w : World) (h : Bs w v l) (hpos : 1 ≤ count) (hcount : count ≤ 100000) :
    Calls Tryz.prog 200 #[v, .int .i64 count] w fun e w' => Read w w' e (Rd.nums count l) ∧ Below w.heap.size w w' := by
  by_cases hle : count ≤ l.length
  · rcases h.parts with ⟨ao, c, rfl, rfl⟩ | ⟨g, o, c, rfl, hp, hlc, hm, hc⟩
    · simp at hle
      omega
    · exact readNumbers_some g o c count l w hpos hcount hlc hm hc (World.block_lt_of_cell? w _ (hc 0 hp)) hle
  · obtain ⟨ao, c, rfl, _, _, _⟩ := h
    refine (readNumbers_few ao l.length c count w (by omega) hcount).mono ?_
    rintro e w' ⟨rfl, rfl⟩
    exact ⟨.inl ⟨nums_few (by omega), _, rfl, rfl⟩, Below.refl _ _⟩
end Go.Proofs.YtafmiolehlagkaaGreat.Pak
