/-
  A4, THERE AND BACK, AS PLAIN MATHEMATICS: runs, and the whole row. No program in this text.
-/
import Derived.Test.YtoccbeefmagklaaBack
namespace Go.Proofs.Ytoccbeefmagklaa
open Go.RowKit

/-! ### Runs: (number, how often) -/
def expand (rl : List (Int × Nat)) : List Int := rl.flatMap fun r => List.replicate r.2 r.1
def encR (rl : List (Int × Nat)) : List UInt8 := rl.flatMap fun r => Lib.uvarint r.2 ++ Rw.ivar r.1
/-- Runs that may stand behind 'last'. -/
def Valid : Option Int → List (Int × Nat) → Prop
  | _, [] => True
  | last, r :: t => last ≠ some r.1 ∧ r.2 ≠ 0 ∧ Valid (some r.1) t
def goR : Rw.RunsAt → List Int → Rw.RunsAt
  | s, [] => s
  | s, z :: r => if r.head? = some z then goR ⟨s.bytes, s.count, s.len + 1⟩ r else goR ⟨s.bytes ++ (Lib.uvarint (s.len + 1) ++ Rw.ivar z), s.count + 1, 0⟩ r

theorem goR_to (l : List Int) : ∀ (m k : Nat), m = l.length - k → k ≤ l.length → goR (Rw.runsTo l k) (l.drop k) = Rw.runsTo l l.length
  | 0, k, hm, hk => by
    have e : k = l.length := by omega
    subst e
    rw [List.drop_length]
    rfl
  | m + 1, k, hm, hk => by
    have hlt : k < l.length := by omega
    rw [← goR_to l m (k + 1) (by omega) (by omega), List.drop_eq_getElem_cons hlt]
    have hgd : l.getD k 0 = l[k] := by rw [List.getD_eq_getElem?_getD, List.getElem?_eq_getElem hlt]; rfl
    have he : Rw.ends l k = !decide ((l.drop (k + 1)).head? = some l[k]) := by
      unfold Rw.ends
      rw [List.head?_drop, hgd]
      by_cases hl : k + 1 = l.length
      · rw [List.getElem?_eq_none (by omega)]
        simp [hl]
      · rw [List.getD_eq_getElem?_getD, List.getElem?_eq_getElem (by omega), show (k + 1 == l.length) = false by simp [hl], Bool.false_or]
        simp only [Option.getD_some, Option.some.injEq]
        by_cases hx : l[k] = l[k + 1]
        · rw [hx, bne_self_eq_false, decide_eq_true rfl]
          rfl
        · rw [bne_iff_ne.2 hx, decide_eq_false (fun e => hx e.symm)]
          rfl
    rw [goR, Rw.runsTo, he]
    by_cases hx : (l.drop (k + 1)).head? = some l[k]
    · rw [if_pos hx, if_neg (by rw [decide_eq_true hx]; simp)]
    · rw [if_neg hx, if_pos (by rw [decide_eq_false hx]; rfl), hgd]
theorem runs_goR (l : List Int) : Rw.runsTo l l.length = goR ⟨[], 0, 0⟩ l := by
  have := goR_to l l.length 0 (by omega) (Nat.zero_le _)
  rw [List.drop_zero] at this
  exact this.symm
theorem goR_run (z : Int) (rest : List Int) (hr : rest.head? ≠ some z) : ∀ (n : Nat) (s : Rw.RunsAt), goR s (List.replicate (n + 1) z ++ rest) = goR ⟨s.bytes ++ (Lib.uvarint (s.len + n + 1) ++ Rw.ivar z), s.count + 1, 0⟩ rest
  | 0, s => by
    show goR s (z :: rest) = _
    rw [goR, if_neg hr]
  | n + 1, s => by
    rw [List.replicate_succ, List.cons_append, goR, if_pos (by rw [List.replicate_succ]; rfl), goR_run z rest hr n]
    simp only
    rw [show s.len + 1 + n + 1 = s.len + (n + 1) + 1 by omega]
theorem expand_head {last : Int} {rl : List (Int × Nat)} (h : Valid (some last) rl) : (expand rl).head? ≠ some last := by
  cases rl with
  | nil => simp [expand]
  | cons r t =>
    obtain ⟨h1, h2, _⟩ := h
    obtain ⟨m, hm⟩ : ∃ m, r.2 = m + 1 := ⟨r.2 - 1, by omega⟩
    simp only [expand, List.flatMap_cons, hm, List.replicate_succ, List.cons_append, List.head?_cons]
    exact fun e => h1 e.symm
theorem goR_expand : ∀ (rl : List (Int × Nat)) (last : Option Int) (bs : List UInt8) (c : Nat), Valid last rl → goR ⟨bs, c, 0⟩ (expand rl) = ⟨bs ++ encR rl, c + rl.length, 0⟩
  | [], _, bs, c, _ => by simp [expand, encR, goR]
  | r :: t, last, bs, c, h => by
    obtain ⟨h1, h2, h3⟩ := h
    obtain ⟨m, hm⟩ : ∃ m, r.2 = m + 1 := ⟨r.2 - 1, by omega⟩
    have e : expand (r :: t) = List.replicate (m + 1) r.1 ++ expand t := by simp [expand, hm]
    rw [e, goR_run r.1 (expand t) (expand_head h3) m, goR_expand t (some r.1) _ _ h3]
    simp only [encR, List.flatMap_cons, hm, Nat.zero_add, List.append_assoc, List.length_cons]
    rw [show c + 1 + t.length = c + (t.length + 1) by omega]
theorem runsB_expand {rl : List (Int × Nat)} (h : Valid none rl) : Rw.runsB (expand rl) = Lib.uvarint rl.length ++ encR rl := by
  unfold Rw.runsB
  rw [runs_goR, goR_expand rl none [] 0 h]
  simp
theorem rle : ∀ zs : List Int, ∃ rl, zs = expand rl ∧ Valid none rl
  | [] => ⟨[], rfl, trivial⟩
  | z :: r => by
    obtain ⟨rl, e, hv⟩ := rle r
    cases rl with
    | nil => exact ⟨[(z, 1)], by rw [e]; rfl, by simp, by simp, trivial⟩
    | cons p t =>
      obtain ⟨_, h2, h3⟩ := hv
      by_cases hp : p.1 = z
      · refine ⟨(z, p.2 + 1) :: t, ?_, by simp, by simp, hp ▸ h3⟩
        rw [e]
        simp [expand, List.replicate_succ, hp]
      · refine ⟨(z, 1) :: p :: t, ?_, by simp, by simp, ?_, h2, h3⟩
        · rw [e]; simp [expand]
        · simpa using fun e => hp e.symm

theorem runs_put : ∀ (rl : List (Int × Nat)) (last : Option Int) (b : List UInt8), Valid last rl → (∀ r ∈ rl, r.2 < 18446744073709551616 ∧ Rw.Fits r.1) → Rd.runs rl.length (expand rl).length last (encR rl ++ b) = some (expand rl, (encR rl).length)
  | [], last, b, _, _ => by simp [Rd.runs, expand, encR]
  | r :: t, last, b, h, hf => by
    obtain ⟨h1, h2, h3⟩ := h
    obtain ⟨f1, f2⟩ := hf r List.mem_cons_self
    have e1 : encR (r :: t) ++ b = Lib.uvarint r.2 ++ (Rw.ivar r.1 ++ (encR t ++ b)) := by simp [encR]
    have g1 := getN_put f1 (Rw.ivar r.1 ++ (encR t ++ b))
    have g2 := getN_ivar f2 (encR t ++ b)
    have p1 := Lib.uvarint_pos r.2
    have p2 : 1 ≤ (Rw.ivar r.1).length := Lib.uvarint_pos _
    have el : (expand (r :: t)).length = r.2 + (expand t).length := by simp [expand]
    rw [e1, List.length_cons, Rd.runs, g1]
    simp only
    rw [if_neg (by rw [el]; omega), List.drop_left, g2]
    simp only
    rw [if_neg (by
      intro hc
      rcases hc with hc | hc
      · omega
      · rw [Dec.unzig_zigzag] at hc; exact h1 hc), Dec.unzig_zigzag]
    have e2 : (Lib.uvarint r.2 ++ (Rw.ivar r.1 ++ (encR t ++ b))).drop ((Lib.uvarint r.2).length + (Rw.ivar r.1).length) = encR t ++ b := by
      rw [← List.append_assoc]
      exact List.drop_left' (by simp)
    rw [e2, el, Nat.add_sub_cancel_left, runs_put t (some r.1) b h3 (fun x hx => hf x (List.mem_cons_of_mem _ hx))]
    simp [expand, encR, Nat.add_assoc]
theorem runs_back : ∀ (m left : Nat) (last : Option Int) (b : List UInt8) (zs : List Int) (t : Nat), Rd.runs m left last b = some (zs, t) → ∃ rl, rl.length = m ∧ zs = expand rl ∧ b.take t = encR rl ∧ Valid last rl
  | 0, left, last, b, zs, t, h => by
    unfold Rd.runs at h
    split at h
    · simp at h
      obtain ⟨rfl, rfl⟩ := h
      exact ⟨[], rfl, rfl, rfl, trivial⟩
    · cases h
  | m + 1, left, last, b, zs, t, h => by
    unfold Rd.runs at h
    split at h
    · cases h
    · rename_i hs
      split at h
      · cases h
      · rename_i hs2
        obtain ⟨⟨zr, tr⟩, hr, he⟩ := Option.map_eq_some_iff.1 h
        obtain ⟨rfl, rfl⟩ := Prod.mk.inj he
        obtain ⟨rl, e1, e2, e3, e4⟩ := runs_back m _ _ _ zr tr hr
        obtain ⟨g1, _⟩ := getN_back (b := b) (n := (Dec.getN b).1) (s := (Dec.getN b).2) rfl (fun e => hs (.inl e))
        obtain ⟨g2, _⟩ := getN_back (b := b.drop (Dec.getN b).2) (n := (Dec.getN (b.drop (Dec.getN b).2)).1) (s := (Dec.getN (b.drop (Dec.getN b).2)).2) rfl (fun e => hs2 (.inl e))
        refine ⟨(Dec.unzig (Dec.getN (b.drop (Dec.getN b).2)).1, (Dec.getN b).1) :: rl, by simp [e1], ?_, ?_, fun e => hs2 (.inr e), fun e => hs (.inr (.inl e)), e4⟩
        · simp [expand, e2]
        · show b.take ((Dec.getN b).2 + (Dec.getN (b.drop (Dec.getN b).2)).2 + tr) = _
          rw [List.take_add, List.take_add, e3, g1, g2]
          simp [encR, Rw.ivar, Dec.zigzag_unzig]

theorem expand_counts {rl : List (Int × Nat)} {r : Int × Nat} (h : r ∈ rl) : r.2 ≤ (expand rl).length := by
  induction rl with
  | nil => simp at h
  | cons p t ih =>
    have el : (expand (p :: t)).length = p.2 + (expand t).length := by simp [expand]
    rcases List.mem_cons.1 h with rfl | h
    · omega
    · have := ih h
      omega
theorem expand_mem {rl : List (Int × Nat)} {r : Int × Nat} (h : r ∈ rl) (h0 : r.2 ≠ 0) : r.1 ∈ expand rl := by
  simp only [expand, List.mem_flatMap]
  exact ⟨r, h, by rw [List.mem_replicate]; exact ⟨h0, rfl⟩⟩
theorem valid_counts : ∀ {last : Option Int} {rl : List (Int × Nat)}, Valid last rl → ∀ r ∈ rl, r.2 ≠ 0
  | _, [], _, r, h => by simp at h
  | _, p :: t, hv, r, h => by
    obtain ⟨_, h2, h3⟩ := hv
    rcases List.mem_cons.1 h with rfl | h
    · exact h2
    · exact valid_counts h3 r h
theorem valid_length {last : Option Int} {rl : List (Int × Nat)} (h : Valid last rl) : rl.length ≤ (expand rl).length := by
  induction rl generalizing last with
  | nil => simp
  | cons p t ih =>
    obtain ⟨_, h2, h3⟩ := h
    have := ih h3
    have el : (expand (p :: t)).length = p.2 + (expand t).length := by simp [expand]
    simp only [List.length_cons]
    omega

/-! ### A form -/
theorem form_put {zs : List Int} (h : Rw.AllFit zs) (hl : zs.length ≤ 1048576) {f : Nat} (hf : f ≤ 2) (b : List UInt8) : Rd.form (Rw.formB zs f ++ b) f zs.length = some (zs, (Rw.formB zs f).length) := by
  by_cases h2 : f = 2
  · subst h2
    obtain ⟨rl, rfl, hv⟩ := rle zs
    have hb : Rw.formB (expand rl) 2 = Lib.uvarint rl.length ++ encR rl := by unfold Rw.formB; rw [if_pos rfl, runsB_expand hv]
    have hc := valid_length hv
    have p1 := Lib.uvarint_pos rl.length
    unfold Rd.form
    rw [if_pos rfl, hb, List.append_assoc, getN_put (by omega)]
    simp only
    rw [if_neg (by omega), List.drop_left, runs_put rl none b hv (fun r hr => ⟨by have := expand_counts hr; omega, h _ (expand_mem hr (valid_counts hv r hr))⟩)]
    simp
  · have hb : Rw.formB zs f = flat (ent zs f) := by unfold Rw.formB; rw [if_neg h2, bodyTo_eq]; rfl
    unfold Rd.form
    rw [if_neg h2, hb]
    have := nums_put (ent zs f) b (ent_fit h f)
    rw [ent_length] at this
    rw [this]
    rcases (show f = 0 ∨ f = 1 by omega) with rfl | rfl
    · simp [ent_zero]
    · simp [sums_steps h]
theorem form_back {b : List UInt8} {f count : Nat} {zs : List Int} {t : Nat} (hf : f ≤ 2) (h : Rd.form b f count = some (zs, t)) : b.take t = Rw.formB zs f := by
  by_cases h2 : f = 2
  · subst h2
    unfold Rd.form at h
    rw [if_pos rfl] at h
    split at h
    · cases h
    · rename_i hs
      obtain ⟨⟨zr, tr⟩, hr, he⟩ := Option.map_eq_some_iff.1 h
      obtain ⟨rfl, rfl⟩ := Prod.mk.inj he
      obtain ⟨rl, e1, rfl, e3, e4⟩ := runs_back _ _ _ _ zr tr hr
      obtain ⟨g1, _⟩ := getN_back (b := b) (n := (Dec.getN b).1) (s := (Dec.getN b).2) rfl hs
      show b.take ((Dec.getN b).2 + tr) = _
      unfold Rw.formB
      rw [if_pos rfl, runsB_expand e4, List.take_add, g1, e3, e1]
  · unfold Rd.form at h
    rw [if_neg h2] at h
    obtain ⟨⟨zr, tr⟩, hr, he⟩ := Option.map_eq_some_iff.1 h
    have hb : ∀ ys, Rw.formB ys f = flat (ent ys f) := fun ys => by unfold Rw.formB; rw [if_neg h2, bodyTo_eq]; rfl
    have hfit := (Rd.nums_facts _ _ _ _ hr).2.2.2
    have hn := nums_back _ _ _ _ hr
    obtain ⟨rfl, rfl⟩ := Prod.mk.inj he
    rcases (show f = 0 ∨ f = 1 by omega) with rfl | rfl
    · rw [hb, ent_zero]
      simpa using hn
    · rw [hb]
      simp only [if_true]
      rw [steps_sums hfit]
      exact hn

/-! ### The row -/
theorem best_byte (zs : List Int) : (UInt8.ofNat (Rw.best zs)).toNat = Rw.best zs := by
  have := Rw.best_le zs
  simp [UInt8.toNat_ofNat']
  omega
theorem row_put {zs : List Int} (h : Rw.AllFit zs) (hl : zs.length ≤ 100000) (b : List UInt8) : Rd.row (Rw.rowB zs ++ b) zs.length = (zs, (Rw.rowB zs).length) := by
  by_cases h0 : zs.length = 0
  · obtain rfl : zs = [] := List.eq_nil_of_length_eq_zero h0
    have hu : Lib.uvarint 0 = [0] := Lib.uvarint_small (by omega)
    have hg := getN_put (n := 0) (by omega) b
    rw [hu] at hg
    have hr : Rw.rowB [] = [0] := rfl
    unfold Rd.row
    rw [hr, hg]
    simp only [List.length_nil, List.length_cons]
    rw [if_neg (by omega), if_pos trivial]
  · have hr : Rw.rowB zs = Lib.uvarint zs.length ++ (UInt8.ofNat (Rw.best zs) :: Rw.formB zs (Rw.best zs)) := by unfold Rw.rowB; rw [if_neg h0]
    have hg := getN_put (n := zs.length) (by omega) ((UInt8.ofNat (Rw.best zs) :: Rw.formB zs (Rw.best zs)) ++ b)
    have p1 := Lib.uvarint_pos zs.length
    unfold Rd.row
    rw [hr, List.append_assoc, hg]
    simp only
    generalize hU : Lib.uvarint zs.length = U at *
    have e1 : (U ++ (UInt8.ofNat (Rw.best zs) :: Rw.formB zs (Rw.best zs) ++ b)).getD U.length 0 = UInt8.ofNat (Rw.best zs) := by
      rw [List.getD_eq_getElem?_getD, List.getElem?_append_right (Nat.le_refl _)]
      simp
    have e2 : (U ++ (UInt8.ofNat (Rw.best zs) :: Rw.formB zs (Rw.best zs) ++ b)).drop (U.length + 1) = Rw.formB zs (Rw.best zs) ++ b := by
      rw [List.drop_append]
      simp
    have hb := Rw.best_le zs
    rw [if_neg (by omega), if_neg h0, e1, best_byte, e2, form_put h (by omega) hb b, if_neg (by simp; omega)]
    simp
    omega
theorem row_short {zs : List Int} (hl : zs.length ≤ 100000) : Rd.row (Rw.rowB zs) ((zs.length : Int) - 1) = ([], 0) := by
  unfold Rd.row
  by_cases h0 : zs.length = 0
  · rw [if_pos (.inr (.inl (by omega)))]
  · have hr : Rw.rowB zs = Lib.uvarint zs.length ++ (UInt8.ofNat (Rw.best zs) :: Rw.formB zs (Rw.best zs)) := by unfold Rw.rowB; rw [if_neg h0]
    rw [hr, getN_put (by omega)]
    simp only
    rw [if_pos (.inr (.inr (by omega)))]
theorem row_length {zs : List Int} (h : Rw.AllFit zs) (hl : zs.length ≤ 100000) : (Rw.rowB zs).length ≤ 5 + 10 * zs.length := by
  unfold Rw.rowB
  by_cases h0 : zs.length = 0
  · rw [if_pos h0]; simp; omega
  · rw [if_neg h0]
    have h1 := Lib.uvarint_length 2 zs.length (by omega)
    have h2 : (Rw.formB zs (Rw.best zs)).length ≤ (Rw.formB zs 0).length := by
      unfold Rw.best
      split <;> split <;> omega
    have h3 : (Rw.formB zs 0).length ≤ 10 * zs.length := by
      unfold Rw.formB
      rw [if_neg (by omega)]
      exact Rw.bodyTo_length h 0 zs.length
    simp only [List.length_append, List.length_cons]
    omega
theorem row_facts {b : List UInt8} {most : Int} : Rw.AllFit (Rd.row b most).1 ∧ (Rd.row b most).1.length ≤ 100000 ∧ (Rd.row b most).2 ≤ b.length ∧ ((Rd.row b most).2 ≠ 0 → Rw.rowB (Rd.row b most).1 = b.take (Rd.row b most).2) := by
  have hnil : Rw.AllFit [] := fun z hz => by simp at hz
  have hle := Dec.getN_le b
  unfold Rd.row
  split
  · exact ⟨hnil, by simp, Nat.zero_le _, fun h => absurd rfl h⟩
  · rename_i hbad
    split
    · rename_i hn0
      refine ⟨hnil, by simp, hle, fun _ => ?_⟩
      have hg := getN_back (b := b) (n := (Dec.getN b).1) (s := (Dec.getN b).2) rfl (fun e => hbad (.inl e))
      rw [hn0] at hg
      rw [hg.1]
      exact (Lib.uvarint_small (show (0 : Nat) < 128 by decide)).symm
    · rename_i hn0
      split
      · exact ⟨hnil, by simp, Nat.zero_le _, fun h => absurd rfl h⟩
      · rename_i hf
        have hf3 : (b.getD (Dec.getN b).2 0).toNat ≤ 2 := by omega
        have hlt : (Dec.getN b).2 < b.length := by omega
        cases hfm : Rd.form (b.drop ((Dec.getN b).2 + 1)) (b.getD (Dec.getN b).2 0).toNat (Dec.getN b).1 with
        | none => exact ⟨hnil, by simp, Nat.zero_le _, fun h => absurd rfl h⟩
        | some r =>
          obtain ⟨zs, s⟩ := r
          simp only
          obtain ⟨h1, h2, h3⟩ := Rd.form_facts hfm
          have hbk := form_back hf3 hfm
          split
          · exact ⟨hnil, by simp, Nat.zero_le _, fun h => absurd rfl h⟩
          · rename_i hbest
            have hbest' : Rw.best zs = (b.getD (Dec.getN b).2 0).toNat := Classical.byContradiction hbest
            rw [List.length_drop] at h2
            refine ⟨h3, by simp only; omega, by simp only; omega, fun _ => ?_⟩
            have hg := getN_back (b := b) (n := (Dec.getN b).1) (s := (Dec.getN b).2) rfl (fun e => hbad (.inl e))
            show Rw.rowB zs = b.take ((Dec.getN b).2 + 1 + s)
            unfold Rw.rowB
            rw [if_neg (by omega), h1, List.take_add, hbk, ← hbest', List.take_succ_eq_append_getElem hlt, hg.1]
            have e : UInt8.ofNat (Rw.best zs) = b[(Dec.getN b).2] := by
              rw [hbest', List.getD_eq_getElem?_getD, List.getElem?_eq_getElem hlt]
              simp
            rw [e]
            simp
end Go.Proofs.Ytoccbeefmagklaa
