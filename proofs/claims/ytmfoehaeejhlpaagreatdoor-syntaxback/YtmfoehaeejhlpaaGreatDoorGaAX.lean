import Derived.Test.YtmfoehaeejhlpaaGreatDoorGaAT
import Derived.Test.YtmfoehaeejhlpaaGreatDoorGaAW
import Derived.Test.YtmfoehaeejhlpaaGreatDoorGaAH
import Derived.Test.YtmfoehaeejhlpaaGreatDoorShelf
import Derived.Lib.ParseIntB
import Derived.Test.YtmfoehaeejhlpaaGreatDoorGaAP
import Derived.Lib.SmallJoins
/-
  What Lex hands back, as the reader takes it.
-/
namespace Go.Proofs.YtmfoehaeejhlpaaGreatDoor
open Go.RowKit Yn
set_option maxRecDepth 100000
def tokOf (s : ByteArray) (t : Le.Tk) : Tok := ⟨t.k, s.extract t.a t.e, t.a⟩
theorem tok_two {f : Nat → Nat} {n a b e : Nat} (h : Le.tokAt f n a = .tok 2 b e) : b = a ∧ (∀ j, a ≤ j → j < e → Le.isDi (f j) = true) ∧ Le.numOk f a e = true := by
  unfold Le.tokAt at h
  split at h
  · split at h
    · cases h
    · simp at h
  · split at h
    · split at h
      · split at h
        · cases h
        · rename_i h1 _
          injection h with _ h2 h3
          subst h2
          subst h3
          exact ⟨rfl, fun j h4 h5 => Le.runE_all _ _ _ j h4 h5, h1⟩
      · cases h
    · split at h
      · cases h
      · simp at h
theorem step_two {f : Nat → Nat} {n a b e : Nat} (h : Le.stepL f n a = .tok 2 b e) : Le.tokAt f n a = .tok 2 b e := by
  unfold Le.stepL at h
  split at h
  · cases h
  · split at h
    · cases h
    · split at h
      · cases h
      · split at h
        · split at h <;> cases h
        · exact h
theorem fold_le : ∀ (l : List UInt8) (a : Nat), (∀ c ∈ l, 48 ≤ c.toNat ∧ c.toNat ≤ 57) → l.foldl (fun (a : Int) c => a * 10 + ((c.toNat : Int) - 48)) (a : Int) = (Le.valL a l : Int)
  | [], a, _ => by rw [Le.valL_nil]; rfl
  | c :: r, a, hd => by
    have hc := hd c (by simp)
    rw [Le.valL_cons, List.foldl_cons]
    have e : (a : Int) * 10 + ((c.toNat : Int) - 48) = ((a * 10 + (c.toNat - 48) : Nat) : Int) := by omega
    rw [e]
    exact fold_le r _ (fun x hx => hd x (by simp [hx]))
theorem num_dg {s : ByteArray} {a e : Nat} (hs : s.size ≤ 8000) (hae : a < e) (hen : e ≤ s.size) (hd : ∀ j, a ≤ j → j < e → Le.isDi (Le.bt s j) = true) (hn : Le.numOk (Le.bt s) a e = true) : Dg (s.extract a e) := by
  have hz : (s.extract a e).size = e - a := by simp; omega
  have hl := Le.ext_data s a e
  have hlen : s.data.toList.length = s.size := by rw [Array.length_toList]; rfl
  have hd2 : ∀ c ∈ (s.extract a e).data.toList, 48 ≤ c.toNat ∧ c.toNat ≤ 57 := by
    intro c hc
    rw [hl] at hc
    obtain ⟨i, hi, rfl⟩ := List.getElem_of_mem hc
    rw [List.length_take, List.length_drop] at hi
    rw [List.getElem_take, List.getElem_drop]
    have h1 := hd (a + i) (by omega) (by omega)
    rw [Le.bt_at s (a + i) (by omega), Le.isDi_iff] at h1
    exact h1
  refine ⟨fun e0 => ?_, by omega, hd2, ?_⟩
  · have : (bs []).size = 0 := rfl
    rw [e0] at hz
    omega
  · have e1 : digits (s.extract a e) = (Le.valL 0 (s.extract a e).data.toList : Int) := fold_le _ 0 hd2
    rw [e1, hl, ← Le.numV_val s (e - a) a 0 (by omega)]
    unfold Le.numOk at hn
    rw [Bool.and_eq_true, decide_eq_true_eq] at hn
    omega
theorem lex_gd {s : ByteArray} (hs : s.size ≤ 8000) : ∀ (j a : Nat) (l : List Le.Tk), s.size + 1 ≤ j + a → a ≤ s.size → Le.lexF (Le.bt s) s.size j a = .ok l → Gd (l.map (tokOf s))
  | 0, a, l, h1, h2, _ => by omega
  | j + 1, a, l, h1, h2, h => by
    have hz := Le.bt_z s
    rw [Le.lexF] at h
    cases hst : Le.stepL (Le.bt s) s.size a with
    | fin =>
      rw [hst] at h
      injection h with h
      subst h
      refine ⟨[], ⟨0, s.extract s.size s.size, s.size⟩, rfl, rfl, ?_, fun t ht => by cases ht⟩
      apply ByteArray.ext
      simp [bs]
    | go b =>
      rw [hst] at h
      have hb := Le.stepL_go hz hst
      exact lex_gd hs j b l (by omega) hb.2.1 h
    | bad b =>
      rw [hst] at h
      cases h
    | tok k b e =>
      rw [hst] at h
      have h : Le.Rs.cons ⟨k, b, e⟩ (Le.lexF (Le.bt s) s.size j e) = .ok l := h
      obtain ⟨rfl, hb1, hb2, hb3, -⟩ := Le.stepL_tok hz hst
      cases hr : Le.lexF (Le.bt s) s.size j e with
      | no x =>
        rw [hr] at h
        cases h
      | ok l2 =>
        rw [hr] at h
        injection h with h
        subst h
        obtain ⟨l3, e3, h3, h4, h5, h6⟩ := lex_gd hs j e l2 (by omega) hb2 hr
        refine ⟨tokOf s ⟨k, b, e⟩ :: l3, e3, by rw [List.map_cons, h3]; rfl, h4, h5, fun t ht => ?_⟩
        rcases List.mem_cons.1 ht with rfl | ht
        · refine ⟨by show k ≠ 0; omega, fun e0 => ?_, fun hk => ?_⟩
          · have hz2 : (s.extract b e).size = e - b := by simp; omega
            have e1 : (s.extract b e) = bs [] := e0
            rw [e1] at hz2
            have : (bs []).size = 0 := rfl
            omega
          · have hk2 : k = 2 := hk
            subst hk2
            obtain ⟨-, h7, h8⟩ := tok_two (step_two hst)
            exact num_dg hs hb1 hb2 h7 h8
        · exact h6 t ht
theorem tz_at (s : ByteArray) : ∀ (l : List Le.Tk) (i : Nat) (h : i < l.length), (Le.tz s l)[i * 3]? = some (.int .i64 ((l[i].k : Nat) : Int)) ∧ (Le.tz s l)[i * 3 + 1]? = some (.string (s.extract l[i].a l[i].e)) ∧ (Le.tz s l)[i * 3 + 2]? = some (.int .i64 ((l[i].a : Nat) : Int))
  | [], i, h => by cases h
  | t :: l, 0, h => ⟨rfl, rfl, rfl⟩
  | t :: l, i + 1, h => by
    obtain ⟨h1, h2, h3⟩ := tz_at s l i (by simpa using h)
    have e : ∀ r, (Le.tz s (t :: l))[(i + 1) * 3 + r]? = (Le.tz s l)[i * 3 + r]? := fun r => by
      show ([.int .i64 (t.k : Nat), .string (s.extract t.a t.e), .int .i64 (t.a : Nat)] ++ Le.tz s l)[(i + 1) * 3 + r]? = _
      rw [List.getElem?_append_right (by simp; omega)]
      congr 1
      simp
      omega
    exact ⟨(e 0).trans h1, (e 1).trans h2, (e 2).trans h3⟩
/-- What Lex answers of a source. -/
def lxS (src : ByteArray) : Except (Nat × Nat) (List Tok) := if src.size ≤ 8000 then (match Le.lexS src with | .ok l => .ok (l.map (tokOf src)) | .no a => .error (a, 90)) else .error (8000, 102)
theorem lx_holds (src : ByteArray) : Lx Le.Wd lxS src := by
  intro W hW
  refine (Le.lex_any src W hW).mono ?_
  rintro e w' ⟨hb, -, h⟩
  refine ⟨hb, ?_⟩
  rcases h with ⟨l, v, h1, h2, h3, rfl, h5⟩ | ⟨at1, g, er, h1, rfl, h3, h4⟩
  · have el : lxS src = .ok (l.map (tokOf src)) := by
      unfold lxS
      rw [if_pos h1, h2]
    rw [el]
    have hg : Gd (l.map (tokOf src)) := lex_gd h1 (src.size + 1) 0 l (by omega) (by omega) h2
    have hp := hg.pos
    rw [List.length_map] at hp
    obtain ⟨g, c, rfl, h6, h7⟩ := own_form h5 hp
    refine ⟨_, rfl, ⟨g, 0, c, by rw [List.length_map], by rw [List.length_map]; exact h6, h7, fun i hi => ?_⟩, hg, fun j e => (h5.lt j e).2⟩
    rw [List.length_map] at hi
    obtain ⟨a1, a2, a3⟩ := tz_at src l i hi
    rw [List.getElem_map]
    refine ⟨?_, ?_, ?_⟩
    · rw [Nat.zero_add, h5.cellAt (i * 3) (by omega)]
      exact a1
    · rw [Nat.zero_add, h5.cellAt (i * 3 + 1) (by omega)]
      exact a2
    · rw [Nat.zero_add, h5.cellAt (i * 3 + 2) (by omega)]
      exact a3
  · have el : lxS src = .error (at1, er) := by
      unfold lxS
      rcases h1 with ⟨h1, h2, rfl⟩ | ⟨h1, rfl, rfl⟩
      · rw [if_pos h1, h2]
      · rw [if_neg (by omega)]
    rw [el]
    exact ⟨g, rfl, h3, h4⟩
end Go.Proofs.YtmfoehaeejhlpaaGreatDoor

/-
  ParseInt of a number's text.
-/
namespace Go.Proofs.YtmfoehaeejhlpaaGreatDoor
open Go.RowKit Yn
set_option maxRecDepth 100000
def valW : List UInt8 → Nat → Nat
  | [], acc => acc
  | c :: r, acc => valW r (acc * 10 + (c.toNat - 48))
def valL (acc : Nat) (l : List UInt8) : Nat := valW l acc
theorem valL_nil (acc : Nat) : valL acc [] = acc := by unfold valL; rw [valW]
theorem valL_cons (acc : Nat) (c : UInt8) (r : List UInt8) : valL acc (c :: r) = valL (acc * 10 + (c.toNat - 48)) r := by unfold valL; rw [valW]
theorem valL_ge (l : List UInt8) : ∀ acc : Nat, acc ≤ valL acc l := by
  induction l with
  | nil => intro acc; rw [valL_nil]; exact Nat.le_refl _
  | cons c r ih =>
    intro acc
    have := ih (acc * 10 + (c.toNat - 48))
    rw [valL_cons]
    omega
def Dig (l : List UInt8) : Prop := ∀ c ∈ l, 48 ≤ c.toNat ∧ c.toNat ≤ 57

theorem uintM_dig (l : List UInt8) : ∀ (acc : Nat), Dig l → acc ≤ 18446744073709551615 →
    Lib.parseUintM 18446744073709551615 acc l = if valL acc l ≤ 18446744073709551615 then .ok (valL acc l) else .range := by
  induction l with
  | nil => intro acc hd ha; rw [valL_nil, if_pos ha, Lib.parseUintM]
  | cons c r ih =>
    intro acc hd ha
    have hc := hd c (by simp)
    have hr : Dig r := fun x hx => hd x (by simp [hx])
    have hg := valL_ge r (acc * 10 + (c.toNat - 48))
    rw [valL_cons, Lib.parseUintM]
    rw [if_pos hc]
    by_cases h1 : 1844674407370955162 ≤ acc
    · rw [if_pos h1, if_neg (by omega)]
    · rw [if_neg h1]
      by_cases h2 : 18446744073709551615 < acc * 10 + (c.toNat - 48)
      · rw [if_pos h2, if_neg (by omega)]
      · rw [if_neg h2]
        exact ih _ hr (by omega)

theorem parseInt_dig (l : List UInt8) (hd : Dig l) (h0 : l ≠ []) :
    Lib.parseIntB 64 l = if valL 0 l < 9223372036854775808 then .ok (valL 0 l : Int) else .range := by
  cases l with
  | nil => exact absurd rfl h0
  | cons c r =>
    have hc := hd c (by simp)
    unfold Lib.parseIntB
    simp only []
    rw [if_neg (by omega)]
    have hu : Lib.parseUintB 64 (c :: r) = if valL 0 (c :: r) ≤ 18446744073709551615 then .ok (valL 0 (c :: r)) else .range := by
      unfold Lib.parseUintB
      rw [if_neg (by simp)]
      exact uintM_dig (c :: r) 0 hd (by omega)
    rw [hu]
    have hne : ¬ c.toNat = 45 := by omega
    generalize valL 0 (c :: r) = v
    by_cases h1 : v ≤ 18446744073709551615
    · rw [if_pos h1]
      simp only [hne, false_and, not_false_eq_true, true_and, if_false]
      by_cases h2 : 2 ^ (64 - 1) ≤ v
      · rw [if_pos h2, if_neg (by omega)]
      · rw [if_neg h2, if_pos (by omega)]
    · rw [if_neg h1, if_neg (by omega)]

theorem fold_val : ∀ (l : List UInt8) (a : Nat), Dig l → l.foldl (fun (a : Int) c => a * 10 + ((c.toNat : Int) - 48)) (a : Int) = (valL a l : Int)
  | [], a, _ => by rw [valL_nil]; rfl
  | c :: r, a, hd => by
    have hc := hd c (by simp)
    rw [valL_cons, List.foldl_cons]
    have e : (a : Int) * 10 + ((c.toNat : Int) - 48) = ((a * 10 + (c.toNat - 48) : Nat) : Int) := by omega
    rw [e]
    exact fold_val r _ (fun x hx => hd x (by simp [hx]))
theorem pz_holds : Pz := by
  intro t W hD
  obtain ⟨h1, h2, h3, h4⟩ := hD
  have e : digits t = (valL 0 t.data.toList : Int) := fold_val t.data.toList 0 h3
  have hne : t.data.toList ≠ [] := fun e => h1 (text_inj e)
  have hp := parseInt_dig t.data.toList h3 hne
  rw [if_pos (by omega)] at hp
  rw [e]
  refine (Tryz.strconv_ParseInt_10_at64_ok t (by omega) _ hp W).mono ?_
  rintro e w' ⟨rfl, hw'⟩
  refine ⟨rfl, ?_⟩
  rcases hw' with rfl | ⟨x, rfl⟩
  · exact Below.refl _ _
  · exact Lib.bytesWorld_below W 5 x
end Go.Proofs.YtmfoehaeejhlpaaGreatDoor

/-
  The grammar: how much is enough to go on.
-/
namespace Go.Proofs.YtmfoehaeejhlpaaGreatDoor.Yn
set_option maxRecDepth 100000
/-- Enough was given, and fewer than t tokens are left. -/
def Ls {α : Type} (r : R α) (t : Nat) : Prop := r ≠ .out ∧ ∀ x s', r = .ok x s' → s'.ts.length < t
section
variable {α β : Type} {ws : List ByteArray} {s : S}
theorem Ls.bind {r : R α} {f : α → S → R β} {t u : Nat} (h : Ls r t) (hf : ∀ x s', s'.ts.length < t → Ls (f x s') u) : Ls (r.bind f) u := by
  cases r with
  | out => exact absurd rfl h.1
  | no a e => exact ⟨(by intro h; cases h), (by intro x s' h; cases h)⟩
  | ok x s' => exact hf x s' (h.2 x s' rfl)
theorem Ls.no {a e t : Nat} : Ls (.no a e : R α) t := ⟨(by intro h; cases h), (by intro x s' h; cases h)⟩
theorem Ls.ok {x : α} {t : Nat} (h : s.ts.length < t) : Ls (.ok x s) t := ⟨(by intro h; cases h), (by intro y s' e; cases e; exact h)⟩
theorem Ls.mono {r : R α} {t u : Nat} (h : Ls r t) (hu : t ≤ u) : Ls r u := ⟨h.1, fun x s' e => Nat.lt_of_lt_of_le (h.2 x s' e) hu⟩
theorem nx_lt (h : (hd s).k ≠ 0 ∨ (hd s).t ≠ bs []) : (nx s).ts.length < s.ts.length := by
  unfold hd at h
  unfold nx
  cases hs : s.ts with
  | nil =>
    rw [hs] at h
    rcases h with h | h <;> exact absurd rfl h
  | cons x l => simp
theorem isAt_ne {x : ByteArray} (hx : x ≠ bs []) (h : isAt s x = true) : (hd s).k ≠ 0 ∨ (hd s).t ≠ bs [] := by
  right
  unfold isAt at h
  rw [decide_eq_true_eq] at h
  rw [h]
  exact hx
theorem name_ne (h : isName ws s = true) : (hd s).k ≠ 0 ∨ (hd s).t ≠ bs [] := by
  left
  unfold isName at h
  rw [Bool.and_eq_true, decide_eq_true_eq] at h
  omega
theorem at_lt {x : ByteArray} (hx : x ≠ bs []) (h : isAt s x = true) : (nx s).ts.length < s.ts.length := nx_lt (isAt_ne hx h)
theorem take_ls (x : ByteArray) (hx : x ≠ bs []) : Ls (take x s) s.ts.length := by
  unfold take fail
  split
  · exact Ls.ok (at_lt hx (by assumption))
  · exact Ls.no
theorem open_ls (x : ByteArray) (hx : x ≠ bs []) : Ls (openS x s) s.ts.length := by
  unfold openS fail
  split
  · split
    · exact Ls.no
    · exact Ls.ok (at_lt hx (by assumption))
  · exact Ls.no
theorem name_ls : Ls (name ws s) s.ts.length := by
  unfold name fail
  split
  · exact Ls.ok (nx_lt (name_ne (by assumption)))
  · exact Ls.no
theorem nameNode_ls : Ls (nameNode ws s) s.ts.length := by
  unfold nameNode fail
  split
  · exact Ls.ok (nx_lt (name_ne (by assumption)))
  · exact Ls.no
theorem leave_ts : (leave s).ts = s.ts := rfl
theorem binding_ne (h : ¬ binding (hd s).t < 1) : (hd s).k ≠ 0 ∨ (hd s).t ≠ bs [] := by
  right
  intro e
  rw [e] at h
  exact h (by decide)
theorem built_ne (h : isBuiltIn (hd s).t = true) : (hd s).k ≠ 0 ∨ (hd s).t ≠ bs [] := by
  right
  intro e
  rw [e] at h
  exact absurd h (by decide)
end
theorem expr_ls (ws : List ByteArray) : ∀ n : Nat, (∀ s, 6 * s.ts.length + 4 ≤ n → Ls (cond ws n s) s.ts.length) ∧ (∀ m s, 1 ≤ m → 6 * s.ts.length + 3 ≤ n → Ls (binary ws n m s) s.ts.length) ∧ (∀ m l s, 1 ≤ m → 6 * s.ts.length + 1 ≤ n → Ls (binL ws n m l s) (s.ts.length + 1)) ∧ (∀ s, 6 * s.ts.length + 2 ≤ n → Ls (unary ws n s) s.ts.length) ∧ (∀ s, 6 * s.ts.length + 1 ≤ n → Ls (primary ws n s) s.ts.length) ∧ (∀ s, 6 * s.ts.length + 1 ≤ n → Ls (args ws n s) s.ts.length) ∧ (∀ l s, 6 * s.ts.length + 1 ≤ n → Ls (conds ws n l s) (s.ts.length + 1))
  | 0 => ⟨fun s h => by omega, fun m s _ h => by omega, fun m l s _ h => by omega, fun s h => by omega, fun s h => by omega, fun s h => by omega, fun l s h => by omega⟩
  | n + 1 => by
    obtain ⟨ic, ib, il, iu, ip, ia, is⟩ := expr_ls ws n
    refine ⟨fun s h => ?_, fun m s hm h => ?_, fun m l s hm h => ?_, fun s h => ?_, fun s h => ?_, fun s h => ?_, fun l s h => ?_⟩
    · rw [cond]
      refine (ib 1 s (by omega) (by omega)).bind fun x1 s1 h1 => ?_
      split
      · refine (open_ls _ (by decide)).bind fun _ s2 h2 => ?_
        refine (ic s2 (by omega)).bind fun _ s3 h3 => ?_
        refine (take_ls _ (by decide)).bind fun _ s4 h4 => ?_
        refine (ic s4 (by omega)).bind fun _ s5 h5 => Ls.ok ?_
        rw [leave_ts]
        omega
      · exact Ls.ok h1
    · rw [binary]
      refine (iu s (by omega)).bind fun x1 s1 h1 => ?_
      exact (il m x1 s1 hm (by omega)).mono (by omega)
    · rw [binL]
      split
      · exact Ls.ok (by omega)
      · rename_i hb
        have hx := nx_lt (binding_ne (s := s) (by omega))
        refine (ib _ _ (by omega) (by omega)).bind fun x1 s1 h1 => ?_
        exact (il m _ s1 hm (by omega)).mono (by omega)
    · rw [unary]
      split
      · rename_i hb
        rw [Bool.or_eq_true] at hb
        have hx : (hd s).t ≠ bs [] := by
          rcases hb with hb | hb
          · rcases isAt_ne (by decide) hb with c | c
            · unfold isAt at hb
              rw [decide_eq_true_eq] at hb
              rw [hb]
              decide
            · exact c
          · rcases isAt_ne (by decide) hb with c | c
            · unfold isAt at hb
              rw [decide_eq_true_eq] at hb
              rw [hb]
              decide
            · exact c
        refine (open_ls _ hx).bind fun _ s2 h2 => ?_
        refine (iu s2 (by omega)).bind fun _ s3 h3 => Ls.ok ?_
        rw [leave_ts]
        omega
      · exact ip s (by omega)
    · rw [primary]
      split
      · refine (open_ls _ (by decide)).bind fun _ s2 h2 => ?_
        refine (ic s2 (by omega)).bind fun _ s3 h3 => ?_
        refine (take_ls _ (by decide)).bind fun _ s4 h4 => Ls.ok ?_
        rw [leave_ts]
        omega
      · split
        · exact Ls.ok (nx_lt (.inl (by omega)))
        · split
          · rename_i hb
            rw [Bool.or_eq_true] at hb
            rcases hb with hb | hb <;> exact Ls.ok (at_lt (by decide) hb)
          · split
            · refine (take_ls _ (by decide)).bind fun _ s2 h2 => ?_
              refine (take_ls _ (by decide)).bind fun _ s3 h3 => ?_
              refine name_ls.bind fun _ s4 h4 => ?_
              refine (take_ls _ (by decide)).bind fun _ s5 h5 => Ls.ok (by omega)
            · split
              · rename_i hb
                have hx := nx_lt (built_ne hb)
                refine (ia _ (by omega)).bind fun _ s2 h2 => Ls.ok (by omega)
              · refine nameNode_ls.bind fun _ s1 h1 => ?_
                split
                · refine (ia _ (by omega)).bind fun _ s2 h2 => Ls.ok (by omega)
                · split
                  · rename_i hb
                    have hx := at_lt (by decide) hb
                    refine nameNode_ls.bind fun _ s2 h2 => Ls.ok (by omega)
                  · exact Ls.ok h1
    · rw [args]
      refine (open_ls _ (by decide)).bind fun _ s1 h1 => ?_
      refine Ls.bind (t := s1.ts.length + 1) ?_ fun _ s2 h2 => ?_
      · split
        · exact Ls.ok (by omega)
        · refine (ic s1 (by omega)).bind fun _ s2 h2 => ?_
          exact (is _ s2 (by omega)).mono (by omega)
      · refine (take_ls _ (by decide)).bind fun _ s3 h3 => Ls.ok ?_
        rw [leave_ts]
        omega
    · rw [conds]
      split
      · rename_i hb
        have hx := at_lt (by decide) hb
        refine (ic _ (by omega)).bind fun _ s2 h2 => ?_
        exact (is _ s2 (by omega)).mono (by omega)
      · exact Ls.ok (by omega)
end Go.Proofs.YtmfoehaeejhlpaaGreatDoor.Yn

/-
  The grammar: how much is enough to go on, in statements and programs.
-/
namespace Go.Proofs.YtmfoehaeejhlpaaGreatDoor.Yn
set_option maxRecDepth 100000
section
variable {ws : List ByteArray} {s : S} {n : Nat}
theorem cond_ls (h : 6 * s.ts.length + 4 ≤ n) : Ls (cond ws n s) s.ts.length := (expr_ls ws n).1 s h
theorem field_ls (h : 6 * s.ts.length ≤ n) : Ls (field ws n s) s.ts.length := by
  unfold field
  refine name_ls.bind fun _ s1 h1 => ?_
  refine (take_ls _ (by decide)).bind fun _ s2 h2 => ?_
  exact (cond_ls (by omega)).bind fun _ s3 h3 => Ls.ok (by omega)
theorem items_ls {p : Nat → S → R Tree} (hp : ∀ n s, 6 * s.ts.length + 4 ≤ n → Ls (p n s) s.ts.length) : ∀ (n : Nat) (l : List Tree) (s : S), 6 * s.ts.length + 1 ≤ n → Ls (items p n l s) (s.ts.length + 1)
  | 0, l, s, h => by omega
  | n + 1, l, s, h => by
    rw [items]
    split
    · rename_i hb
      have hx := at_lt (by decide) hb
      refine (hp _ _ (by omega)).bind fun _ s1 h1 => ?_
      exact (items_ls hp n _ s1 (by omega)).mono (by omega)
    · exact Ls.ok (by omega)
theorem list_ls {p : Nat → S → R Tree} (hp : ∀ n s, 6 * s.ts.length + 4 ≤ n → Ls (p n s) s.ts.length) (x : ByteArray) (h : 6 * s.ts.length + 4 ≤ n) : Ls (listS p n x s) (s.ts.length + 1) := by
  unfold listS
  split
  · exact Ls.ok (by omega)
  · refine (hp _ _ h).bind fun _ s1 h1 => ?_
    exact (items_ls hp n _ s1 (by omega)).mono (by omega)
theorem part_eq (ws : List ByteArray) (n : Nat) (s : S) : part ws n s = (name ws s).bind fun t s1 => (openS cLb s1).bind fun _ s2 => (listS (field ws) n cRb s2).bind fun l s3 => (take cRb s3).bind fun _ s4 => .ok (.mk 23 t 0 l (hd s).a) (leave s4) := by
  unfold part
  congr 1
  funext t s1
  congr 1
  funext _ s2
  congr 1
  unfold listS
  split
  · rfl
  · congr 1
    funext x s
    exact fields_items ws n [x] s
theorem part_ls (h : 6 * s.ts.length ≤ n) : Ls (part ws n s) s.ts.length := by
  rw [part_eq]
  refine name_ls.bind fun _ s1 h1 => ?_
  refine (open_ls _ (by decide)).bind fun _ s2 h2 => ?_
  refine (list_ls (fun n s h => field_ls (by omega)) _ (by omega)).bind fun _ s3 h3 => ?_
  refine (take_ls _ (by decide)).bind fun _ s4 h4 => Ls.ok ?_
  rw [leave_ts]
  omega
theorem tail_ls (h : 6 * s.ts.length + 4 ≤ n) : Ls (tail ws n s) s.ts.length := by
  unfold tail
  refine (cond_ls h).bind fun _ s1 h1 => ?_
  exact (take_ls _ (by decide)).bind fun _ s2 h2 => Ls.ok (by omega)
theorem way_lt {p : ByteArray × Nat} (hp : p ∈ ways) (h : p.1 = (hd s).t) : (nx s).ts.length < s.ts.length := by
  refine nx_lt (.inr ?_)
  rw [← h]
  rw [ways] at hp
  simp only [List.mem_cons, List.not_mem_nil, or_false] at hp
  rcases hp with rfl | rfl | rfl | rfl | rfl | rfl | rfl | rfl | rfl | rfl | rfl <;> decide
end
theorem stmt_ls (ws : List ByteArray) : ∀ n : Nat, (∀ s, 6 * s.ts.length + 1 ≤ n → Ls (stmt ws n s) s.ts.length) ∧ (∀ s, 6 * s.ts.length + 1 ≤ n → Ls (block ws n s) s.ts.length) ∧ (∀ l s, 6 * s.ts.length + 2 ≤ n → Ls (stmts ws n l s) s.ts.length)
  | 0 => ⟨fun s h => by omega, fun s h => by omega, fun l s h => by omega⟩
  | n + 1 => by
    obtain ⟨is, ib, il⟩ := stmt_ls ws n
    refine ⟨fun s h => ?_, fun s h => ?_, fun l s h => ?_⟩
    · by_cases hst : s.st = 200
      · rcases wayOf_cases (hd s).t with ⟨hw, -⟩ | ⟨p, hp, -, hw⟩
        · cases hn : isName ws s with
          | false => rw [stmt_name_no hw hn]; exact Ls.no
          | true => rw [stmt_name_full hw hn hst]; exact Ls.no
        · rw [stmt_word hw (by
            intro e
            rw [ways] at hp
            simp only [List.mem_cons, List.not_mem_nil, or_false] at hp
            rcases hp with rfl | rfl | rfl | rfl | rfl | rfl | rfl | rfl | rfl | rfl | rfl <;> cases e) hst]
          exact Ls.no
      · rcases wayOf_cases (hd s).t with ⟨hw, -⟩ | ⟨p, hp, hpt, hw⟩
        · cases hn : isName ws s with
          | false => rw [stmt_name_no hw hn]; exact Ls.no
          | true =>
            rw [stmt_set hw hn hst]
            refine Ls.bind (t := s.ts.length) (show Ls (name ws (up s)) (up s).ts.length from name_ls) fun _ s1 h1 => ?_
            split
            · rename_i hb
              have hx := at_lt (by decide) hb
              refine nameNode_ls.bind fun _ s2 h2 => ?_
              refine (take_ls _ (by decide)).bind fun _ s3 h3 => ?_
              exact (tail_ls (by omega)).bind fun _ s4 h4 => Ls.ok (by omega)
            · refine (take_ls _ (by decide)).bind fun _ s3 h3 => ?_
              exact (tail_ls (by omega)).bind fun _ s4 h4 => Ls.ok (by omega)
        · have e0 : (nx (up s)).ts.length < s.ts.length := way_lt hp hpt
          rw [ways] at hp
          simp only [List.mem_cons, List.not_mem_nil, or_false] at hp
          rcases hp with rfl | rfl | rfl | rfl | rfl | rfl | rfl | rfl | rfl | rfl | rfl
          · rw [stmt_let hst hw]
            refine name_ls.bind fun _ s1 h1 => ?_
            refine (take_ls _ (by decide)).bind fun _ s2 h2 => ?_
            exact (tail_ls (by omega)).bind fun _ s3 h3 => Ls.ok (by omega)
          · rw [stmt_if hst hw]
            refine (cond_ls (by omega)).bind fun _ s1 h1 => ?_
            refine (ib s1 (by omega)).bind fun _ s2 h2 => ?_
            split
            · rename_i hb
              have hx := at_lt (by decide) hb
              refine Ls.bind (t := (nx s2).ts.length) ?_ fun _ s3 h3 => Ls.ok (by omega)
              split
              · exact is _ (by omega)
              · exact ib _ (by omega)
            · exact Ls.ok (by omega)
          · rw [stmt_while hst hw]
            refine (cond_ls (by omega)).bind fun _ s1 h1 => ?_
            exact (ib s1 (by omega)).bind fun _ s2 h2 => Ls.ok (by omega)
          · rw [stmt_repeat hst hw]
            refine (cond_ls (by omega)).bind fun _ s1 h1 => ?_
            exact (ib s1 (by omega)).bind fun _ s2 h2 => Ls.ok (by omega)
          · rw [stmt_emit hst hw]
            refine (cond_ls (by omega)).bind fun _ s1 h1 => ?_
            refine (take_ls _ (by decide)).bind fun _ s2 h2 => ?_
            exact (tail_ls (by omega)).bind fun _ s3 h3 => Ls.ok (by omega)
          · rw [stmt_spawn hst hw]
            refine (list_ls (fun n s h => part_ls (by omega)) _ (by omega)).bind fun _ s1 h1 => ?_
            exact (take_ls _ (by decide)).bind fun _ s2 h2 => Ls.ok (by omega)
          · rw [stmt_add hst hw]
            refine (part_ls (by omega)).bind fun _ s1 h1 => ?_
            exact (take_ls _ (by decide)).bind fun _ s2 h2 => Ls.ok (by omega)
          · rw [stmt_remove hst hw]
            refine name_ls.bind fun _ s1 h1 => ?_
            exact (take_ls _ (by decide)).bind fun _ s2 h2 => Ls.ok (by omega)
          · rw [stmt_die hst hw]
            exact (take_ls _ (by decide)).bind fun _ s2 h2 => Ls.ok (by omega)
          · rw [stmt_stop hst hw]
            exact (take_ls _ (by decide)).bind fun _ s2 h2 => Ls.ok (by omega)
          · rw [stmt_return hst hw]
            exact (tail_ls (by omega)).bind fun _ s3 h3 => Ls.ok (by omega)
    · rw [block]
      refine (open_ls _ (by decide)).bind fun _ s1 h1 => ?_
      refine (il _ s1 (by omega)).bind fun _ s2 h2 => Ls.ok ?_
      rw [leave_ts]
      omega
    · rw [stmts]
      split
      · exact Ls.ok (at_lt (x := cRb) (by decide) (by assumption))
      · refine (is s (by omega)).bind fun _ s1 h1 => ?_
        exact (il _ s1 (by omega)).mono (by omega)
theorem names_ls (ws : List ByteArray) : ∀ (n most sum : Nat) (l : List Tree) (s : S), s.ts.length + 1 ≤ n → Ls (names ws n most sum l s) s.ts.length
  | 0, most, sum, l, s, h => by omega
  | n + 1, most, sum, l, s, h => by
    rw [names]
    unfold needName fail
    split
    · show Ls (if sum = most then _ else _) _
      split
      · exact Ls.no
      · refine nameNode_ls.bind fun _ s1 h1 => ?_
        split
        · rename_i hb
          have hx := at_lt (by decide) hb
          exact (names_ls ws n most _ _ _ (by omega)).mono (by omega)
        · exact Ls.ok h1
    · exact Ls.no
section
variable {ws : List ByteArray} {s : S} {n : Nat}
theorem clause_ls {x : ByteArray} (hx : x ≠ bs []) (h : 6 * s.ts.length + 1 ≤ n) : Ls (clauseS ws n x s) (s.ts.length + 1) := by
  unfold clauseS
  split
  · rename_i hb
    have h0 := at_lt hx hb
    exact (names_ls ws n _ _ _ _ (by omega)).bind fun _ s1 h1 => Ls.ok (by omega)
  · exact Ls.ok (by omega)
theorem clauses_ls : ∀ (l : List ByteArray) (r : List Tree) (s : S), (∀ x ∈ l, x ≠ bs []) → 6 * s.ts.length + 1 ≤ n → Ls (clausesS ws n l r s) (s.ts.length + 1)
  | [], r, s, _, h => Ls.ok (by omega)
  | x :: l, r, s, hx, h => by
    rw [clausesS]
    refine (clause_ls (hx x List.mem_cons_self) h).bind fun _ s1 h1 => ?_
    exact (clauses_ls l _ s1 (fun y hy => hx y (List.mem_cons_of_mem _ hy)) (by omega)).mono (by omega)
theorem param_ls (h : 6 * s.ts.length + 1 ≤ n) : Ls (paramS ws n s) s.ts.length := by
  unfold paramS
  refine (take_ls _ (by decide)).bind fun _ s1 h1 => ?_
  split
  · exact (take_ls _ (by decide)).bind fun _ s2 h2 => Ls.ok (by omega)
  · refine (names_ls ws n _ _ _ _ (by omega)).bind fun _ s2 h2 => ?_
    exact (take_ls _ (by decide)).bind fun _ s3 h3 => Ls.ok (by omega)
theorem func_ls (h : 6 * s.ts.length + 1 ≤ n) : Ls (funcS ws n s) s.ts.length := by
  unfold funcS fail
  split
  · split
    · exact Ls.no
    · refine Ls.bind (t := s.ts.length) (show Ls (take wFunc (upF s)) (upF s).ts.length from take_ls _ (by decide)) fun _ s1 h1 => ?_
      refine name_ls.bind fun _ s2 h2 => ?_
      refine (param_ls (by omega)).bind fun _ s3 h3 => ?_
      exact ((stmt_ls ws n).2.1 s3 (by omega)).bind fun _ s4 h4 => Ls.ok (by omega)
  · exact Ls.no
theorem system_ls (h : 6 * s.ts.length + 1 ≤ n) : Ls (systemS ws n s) s.ts.length := by
  unfold systemS fail
  split
  · exact Ls.no
  · refine Ls.bind (t := s.ts.length) (show Ls (take wSystem (upY s)) (upY s).ts.length from take_ls _ (by decide)) fun _ s1 h1 => ?_
    refine name_ls.bind fun _ s2 h2 => ?_
    refine (clauses_ls clauseWords [] s2 (by decide) (by omega)).bind fun _ s3 h3 => ?_
    exact ((stmt_ls ws n).2.1 s3 (by omega)).bind fun _ s4 h4 => Ls.ok (by omega)
theorem member_ls (h : 6 * s.ts.length + 1 ≤ n) : Ls (memberS ws n s) s.ts.length := by
  unfold memberS
  split
  · exact system_ls h
  · exact func_ls h
end
theorem prog_ls (ws : List ByteArray) : ∀ (n : Nat) (l : List Tree) (s : S), 6 * s.ts.length + 2 ≤ n → Ls (progS ws n l s) (s.ts.length + 1)
  | 0, l, s, h => by omega
  | n + 1, l, s, h => by
    rw [progS]
    split
    · exact Ls.ok (by omega)
    · refine (member_ls (by omega)).bind fun _ s1 h1 => ?_
      exact (prog_ls ws n _ s1 (by omega)).mono (by omega)
end Go.Proofs.YtmfoehaeejhlpaaGreatDoor.Yn

/-
  lex.Words; and Parse, whole.
-/
namespace Go.Proofs.YtmfoehaeejhlpaaGreatDoor
open Go.RowKit Yn
set_option maxRecDepth 1000000
namespace Le
def meaning : ByteArray := { data := (([97, 98, 115, 32, 97, 100, 100, 32, 100, 105, 101, 32, 101, 108, 115, 101, 32, 101, 109, 105, 116, 32, 102, 117, 110, 99, 32, 104, 97, 115, 32, 105, 102].append [32, 105, 110, 112, 117, 116, 32, 108, 101, 116, 32, 109, 97, 120, 32, 109, 101, 32, 109, 105, 110, 32, 114, 97, 110, 100, 32, 114, 101, 97, 100, 115, 32, 114]).append ([101, 109, 111, 118, 101, 32, 114, 101, 112, 101, 97, 116, 32, 114, 101, 116, 117, 114, 110, 32, 115, 112, 97, 119, 110, 32, 115, 116, 111, 112, 32, 115, 121, 115].append [116, 101, 109, 32, 116, 105, 99, 107, 32, 119, 104, 105, 108, 101, 32, 119, 105, 116, 104, 32, 119, 105, 116, 104, 111, 117, 116, 32, 119, 114, 105, 116, 101, 115])).toArray }
def ws : List (List UInt8) := [[97, 98, 115], [97, 100, 100], [100, 105, 101], [101, 108, 115, 101], [101, 109, 105, 116], [102, 117, 110, 99], [104, 97, 115], [105, 102], [105, 110, 112, 117, 116], [108, 101, 116], [109, 97, 120], [109, 101], [109, 105, 110], [114, 97, 110, 100], [114, 101, 97, 100, 115], [114, 101, 109, 111, 118, 101], [114, 101, 112, 101, 97, 116], [114, 101, 116, 117, 114, 110], [115, 112, 97, 119, 110], [115, 116, 111, 112], [115, 121, 115, 116, 101, 109], [116, 105, 99, 107], [119, 104, 105, 108, 101], [119, 105, 116, 104], [119, 105, 116, 104, 111, 117, 116], [119, 114, 105, 116, 101, 115]]
def wsL : List Value := ws.map fun l => Value.string ⟨l.toArray⟩
theorem fields_meaning : Lib.fields meaning.data.toList = ws := by kernel_rfl
theorem ascii_meaning : ∀ (j : Nat) b, meaning.data.toList[j]? = some b → b.toNat < 128 := by
  intro j b h
  have hm := List.mem_of_getElem? h
  have : meaning.data.toList.all (fun b => decide (b.toNat < 128)) = true := by kernel_rfl
  exact of_decide_eq_true (List.all_eq_true.1 this b hm)
/-- The library's table of blanks has its value. -/
def Tb (w : World) : Prop := Lib.TabIs Tryz.prog w "strings.asciiSpace" .u8 Lib.asciiSpaceTab
theorem gTab : Tryz.prog.globalNamed "strings.asciiSpace" = some 0 := by kernel_rfl
theorem Tb.below {w w' : World} {B : Nat} (h : Tb w) (hb : Below B w w') (hB : w.heap.size ≤ B) : Tb w' := Joins.tab_stays gTab h hb hB
theorem words_any (w : World) (ht : Tb w) : Calls Tryz.prog 23 #[] w fun e w' => e = .returned (.slice (some ⟨w.heap.size, 0, none⟩) 26 26) ∧ w' = w.alloc (.cells wsL.toArray 9) := by
  have c20 := Tryz.strings_Fields meaning w (by decide) ascii_meaning ht
  rw [fields_meaning] at c20
  go_enter Tryz.func23, Tryz.ntmps23
  go_wp2_with (go_at_call 42; refine c20.mono ?_; rintro e w' ⟨rfl, rfl⟩)
  go_ret
  exact ⟨rfl, rfl⟩
end Le
/-- The words. -/
def wsB : List ByteArray := Le.ws.map fun l => ⟨l.toArray⟩
/-- What the library's variables must hold. -/
def Kd (W : World) : Prop := Le.Wd W ∧ Le.Tb W
theorem Kd.below {W W' : World} (h : Kd W) (hb : Below W.heap.size W W') : Kd W' := ⟨h.1.below h.1.lt hb, h.2.below hb (Nat.le_refl _)⟩
theorem wz_holds : Wz Kd wsB := by
  intro W hK
  refine (Le.words_any W hK.2).mono ?_
  rintro e w' ⟨rfl, rfl⟩
  have hg := heap_alloc_new W (.cells Le.wsL.toArray 9)
  refine ⟨below_alloc W _, _, rfl, ⟨W.heap.size, 26, rfl, by decide, by decide, fun i hi => ?_⟩, fun j e => ?_⟩
  · rw [cell_of_row _ W.heap.size _ _ 9 (0, 0) hg]
    show Le.wsL.toArray[i]? = _
    rw [List.getElem?_toArray]
    have e : Le.wsL = wsB.map Value.string := by
      unfold wsB Le.wsL
      rw [List.map_map]
      rfl
    rw [e, List.getElem?_map, List.getElem?_eq_getElem hi]
    rfl
  · have e' : W.heap.size = j := Option.some.inj e
    have : (W.alloc (.cells Le.wsL.toArray 9)).heap.size = W.heap.size + 1 := Array.size_push ..
    omega
theorem lex_len2 {s : ByteArray} : ∀ (j a : Nat) (l : List Le.Tk), s.size + 1 ≤ j + a → a ≤ s.size → Le.lexF (Le.bt s) s.size j a = .ok l → l.length + a ≤ s.size + 1
  | 0, a, l, h1, h2, _ => by omega
  | j + 1, a, l, h1, h2, h => by
    have hz := Le.bt_z s
    rw [Le.lexF] at h
    cases hst : Le.stepL (Le.bt s) s.size a with
    | fin =>
      rw [hst] at h
      injection h with h
      subst h
      simp
      omega
    | go b =>
      rw [hst] at h
      have hb := Le.stepL_go hz hst
      have := lex_len2 j b l (by omega) hb.2.1 h
      omega
    | bad b =>
      rw [hst] at h
      cases h
    | tok k b e =>
      rw [hst] at h
      have h : Le.Rs.cons ⟨k, b, e⟩ (Le.lexF (Le.bt s) s.size j e) = .ok l := h
      obtain ⟨rfl, hb1, hb2, -, -⟩ := Le.stepL_tok hz hst
      cases hr : Le.lexF (Le.bt s) s.size j e with
      | no x =>
        rw [hr] at h
        cases h
      | ok l2 =>
        rw [hr] at h
        injection h with h
        subst h
        have := lex_len2 j e l2 (by omega) hb2 hr
        simp
        omega
theorem lex_len {s : ByteArray} (hs : s.size ≤ 8000) : ∀ (j a : Nat) (l : List Le.Tk), s.size + 1 ≤ j + a → a ≤ s.size → Le.lexF (Le.bt s) s.size j a = .ok l → l.length ≤ 8001
  | j, a, l, h1, h2, h => by
    have := lex_len2 j a l h1 h2 h
    omega
/-- What a source is read as. -/
def parseT (src : ByteArray) : R Tree := parseS wsB lxS 100000 src
theorem parseT_out (src : ByteArray) : parseT src ≠ .out := by
  unfold parseT parseS
  cases h : lxS src with
  | error p => intro h; cases h
  | ok ts =>
    have hl : ts.length ≤ 8001 := by
      unfold lxS at h
      split at h
      · split at h
        · rename_i l hl
          injection h with h
          subst h
          rw [List.length_map]
          exact lex_len (by assumption) (src.size + 1) 0 l (by omega) (by omega) hl
        · cases h
      · cases h
    exact (prog_ls wsB 100000 [] ⟨ts, 0, 0, 0, 0⟩ (show 6 * ts.length + 2 ≤ 100000 by omega)).1
/-- Parse, of any source. -/
theorem parse_all (src : ByteArray) (W : World) (hK : Kd W) : Calls Tryz.prog 8 #[.string src] W (Prs W (parseT src)) := parse_any pz_holds (fun W h => lx_holds src W h.1) wz_holds (fun _ _ h hb => h.below hb) (by decide) W hK rfl (parseT_out src)
end Go.Proofs.YtmfoehaeejhlpaaGreatDoor
