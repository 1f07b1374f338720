import Derived.Test.YtmfoehaeejhlpaaGreatDoorGaAU
import Derived.Test.YtmfoehaeejhlpaaGreatDoorShelf
import Derived.Lib.AtoiErrMem
import Derived.LoopN
/-
  skip: past blanks and remarks.
-/
namespace Go.Proofs.YtmfoehaeejhlpaaGreatDoor.Le
open Go.RowKit
set_option maxRecDepth 1000000

theorem hp_any (s : ByteArray) (p : Nat) (c d : UInt8) (hc : c ≠ 0) (hd : d ≠ 0) (w : World) :
    Calls Tryz.prog 101 #[.string (s.extract p s.size), .string ⟨#[c, d]⟩] w fun e w' => e = .returned (.bool (bt s p == c.toNat && bt s (p + 1) == d.toNat)) ∧ w' = w := by
  have h := Tryz.strings_HasPrefix (s.extract p s.size) ⟨#[c, d]⟩ w
  rw [show (⟨#[c, d]⟩ : ByteArray).data.toList = [c, d] from rfl, hasPrefix_two _ c d hc hd] at h
  have e : ∀ i, ((s.extract p s.size).data.toList.getD i 0).toNat = bt s (p + i) := fun i => by
    have := bt_ext s p s.size i (Nat.le_refl _)
    unfold bt at this ⊢
    rw [this]
    split
    · rfl
    · rename_i h
      have := bt_z s (p + i) (by omega)
      unfold bt at this
      rw [this]
  have q : ∀ x y : UInt8, (x == y) = (x.toNat == y.toNat) := fun x y => by
    rw [Bool.eq_iff_iff]
    simp [UInt8.toNat_inj]
  rw [q, q, e 0, e 1] at h
  exact h

/-- What holds at a jump to between, line, remark. -/
def SkI (s : ByteArray) (at0 l m p st : Nat) : Prop := at0 ≤ p ∧ p ≤ s.size ∧ match l with
  | 0 => lexA (bt s) s.size at0 = lexA (bt s) s.size p ∧ m = 3 * (s.size - p) + 1
  | 1 => lexA (bt s) s.size at0 = lexA (bt s) s.size (runE (fun j => bt s j != 10) (s.size - p) p) ∧ m = 3 * (s.size - p) + (if p = s.size ∨ bt s p = 10 then 2 else 0)
  | 2 => lexA (bt s) s.size at0 = remR (bt s) s.size st (remE (bt s) (s.size - p) p) ∧ m = 3 * (s.size - p) + 1
  | _ => False
def SkJ (s : ByteArray) (at0 : Nat) (w0 : World) (l m : Nat) (a : Act) (w : World) : Prop := w = w0 ∧ ∃ (p st : Nat) (u7 u8 u9 u10 u11 u12 u13 u14 u15 u16 u17 u18 u19 u20 u21 u22 u23 u24 u25 u26 u27 u28 u29 u30 u31 u32 u33 u34 u35 u36 u37 u38 u39 u40 u41 u42 u43 u44 u45 u46 u47 u48 u49 u50 u51 u52 u53 u54 : Value), a = { tmps := #[.string s, .int .i64 (p : Nat), undef, undef, .int .i64 0, .bool false, .int .i64 (st : Nat), u7, u8, u9, u10, u11, u12, u13, u14, u15, u16, u17, u18, u19, u20, u21, u22, u23, u24, u25, u26, u27, u28, u29, u30, u31, u32, u33, u34, u35, u36, u37, u38, u39, u40, u41, u42, u43, u44, u45, u46, u47, u48, u49, u50, u51, u52, u53, u54], defers := [] } ∧ SkI s at0 l m p st

theorem skip_any (s : ByteArray) (at0 : Nat) (hat : at0 ≤ s.size) (hs : s.size ≤ 8000) (w : World) :
    Calls Tryz.prog 68 #[.string s, .int .i64 at0] w fun e w' => w' = w ∧ ((∃ p : Nat, e = .returned (.tuple #[.int .i64 p, .bool true]) ∧ at0 ≤ p ∧ p ≤ s.size ∧ Stl (bt s) p ∧ lexA (bt s) s.size at0 = lexA (bt s) s.size p) ∨
      (∃ p : Nat, e = .returned (.tuple #[.int .i64 p, .bool false]) ∧ lexA (bt s) s.size at0 = .no p)) := by
  go_enter Tryz.func68, Tryz.ntmps68
  go_wp2
  show Code.wp Tryz.prog (Code.scope _) (bodyPost Tryz.prog Tryz.f68 _) _ _
  refine scope_three (x0 := ?x0) (x1 := ?x1) (x2 := ?x2) (SkJ s at0 w) ?hJ ?h0 ?h1 ?h2 ?p0 ?p1 ?p2 ?first
  case h0 => rfl
  case h1 => rfl
  case h2 => rfl
  case hJ =>
    rintro l m a w' ⟨_, p, st, u7, u8, u9, u10, u11, u12, u13, u14, u15, u16, u17, u18, u19, u20, u21, u22, u23, u24, u25, u26, u27, u28, u29, u30, u31, u32, u33, u34, u35, u36, u37, u38, u39, u40, u41, u42, u43, u44, u45, u46, u47, u48, u49, u50, u51, u52, u53, u54, _, _, _, h⟩
    match l with
    | 0 => omega
    | 1 => omega
    | 2 => omega
    | _ + 3 => exact h.elim
  case p0 =>
    rintro m a w' ⟨rfl, p, st, u7, u8, u9, u10, u11, u12, u13, u14, u15, u16, u17, u18, u19, u20, u21, u22, u23, u24, u25, u26, u27, u28, u29, u30, u31, u32, u33, u34, u35, u36, u37, u38, u39, u40, u41, u42, u43, u44, u45, u46, u47, u48, u49, u50, u51, u52, u53, u54, rfl, h1, h2, h3, h4⟩
    have cpk := peek_any s p h2
    have cbl := isblank_any (bt s p) (bt_lt s p)
    have ch1 := hp_any s p 47 47 (by decide) (by decide)
    have ch2 := hp_any s p 47 42 (by decide) (by decide)
    go_wp2_with (first | (go_at_call 72; refine (cpk _).mono ?_; rintro e w' ⟨rfl, rfl⟩) | (go_at_call 100; refine (cbl _).mono ?_; rintro e w' ⟨rfl, rfl⟩) | (go_at_call 101; first | (refine (ch1 _).mono ?_; rintro e w' ⟨rfl, rfl⟩) | (refine (ch2 _).mono ?_; rintro e w' ⟨rfl, rfl⟩)))
    · rename_i hb
      refine wp_goto ?_
      obtain ⟨e1, e2⟩ := lexA_blank (bt_z s) hb
      show ∃ m', m' < m ∧ SkJ s at0 w' 0 m' _ _
      refine ⟨3 * (s.size - (p + 1)) + 1, by omega, rfl, p + 1, st, ?_⟩
      repeat apply Exists.intro
      exact ⟨rfl, by omega, by omega, by rw [h3, e2], rfl⟩
    · rename_i hb hp
      refine wp_goto ?_
      simp only [beq_iff_eq] at hp
      obtain ⟨e1, e2⟩ := lexA_line (bt_z s) hp
      show ∃ m', m' < m ∧ SkJ s at0 w' 1 m' _ _
      refine ⟨3 * (s.size - p) + 0, by omega, rfl, p, st, ?_⟩
      repeat apply Exists.intro
      exact ⟨rfl, by omega, by omega, by rw [h3, e2], by rw [if_neg (by omega)]⟩
    · rename_i hb hp1 hp
      refine wp_goto ?_
      simp only [beq_iff_eq] at hp
      obtain ⟨e1, e2⟩ := lexA_rem (bt_z s) hp
      show ∃ m', m' < m ∧ SkJ s at0 w' 2 m' _ _
      refine ⟨3 * (s.size - (p + 2)) + 1, by omega, rfl, p + 2, p, ?_⟩
      repeat apply Exists.intro
      exact ⟨rfl, by omega, by omega, by rw [h3, e2], rfl⟩
    · have hb : isBl (bt s p) = false := by assumption
      have hp1 : (bt s p == 47) = false ∨ (bt s (p + 1) == 47) = false := by assumption
      have hp : (bt s p == 47) = false ∨ (bt s (p + 1) == 42) = false := by assumption
      rw [jumps_ret]
      go_ret2
      simp only [beq_eq_false_iff_ne, ne_eq] at hp hp1
      refine ⟨rfl, Or.inl ⟨p, rfl, h1, h2, ⟨hb, by omega, by omega⟩, h3⟩⟩
  case p1 =>
    rintro m a w' ⟨rfl, p, st, u7, u8, u9, u10, u11, u12, u13, u14, u15, u16, u17, u18, u19, u20, u21, u22, u23, u24, u25, u26, u27, u28, u29, u30, u31, u32, u33, u34, u35, u36, u37, u38, u39, u40, u41, u42, u43, u44, u45, u46, u47, u48, u49, u50, u51, u52, u53, u54, rfl, h1, h2, h3, h4⟩
    go_wp2
    · rename_i hp hb
      refine wp_goto ?_
      rw [← bt_at s p hp] at hb
      have hb' : bt s p ≠ 10 := by intro h; rw [h] at hb; exact absurd hb (by decide)
      rw [if_neg (by omega)] at h4
      show ∃ m', m' < m ∧ SkJ s at0 w' 1 m' _ _
      refine ⟨3 * (s.size - (p + 1)) + (if p + 1 = s.size ∨ bt s (p + 1) = 10 then 2 else 0), by split <;> omega, rfl, p + 1, st, ?_⟩
      repeat apply Exists.intro
      exact ⟨rfl, by omega, by omega, by rw [h3, runE_succ hp (by simpa using hb')], rfl⟩
    · have hp : p < s.size := by assumption
      have hb : (((s[p]'hp).toNat : Int) != 10) = false := by assumption
      refine wp_goto ?_
      rw [← bt_at s p hp] at hb
      have hb' : bt s p = 10 := by
        have : ((bt s p : Nat) : Int) = 10 := by simpa using hb
        omega
      rw [if_pos (Or.inr hb')] at h4
      show ∃ m', m' < m ∧ SkJ s at0 w' 0 m' _ _
      refine ⟨3 * (s.size - p) + 1, by omega, rfl, p, st, ?_⟩
      repeat apply Exists.intro
      exact ⟨rfl, by omega, by omega, by rw [h3, runE_stop (Or.inr (by simpa using hb'))], rfl⟩
    · rename_i hp
      refine wp_goto ?_
      rw [if_pos (Or.inl (by omega))] at h4
      show ∃ m', m' < m ∧ SkJ s at0 w' 0 m' _ _
      refine ⟨3 * (s.size - p) + 1, by omega, rfl, p, st, ?_⟩
      repeat apply Exists.intro
      exact ⟨rfl, by omega, by omega, by rw [h3, runE_stop (Or.inl (by omega))], rfl⟩
  case p2 =>
    rintro m a w' ⟨rfl, p, st, u7, u8, u9, u10, u11, u12, u13, u14, u15, u16, u17, u18, u19, u20, u21, u22, u23, u24, u25, u26, u27, u28, u29, u30, u31, u32, u33, u34, u35, u36, u37, u38, u39, u40, u41, u42, u43, u44, u45, u46, u47, u48, u49, u50, u51, u52, u53, u54, rfl, h1, h2, h3, h4⟩
    have ch1 := hp_any s p 42 47 (by decide) (by decide)
    go_wp2_with (go_at_call 101; refine (ch1 _).mono ?_; rintro e w' ⟨rfl, rfl⟩)
    · rename_i hp
      rw [jumps_ret]
      go_ret2
      simp only [beq_iff_eq] at hp
      have : p = s.size := by omega
      rw [this, Nat.sub_self, remE] at h3
      exact ⟨rfl, Or.inr ⟨st, rfl, h3⟩⟩
    · rename_i hp hb
      refine wp_goto ?_
      simp only [beq_iff_eq] at hb
      have hn : p + 1 < s.size := by
        by_cases g : p + 1 < s.size
        · exact g
        · have := bt_z s (p + 1) (by omega); omega
      show ∃ m', m' < m ∧ SkJ s at0 w' 0 m' _ _
      refine ⟨3 * (s.size - (p + 2)) + 1, by omega, rfl, p + 2, st, ?_⟩
      repeat apply Exists.intro
      exact ⟨rfl, by omega, by omega, by rw [h3, remE_hit (by omega) hb, remR], rfl⟩
    · rename_i hb
      have hp : ((p : Int) == (s.size : Int)) = false := by assumption
      refine wp_goto ?_
      simp only [beq_eq_false_iff_ne, ne_eq] at hp hb
      show ∃ m', m' < m ∧ SkJ s at0 w' 2 m' _ _
      refine ⟨3 * (s.size - (p + 1)) + 1, by omega, rfl, p + 1, st, ?_⟩
      repeat apply Exists.intro
      exact ⟨rfl, by omega, by omega, by rw [h3, remE_miss (by omega) (by omega)], rfl⟩
  case first =>
    intro p0
    go_wp2
    rename_i K hK
    refine wp_label ?_
    refine hK _ _ (p0 (3 * (s.size - at0) + 1) _ _ ⟨rfl, at0, 0, ?_⟩)
    repeat apply Exists.intro
    exact ⟨rfl, Nat.le_refl _, hat, rfl, rfl⟩
end Go.Proofs.YtmfoehaeejhlpaaGreatDoor.Le

/-
  isNumber, signSize.
-/
namespace Go.Proofs.YtmfoehaeejhlpaaGreatDoor.Le
open Go.RowKit
set_option maxRecDepth 1000000

/-- The library's error of range has its value. -/
def Wd (w : World) : Prop := ∃ ev, w.cell? ⟨3, 0, none⟩ = some ev ∧ (ev = .nilIface ∨ ∃ te pe, ev = .iface te pe)
theorem Wd.lt {w : World} (h : Wd w) : 3 < w.heap.size := by
  obtain ⟨ev, h, _⟩ := h
  by_cases g : 3 < w.heap.size
  · exact g
  · have : w.heap[3]? = none := Array.getElem?_eq_none (by omega)
    simp [World.cell?, this] at h
theorem Wd.below {w w' : World} {n : Nat} (h : Wd w) (hn : 3 < n) (hb : Below n w w') : Wd w' := by
  obtain ⟨ev, h, h'⟩ := h
  refine ⟨ev, ?_, h'⟩
  rw [← h]
  exact hb.cell hn
theorem below_bytes (w : World) (t : ByteArray) : Below w.heap.size w (Lib.bytesWorld w 5 t) := by
  exact Lib.bytesWorld_below w 5 t

theorem isnumber_any (s : ByteArray) (hs : s.size ≤ 8000) (h0 : 0 < s.size) (hd : Dig s.data.toList) (w : World) (hw : Wd w) :
    Calls Tryz.prog 73 #[.string s] w fun e w' => e = .returned (.bool ((s.size == 1 || bt s 0 != 48) && decide (valL 0 s.data.toList < 9223372036854775808))) ∧ Below w.heap.size w w' := by
  have hne : s.data.toList ≠ [] := by
    intro h
    have h1 : s.data.toList.length = 0 := by rw [h]; rfl
    rw [Array.length_toList] at h1
    have h2 : s.size = 0 := h1
    omega
  have hp := parseInt_dig s.data.toList hd hne
  have b0 := bt_at s 0 h0
  by_cases hv : valL 0 s.data.toList < 9223372036854775808
  · rw [if_pos hv] at hp
    have c := Tryz.strconv_ParseInt_10_at64_ok s (by omega) _ hp
    go_enter Tryz.func73, Tryz.ntmps73
    go_wp2_with (go_at_call 102; refine (c _).mono ?_; rintro e w' ⟨rfl, hw'⟩)
    · rename_i h
      go_ret
      refine ⟨?_, Below.refl _ _⟩
      have e1 : bt s 0 = 48 := by
        rw [b0]
        have : ((s[0].toNat : Nat) : Int) = 48 := by simpa using h
        omega
      have e2 : ((s.size : Int) == 1) = (s.size == 1) := by
        rw [Bool.eq_iff_iff]; simp; omega
      rw [e1]
      show Ending.returned (Value.bool ((s.size : Int) == 1)) = _
      rw [e2]
      simp [hv]
    · rename_i h
      go_ret
      have e1 : bt s 0 ≠ 48 := by
        rw [b0]
        intro hh
        rw [hh] at h
        cases h
      refine ⟨?_, ?_⟩
      · show Ending.returned (Value.bool true) = _
        simp [e1, hv]
      · rcases hw' with rfl | ⟨t, rfl⟩
        · exact Below.refl _ _
        · exact below_bytes w t
  · rw [if_neg hv] at hp
    obtain ⟨ev, hc, hev⟩ := hw
    have c := Tryz.strconv_ParseInt_10_at64_range s (by omega) hp ev w hc hev
    go_enter Tryz.func73, Tryz.ntmps73
    go_wp2_with (go_at_call 102; refine c.mono ?_; rintro e w' ⟨N, rfl, hN, hN', hbl⟩)
    · rename_i h
      go_ret
      refine ⟨?_, Below.refl _ _⟩
      have e1 : bt s 0 = 48 := by
        rw [b0]
        have : ((s[0].toNat : Nat) : Int) = 48 := by simpa using h
        omega
      have e3 : s.size ≠ 1 := by
        intro h1
        obtain ⟨x, hx⟩ : ∃ x, s.data.toList = [x] := List.length_eq_one_iff.1 (by rw [Array.length_toList]; exact h1)
        have hx0 : x.toNat = 48 := by
          unfold bt at e1
          rw [hx] at e1
          exact e1
        rw [hx, valL_cons, valL_nil] at hv
        omega
      have e2 : ((s.size : Int) == 1) = false := by
        simp; omega
      show Ending.returned (Value.bool ((s.size : Int) == 1)) = _
      rw [e2]
      simp [hv]
    · rename_i h
      go_ret
      refine ⟨?_, hbl⟩
      show Ending.returned (Value.bool false) = _
      simp [hv]

theorem one_idx (c : Nat) (hc : c < 256) : decide (Lib.indexByte [43, 45, 42, 47, 37, 60, 62, 33, 61, 40, 41, 123, 125, 44, 59, 58, 63, 46] (c : Int).toNat.toUInt8 < 0) = !one c := by
  have : ∀ c : Fin 256, decide (Lib.indexByte [43, 45, 42, 47, 37, 60, 62, 33, 61, 40, 41, 123, 125, 44, 59, 58, 63, 46] c.val.toUInt8 < 0) = !one c.val := by decide
  exact this ⟨c, hc⟩

theorem signsize_any (s : ByteArray) (st : Nat) (hst : st < s.size) (_hs : s.size ≤ 8000) (w : World) :
    Calls Tryz.prog 74 #[.string (s.extract st s.size)] w fun e w' => e = .returned (.int .i64 (sgn (bt s st) (bt s (st + 1)) : Nat)) ∧ w' = w := by
  have hz : (s.extract st s.size).size = s.size - st := by simp
  have h0 : (s.extract st s.size)[0]'(by omega) = s[st] := by simp [ByteArray.getElem_extract]
  have c45 := Tryz.strings_IndexByte ⟨#[43, 45, 42, 47, 37, 60, 62, 33, 61, 40, 41, 123, 125, 44, 59, 58, 63, 46]⟩ (bt s st)
  have ho := one_idx (bt s st) (bt_lt s st)
  rw [show (⟨#[43, 45, 42, 47, 37, 60, 62, 33, 61, 40, 41, 123, 125, 44, 59, 58, 63, 46]⟩ : ByteArray).data.toList = [43, 45, 42, 47, 37, 60, 62, 33, 61, 40, 41, 123, 125, 44, 59, 58, 63, 46] from rfl] at c45
  generalize Lib.indexByte [43, 45, 42, 47, 37, 60, 62, 33, 61, 40, 41, 123, 125, 44, 59, 58, 63, 46] ((bt s st : Nat) : Int).toNat.toUInt8 = v at c45 ho
  rw [bt_at s st hst] at c45
  have x0 : ∀ w, (Instr.index 153 (.agg #[.string ⟨#[61, 61]⟩, .string ⟨#[33, 61]⟩, .string ⟨#[60, 61]⟩, .string ⟨#[62, 61]⟩, .string ⟨#[38, 38]⟩, .string ⟨#[124, 124]⟩]) (.int .i64 0)).run Tryz.prog w = .ok (.string ⟨#[61, 61]⟩) w := fun _ => by kernel_rfl
  have x1 : ∀ w, (Instr.index 153 (.agg #[.string ⟨#[61, 61]⟩, .string ⟨#[33, 61]⟩, .string ⟨#[60, 61]⟩, .string ⟨#[62, 61]⟩, .string ⟨#[38, 38]⟩, .string ⟨#[124, 124]⟩]) (.int .i64 1)).run Tryz.prog w = .ok (.string ⟨#[33, 61]⟩) w := fun _ => by kernel_rfl
  have x2 : ∀ w, (Instr.index 153 (.agg #[.string ⟨#[61, 61]⟩, .string ⟨#[33, 61]⟩, .string ⟨#[60, 61]⟩, .string ⟨#[62, 61]⟩, .string ⟨#[38, 38]⟩, .string ⟨#[124, 124]⟩]) (.int .i64 2)).run Tryz.prog w = .ok (.string ⟨#[60, 61]⟩) w := fun _ => by kernel_rfl
  have x3 : ∀ w, (Instr.index 153 (.agg #[.string ⟨#[61, 61]⟩, .string ⟨#[33, 61]⟩, .string ⟨#[60, 61]⟩, .string ⟨#[62, 61]⟩, .string ⟨#[38, 38]⟩, .string ⟨#[124, 124]⟩]) (.int .i64 3)).run Tryz.prog w = .ok (.string ⟨#[62, 61]⟩) w := fun _ => by kernel_rfl
  have x4 : ∀ w, (Instr.index 153 (.agg #[.string ⟨#[61, 61]⟩, .string ⟨#[33, 61]⟩, .string ⟨#[60, 61]⟩, .string ⟨#[62, 61]⟩, .string ⟨#[38, 38]⟩, .string ⟨#[124, 124]⟩]) (.int .i64 4)).run Tryz.prog w = .ok (.string ⟨#[38, 38]⟩) w := fun _ => by kernel_rfl
  have x5 : ∀ w, (Instr.index 153 (.agg #[.string ⟨#[61, 61]⟩, .string ⟨#[33, 61]⟩, .string ⟨#[60, 61]⟩, .string ⟨#[62, 61]⟩, .string ⟨#[38, 38]⟩, .string ⟨#[124, 124]⟩]) (.int .i64 5)).run Tryz.prog w = .ok (.string ⟨#[124, 124]⟩) w := fun _ => by kernel_rfl
  go_enter Tryz.func74, Tryz.ntmps74
  go_wp2
  refine wp_loop_rounds 7 ?_
  rw [rounds_succ]
  go_wp2_with (go_at_call 101; refine (hp_any s st _ _ (by decide) (by decide) _).mono ?_; rintro e w' ⟨rfl, rfl⟩)
  · rename_i h
    simp only [beq_iff_eq] at h
    go_ret
    refine ⟨?_, rfl⟩
    rw [show sgn (bt s st) (bt s (st + 1)) = 2 by rw [h.1, h.2]; decide]
    rfl
  rename_i g0
  rw [rounds_succ]
  go_wp2_with (go_at_call 101; refine (hp_any s st _ _ (by decide) (by decide) _).mono ?_; rintro e w' ⟨rfl, rfl⟩)
  · rename_i h
    simp only [beq_iff_eq] at h
    go_ret
    refine ⟨?_, rfl⟩
    rw [show sgn (bt s st) (bt s (st + 1)) = 2 by rw [h.1, h.2]; decide]
    rfl
  rename_i g1
  rw [rounds_succ]
  go_wp2_with (go_at_call 101; refine (hp_any s st _ _ (by decide) (by decide) _).mono ?_; rintro e w' ⟨rfl, rfl⟩)
  · rename_i h
    simp only [beq_iff_eq] at h
    go_ret
    refine ⟨?_, rfl⟩
    rw [show sgn (bt s st) (bt s (st + 1)) = 2 by rw [h.1, h.2]; decide]
    rfl
  rename_i g2
  rw [rounds_succ]
  go_wp2_with (go_at_call 101; refine (hp_any s st _ _ (by decide) (by decide) _).mono ?_; rintro e w' ⟨rfl, rfl⟩)
  · rename_i h
    simp only [beq_iff_eq] at h
    go_ret
    refine ⟨?_, rfl⟩
    rw [show sgn (bt s st) (bt s (st + 1)) = 2 by rw [h.1, h.2]; decide]
    rfl
  rename_i g3
  rw [rounds_succ]
  go_wp2_with (go_at_call 101; refine (hp_any s st _ _ (by decide) (by decide) _).mono ?_; rintro e w' ⟨rfl, rfl⟩)
  · rename_i h
    simp only [beq_iff_eq] at h
    go_ret
    refine ⟨?_, rfl⟩
    rw [show sgn (bt s st) (bt s (st + 1)) = 2 by rw [h.1, h.2]; decide]
    rfl
  rename_i g4
  rw [rounds_succ]
  go_wp2_with (go_at_call 101; refine (hp_any s st _ _ (by decide) (by decide) _).mono ?_; rintro e w' ⟨rfl, rfl⟩)
  · rename_i h
    simp only [beq_iff_eq] at h
    go_ret
    refine ⟨?_, rfl⟩
    rw [show sgn (bt s st) (bt s (st + 1)) = 2 by rw [h.1, h.2]; decide]
    rfl
  rename_i g5
  rw [rounds_succ]
  have ht : two (bt s st) (bt s (st + 1)) = false := by
    simp only [beq_eq_false_iff_ne, ne_eq] at g0 g1 g2 g3 g4 g5
    simp only [two, Bool.or_eq_false_iff, Bool.and_eq_false_iff, beq_eq_false_iff_ne, ne_eq]
    exact ⟨⟨⟨⟨⟨g0, g1⟩, g2⟩, g3⟩, g4⟩, g5⟩
  go_wp2_with (go_at_call 103; refine (c45 _).mono ?_; rintro e w' ⟨rfl, rfl⟩)
  · rename_i h
    go_ret
    refine ⟨?_, rfl⟩
    have ho' : one (bt s st) = false := by simpa using h
    unfold sgn
    rw [ht, ho']
    rfl
  · rename_i h
    go_ret
    refine ⟨?_, rfl⟩
    have ho' : one (bt s st) = true := by simpa using h
    unfold sgn
    rw [ht, ho']
    rfl
end Go.Proofs.YtmfoehaeejhlpaaGreatDoor.Le
