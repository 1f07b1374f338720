import Derived.Test.YtmfoehaeejhlpaaGreatDoorGaAO
import Derived.Test.YtmfoehaeejhlpaaGreatDoorShelf
import Derived.Lib.AtoiErrMem
import Derived.LoopN
/-
  skip: past blanks and remarks.
-/
namespace Go.Proofs.YtmfoehaeejhlpaaGreatDoor.Le
open Go.RowKit
set_option maxRecDepth 1000000

theorem hp_any (s : ByteArray) (p : Nat) (c d : UInt8) (hc : c ≠ 0) (hd : d ≠ 0) (w : World) :
    Calls Tryz.prog 101 #[.string (s.extract p s.size), .string ⟨#[c, d]⟩] w fun e w' => e = .returned (.bool (bt s p == c.toNat && bt s (p + 1) == d.toNat)) ∧ w' = w := by
  have h := Tryz.strings_HasPrefix (s.extract p s.size) ⟨#[c, d]⟩ w
  rw [show (⟨#[c, d]⟩ : ByteArray).data.toList = [c, d] from rfl, hasPrefix_two _ c d hc hd] at h
  have e : ∀ i, ((s.extract p s.size).data.toList.getD i 0).toNat = bt s (p + i) := fun i => by
    have := bt_ext s p s.size i (Nat.le_refl _)
    unfold bt at this ⊢
    rw [this]
    split
    · rfl
    · rename_i h
      have := bt_z s (p + i) (by omega)
      unfold bt at this
      rw [this]
  have q : ∀ x y : UInt8, (x == y) = (x.toNat == y.toNat) := fun x y => by
    rw [Bool.eq_iff_iff]
    simp [UInt8.toNat_inj]
  rw [q, q, e 0, e 1] at h
  exact h

/-- What holds at a jump to between, line, remark. -/
def SkI (s : ByteArray) (at0 l m p st : Nat) : Prop := at0 ≤ p ∧ p ≤ s.size ∧ match l with
  | 0 => lexA (bt s) s.size at0 = lexA (bt s) s.size p ∧ m = 3 * (s.size - p) + 1
  | 1 => lexA (bt s) s.size at0 = lexA (bt s) s.size (runE (fun j => bt s j != 10) (s.size - p) p) ∧ m = 3 * (s.size - p) + (if p = s.size ∨ bt s p = 10 then 2 else 0)
  | 2 => lexA (bt s) s.size at0 = remR (bt s) s.size st (remE (bt s) (s.size - p) p) ∧ m = 3 * (s.size - p) + 1
  | _ => False
def SkJ (s : ByteArray) (at0 : Nat) (w0 : World) (l m : Nat) (a : Act) (w : World) : Prop := w = w0 ∧ ∃ (p st : Nat) (u7 u8 u9 u10 u11 u12 u13 u14 u15 u16 u17 u18 u19 u20 u21 u22 u23 u24 u25 u26 u27 u28 u29 u30 u31 u32 u33 u34 u35 u36 u37 u38 u39 u40 u41 u42 u43 u44 u45 u46 u47 u48 u49 u50 u51 u52 u53 u54 : Value), a = { tmps := #[.string s, .int .i64 (p : Nat), undef, undef, .int .i64 0, .bool false, .int .i64 (st : Nat), u7, u8, u9, u10, u11, u12, u13, u14, u15, u16, u17, u18, u19, u20, u21, u22, u23, u24, u25, u26, u27, u28, u29, u30, u31, u32, u33, u34, u35, u36, u37, u38, u39, u40, u41, u42, u43, u44, u45, u46, u47, u48, u49, u50, u51, u52, u53, u54], defers := [] } ∧ SkI s at0 l m p st

theorem skip_any (s : ByteArray) (at0 : Nat) (hat : at0 ≤ s.size) (hs : s.size ≤ 8000) (w : World) :
    Calls Tryz.prog 68 #[.string s, .int .i64 at0] w fun e w' => w' = w ∧ ((∃ p : Nat, e = .returned (.tuple #[.int .i64 p, .bool true]) ∧ at0 ≤ p ∧ p ≤ s.size ∧ Stl (bt s) p ∧ lexA (bt s) s.size at0 = lexA (bt s) s.size p) ∨
      (∃ p : Nat, e = .returned (.tuple #[.int .i64 p, .bool false]) ∧ lexA (bt s) s.size at0 = .no p)) := by
  go_enter Tryz.func68, Tryz.ntmps68
  go_wp2
  show Code.wp Tryz.prog (Code.scope _) (bodyPost Tryz.prog Tryz.f68 _) _ _
  refine scope_three (x0 := ?x0) (x1 := ?x1) (x2 := ?x2) (SkJ s at0 w) ?hJ ?h0 ?h1 ?h2 ?p0 ?p1 ?p2 ?first
  case h0 => rfl
  case h1 => rfl
  case h2 => rfl
  case hJ =>
    rintro l m a w' ⟨_, p, st, u7, u8, u9, u10, u11, u12, u13, u14, u15, u16, u17, u18, u19, u20, u21, u22, u23, u24, u25, u26, u27, u28, u29, u30, u31, u32, u33, u34, u35, u36, u37, u38, u39, u40, u41, u42, u43, u44, u45, u46, u47, u48, u49, u50, u51, u52, u53, u54, _, _, _, h⟩
    match l with
    | 0 => omega
    | 1 => omega
    | 2 => omega
    | _ + 3 => exact h.elim
  case p0 =>
    rintro m a w' ⟨rfl, p, st, u7, u8, u9, u10, u11, u12, u13, u14, u15, u16, u17, u18, u19, u20, u21, u22, u23, u24, u25, u26, u27, u28, u29, u30, u31, u32, u33, u34, u35, u36, u37, u38, u39, u40, u41, u42, u43, u44, u45, u46, u47, u48, u49, u50, u51, u52, u53, u54, rfl, h1, h2, h3, h4⟩
    have cpk := peek_any s p h2
    have cbl := isblank_any (bt s p) (bt_lt s p)
    have ch1 := hp_any s p 47 47 (by decide) (by decide)
    have ch2 := hp_any s p 47 42 (by decide) (by decide)
    go_wp2_with (first | (go_at_call 72; refine (cpk _).mono ?_; rintro e w' ⟨rfl, rfl⟩) | (go_at_call 100; refine (cbl _).mono ?_; rintro e w' ⟨rfl, rfl⟩) | (go_at_call 101; first | (refine (ch1 _).mono ?_; rintro e w' ⟨rfl, rfl⟩) | (refine (ch2 _).mono ?_; rintro e w' ⟨rfl, rfl⟩)))
    · rename_i hb
      refine wp_goto ?_
      obtain ⟨e1, e2⟩ := lexA_blank (bt_z s) hb
      show ∃ m', m' < m ∧ SkJ s at0 w' 0 m' _ _
      refine ⟨3 * (s.size - (p + 1)) + 1, by omega, rfl, p + 1, st, ?_⟩
      repeat apply Exists.intro
      exact ⟨rfl, by omega, by omega, by rw [h3, e2], rfl⟩
    · rename_i hb hp
      refine wp_goto ?_
      simp only [beq_iff_eq] at hp
      obtain ⟨e1, e2⟩ := lexA_line (bt_z s) hp
      show ∃ m', m' < m ∧ SkJ s at0 w' 1 m' _ _
      refine ⟨3 * (s.size - p) + 0, by omega, rfl, p, st, ?_⟩
      repeat apply Exists.intro
      exact ⟨rfl, by omega, by omega, by rw [h3, e2], by rw [if_neg (by omega)]⟩
    · rename_i hb hp1 hp
      refine wp_goto ?_
      simp only [beq_iff_eq] at hp
      obtain ⟨e1, e2⟩ := lexA_rem (bt_z s) hp
      show ∃ m', m' < m ∧ SkJ s at0 w' 2 m' _ _
      refine ⟨3 * (s.size - (p + 2)) + 1, by omega, rfl, p + 2, p, ?_⟩
      repeat apply Exists.intro
      exact ⟨rfl, by omega, by omega, by rw [h3, e2], rfl⟩
    · have hb : isBl (bt s p) = false := by assumption
      have hp1 : (bt s p == 47) = false ∨ (bt s (p + 1) == 47) = false := by assumption
      have hp : (bt s p == 47) = false ∨ (bt s (p + 1) == 42) = false := by assumption
      rw [jumps_ret]
      go_ret2
      simp only [beq_eq_false_iff_ne, ne_eq] at hp hp1
      refine ⟨rfl, Or.inl ⟨p, rfl, h1, h2, ⟨hb, by omega, by omega⟩, h3⟩⟩
  case p1 =>
    rintro m a w' ⟨rfl, p, st, u7, u8, u9, u10, u11, u12, u13, u14, u15, u16, u17, u18, u19, u20, u21, u22, u23, u24, u25, u26, u27, u28, u29, u30, u31, u32, u33, u34, u35, u36, u37, u38, u39, u40, u41, u42, u43, u44, u45, u46, u47, u48, u49, u50, u51, u52, u53, u54, rfl, h1, h2, h3, h4⟩
    go_wp2
    · rename_i hp hb
      refine wp_goto ?_
      rw [← bt_at s p hp] at hb
      have hb' : bt s p ≠ 10 := by intro h; rw [h] at hb; exact absurd hb (by decide)
      rw [if_neg (by omega)] at h4
      show ∃ m', m' < m ∧ SkJ s at0 w' 1 m' _ _
      refine ⟨3 * (s.size - (p + 1)) + (if p + 1 = s.size ∨ bt s (p + 1) = 10 then 2 else 0), by split <;> omega, rfl, p + 1, st, ?_⟩
      repeat apply Exists.intro
      exact ⟨rfl, by omega, by omega, by rw [h3, runE_succ hp (by simpa using hb')], rfl⟩
    · have hp : p < s.size := by assumption
      have hb : (((s[p]'hp).toNat : Int) != 10) = false := by assumption
      refine wp_goto ?_
      rw [← bt_at s p hp] at hb
      have hb' : bt s p = 10 := by
        have : ((bt s p : Nat) : Int) = 10 := by simpa using hb
        omega
      rw [if_pos (Or.inr hb')] at h4
      show ∃ m', m' < m ∧ SkJ s at0 w' 0 m' _ _
      refine ⟨3 * (s.size - p) + 1, by omega, rfl, p, st, ?_⟩
      repeat apply Exists.intro
      exact ⟨rfl, by omega, by omega, by rw [h3, runE_stop (Or.inr (by simpa using hb'))], rfl⟩
    · rename_i hp
      refine wp_goto ?_
      rw [if_pos (Or.inl (by omega))] at h4
      show ∃ m', m' < m ∧ SkJ s at0 w' 0 m' _ _
      refine ⟨3 * (s.size - p) + 1, by omega, rfl, p, st, ?_⟩
      repeat apply Exists.intro
      exact ⟨rfl, by omega, by omega, by rw [h3, runE_stop (Or.inl (by omega))], rfl⟩
  case p2 =>
    rintro m a w' ⟨rfl, p, st, u7, u8, u9, u10, u11, u12, u13, u14, u15, u16, u17, u18, u19, u20, u21, u22, u23, u24, u25, u26, u27, u28, u29, u30, u31, u32, u33, u34, u35, u36, u37, u38, u39, u40, u41, u42, u43, u44, u45, u46, u47, u48, u49, u50, u51, u52, u53, u54, rfl, h1, h2, h3, h4⟩
    have ch1 := hp_any s p 42 47 (by decide) (by decide)
    go_wp2_with (go_at_call 101; refine (ch1 _).mono ?_; rintro e w' ⟨rfl, rfl⟩)
    · rename_i hp
      rw [jumps_ret]
      go_ret2
      simp only [beq_iff_eq] at hp
      have : p = s.size := by omega
      rw [this, Nat.sub_self, remE] at h3
      exact ⟨rfl, Or.inr ⟨st, rfl, h3⟩⟩
    · rename_i hp hb
      refine wp_goto ?_
      simp only [beq_iff_eq] at hb
      have hn : p + 1 < s.size := by
        by_cases g : p + 1 < s.size
        · exact g
        · have := bt_z s (p + 1) (by omega); omega
      show ∃ m', m' < m ∧ SkJ s at0 w' 0 m' _ _
      refine ⟨3 * (s.size - (p + 2)) + 1, by omega, rfl, p + 2, st, ?_⟩
      repeat apply Exists.intro
      exact ⟨rfl, by omega, by omega, by rw [h3, remE_hit (by omega) hb, remR], rfl⟩
    · rename_i hb
      have hp : ((p : Int) == (s.size : Int)) = false := by assumption
      refine wp_goto ?_
      simp only [beq_eq_false_iff_ne, ne_eq] at hp hb
      show ∃ m', m' < m ∧ SkJ s at0 w' 2 m' _ _
      refine ⟨3 * (s.size - (p + 1)) + 1, by omega, rfl, p + 1, st, ?_⟩
      repeat apply Exists.intro
      exact ⟨rfl, by omega, by omega, by rw [h3, remE_miss (by omega) (by omega)], rfl⟩
  case first =>
    intro p0
    go_wp2
    rename_i K hK
    refine wp_label ?_
    refine hK _ _ (p0 (3 * (s.size - at0) + 1) _ _ ⟨rfl, at0, 0, ?_⟩)
    repeat apply Exists.intro
    exact ⟨rfl, Nat.le_refl _, hat, rfl, rfl⟩
end Go.Proofs.YtmfoehaeejhlpaaGreatDoor.Le

/-
  isNumber, signSize.
-/
namespace Go.Proofs.YtmfoehaeejhlpaaGreatDoor.Le
open Go.RowKit
set_option maxRecDepth 1000000

/-- The library's error of range has its value. -/
def Wd (w : World) : Prop := ∃ ev, w.cell? ⟨3, 0, none⟩ = some ev ∧ (ev = .nilIface ∨ ∃ te pe, ev = .iface te pe)
theorem Wd.lt {w : World} (h : Wd w) : 3 < w.heap.size := by
  obtain ⟨ev, h, _⟩ := h
  by_cases g : 3 < w.heap.size
  · exact g
  · have : w.heap[3]? = none := Array.getElem?_eq_none (by omega)
    simp [World.cell?, this] at h
theorem Wd.below {w w' : World} {n : Nat} (h : Wd w) (hn : 3 < n) (hb : Below n w w') : Wd w' := by
  obtain ⟨ev, h, h'⟩ := h
  refine ⟨ev, ?_, h'⟩
  rw [← h]
  exact hb.cell hn
theorem below_bytes (w : World) (t : ByteArray) : Below w.heap.size w (Lib.bytesWorld w 5 t) := by
  exact Lib.bytesWorld_below w 5 t

theorem isnumber_any (s : ByteArray) (hs : s.size ≤ 8000) (h0 : 0 < s.size) (hd : Dig s.data.toList) (w : World) (hw : Wd w) :
    Calls Tryz.prog 73 #[.string s] w fun e w' => e = .returned (.bool ((s.size == 1 || bt s 0 != 48) && decide (valL 0 s.data.toList < 9223372036854775808))) ∧ Below w.heap.size w w' := by
  have hne : s.data.toList ≠ [] := by
    intro h
    have h1 : s.data.toList.length = 0 := by rw [h]; rfl
    rw [Array.length_toList] at h1
    have h2 : s.size = 0 := h1
    omega
  have hp := parseInt_dig s.data.toList hd hne
  have b0 := bt_at s 0 h0
  by_cases hv : valL 0 s.data.toList < 9223372036854775808
  · rw [if_pos hv] at hp
    have c := Tryz.strconv_ParseInt_10_at64_ok s (by omega) _ hp
    go_enter Tryz.func73, Tryz.ntmps73
    go_wp2_with (go_at_call 102; refine (c _).mono ?_; rintro e w' ⟨rfl, hw'⟩)
    · rename_i h
      go_ret
      refine ⟨?_, Below.refl _ _⟩
      have e1 : bt s 0 = 48 := by
        rw [b0]
        have : ((s[0].toNat : Nat) : Int) = 48 := by simpa using h
        omega
      have e2 : ((s.size : Int) == 1) = (s.size == 1) := by
        rw [Bool.eq_iff_iff]; simp; omega
      rw [e1]
      show Ending.returned (Value.bool ((s.size : Int) == 1)) = _
      rw [e2]
      simp [hv]
    · rename_i h
      go_ret
      have e1 : bt s 0 ≠ 48 := by
        rw [b0]
        intro hh
        rw [hh] at h
        cases h
      refine ⟨?_, ?_⟩
      · show Ending.returned (Value.bool true) = _
        simp [e1, hv]
      · rcases hw' with rfl | ⟨t, rfl⟩
        · exact Below.refl _ _
        · exact below_bytes w t
  · rw [if_neg hv] at hp
    obtain ⟨ev, hc, hev⟩ := hw
    have c := Tryz.strconv_ParseInt_10_at64_range s (by omega) hp ev w hc hev
    go_enter Tryz.func73, Tryz.ntmps73
    go_wp2_with (go_at_call 102; refine c.mono ?_; rintro e w' ⟨N, rfl, hN, hN', hbl⟩)
    · rename_i h
      go_ret
      refine ⟨?_, Below.refl _ _⟩
      have e1 : bt s 0 = 48 := by
        rw [b0]
        have : ((s[0].toNat : Nat) : Int) = 48 := by simpa using h
        omega
      have e3 : s.size ≠ 1 := by
        intro h1
        obtain ⟨x, hx⟩ : ∃ x, s.data.toList = [x] := List.length_eq_one_iff.1 (by rw [Array.length_toList]; exact h1)
        have hx0 : x.toNat = 48 := by
          unfold bt at e1
          rw [hx] at e1
          exact e1
        rw [hx, valL_cons, valL_nil] at hv
        omega
      have e2 : ((s.size : Int) == 1) = false := by
        simp; omega
      show Ending.returned (Value.bool ((s.size : Int) == 1)) = _
      rw [e2]
      simp [hv]
    · rename_i h
      go_ret
      refine ⟨?_, hbl⟩
      show Ending.returned (Value.bool false) = _
      simp [hv]

theorem one_idx (c : Nat) (hc : c < 256) : decide (Lib.indexByte [43, 45, 42, 47, 37, 60, 62, 33, 61, 40, 41, 123, 125, 44, 59, 58, 63, 46] (c : Int).toNat.toUInt8 < 0) = !one c := by
  have : ∀ c : Fin 256, decide (Lib.indexByte [43, 45, 42, 47, 37, 60, 62, 33, 61, 40, 41, 123, 125, 44, 59, 58, 63, 46] c.val.toUInt8 < 0) = !one c.val := by decide
  exact this ⟨c, hc⟩

theorem signsize_any (s : ByteArray) (st : Nat) (hst : st < s.size) (_hs : s.size ≤ 8000) (w : World) :
    Calls Tryz.prog 74 #[.string (s.extract st s.size)] w fun e w' => e = .returned (.int .i64 (sgn (bt s st) (bt s (st + 1)) : Nat)) ∧ w' = w := by
  have hz : (s.extract st s.size).size = s.size - st := by simp
  have h0 : (s.extract st s.size)[0]'(by omega) = s[st] := by simp [ByteArray.getElem_extract]
  have c45 := Tryz.strings_IndexByte ⟨#[43, 45, 42, 47, 37, 60, 62, 33, 61, 40, 41, 123, 125, 44, 59, 58, 63, 46]⟩ (bt s st)
  have ho := one_idx (bt s st) (bt_lt s st)
  rw [show (⟨#[43, 45, 42, 47, 37, 60, 62, 33, 61, 40, 41, 123, 125, 44, 59, 58, 63, 46]⟩ : ByteArray).data.toList = [43, 45, 42, 47, 37, 60, 62, 33, 61, 40, 41, 123, 125, 44, 59, 58, 63, 46] from rfl] at c45
  generalize Lib.indexByte [43, 45, 42, 47, 37, 60, 62, 33, 61, 40, 41, 123, 125, 44, 59, 58, 63, 46] ((bt s st : Nat) : Int).toNat.toUInt8 = v at c45 ho
  rw [bt_at s st hst] at c45
  have x0 : ∀ w, (Instr.index 153 (.agg #[.string ⟨#[61, 61]⟩, .string ⟨#[33, 61]⟩, .string ⟨#[60, 61]⟩, .string ⟨#[62, 61]⟩, .string ⟨#[38, 38]⟩, .string ⟨#[124, 124]⟩]) (.int .i64 0)).run Tryz.prog w = .ok (.string ⟨#[61, 61]⟩) w := fun _ => by kernel_rfl
  have x1 : ∀ w, (Instr.index 153 (.agg #[.string ⟨#[61, 61]⟩, .string ⟨#[33, 61]⟩, .string ⟨#[60, 61]⟩, .string ⟨#[62, 61]⟩, .string ⟨#[38, 38]⟩, .string ⟨#[124, 124]⟩]) (.int .i64 1)).run Tryz.prog w = .ok (.string ⟨#[33, 61]⟩) w := fun _ => by kernel_rfl
  have x2 : ∀ w, (Instr.index 153 (.agg #[.string ⟨#[61, 61]⟩, .string ⟨#[33, 61]⟩, .string ⟨#[60, 61]⟩, .string ⟨#[62, 61]⟩, .string ⟨#[38, 38]⟩, .string ⟨#[124, 124]⟩]) (.int .i64 2)).run Tryz.prog w = .ok (.string ⟨#[60, 61]⟩) w := fun _ => by kernel_rfl
  have x3 : ∀ w, (Instr.index 153 (.agg #[.string ⟨#[61, 61]⟩, .string ⟨#[33, 61]⟩, .string ⟨#[60, 61]⟩, .string ⟨#[62, 61]⟩, .string ⟨#[38, 38]⟩, .string ⟨#[124, 124]⟩]) (.int .i64 3)).run Tryz.prog w = .ok (.string ⟨#[62, 61]⟩) w := fun _ => by kernel_rfl
  have x4 : ∀ w, (Instr.index 153 (.agg #[.string ⟨#[61, 61]⟩, .string ⟨#[33, 61]⟩, .string ⟨#[60, 61]⟩, .string ⟨#[62, 61]⟩, .string ⟨#[38, 38]⟩, .string ⟨#[124, 124]⟩]) (.int .i64 4)).run Tryz.prog w = .ok (.string ⟨#[38, 38]⟩) w := fun _ => by kernel_rfl
  have x5 : ∀ w, (Instr.index 153 (.agg #[.string ⟨#[61, 61]⟩, .string ⟨#[33, 61]⟩, .string ⟨#[60, 61]⟩, .string ⟨#[62, 61]⟩, .string ⟨#[38, 38]⟩, .string ⟨#[124, 124]⟩]) (.int .i64 5)).run Tryz.prog w = .ok (.string ⟨#[124, 124]⟩) w := fun _ => by kernel_rfl
  go_enter Tryz.func74, Tryz.ntmps74
  go_wp2
  refine wp_loop_rounds 7 ?_
  rw [rounds_succ]
  go_wp2_with (go_at_call 101; refine (hp_any s st _ _ (by decide) (by decide) _).mono ?_; rintro e w' ⟨rfl, rfl⟩)
  · rename_i h
    simp only [beq_iff_eq] at h
    go_ret
    refine ⟨?_, rfl⟩
    rw [show sgn (bt s st) (bt s (st + 1)) = 2 by rw [h.1, h.2]; decide]
    rfl
  rename_i g0
  rw [rounds_succ]
  go_wp2_with (go_at_call 101; refine (hp_any s st _ _ (by decide) (by decide) _).mono ?_; rintro e w' ⟨rfl, rfl⟩)
  · rename_i h
    simp only [beq_iff_eq] at h
    go_ret
    refine ⟨?_, rfl⟩
    rw [show sgn (bt s st) (bt s (st + 1)) = 2 by rw [h.1, h.2]; decide]
    rfl
  rename_i g1
  rw [rounds_succ]
  go_wp2_with (go_at_call 101; refine (hp_any s st _ _ (by decide) (by decide) _).mono ?_; rintro e w' ⟨rfl, rfl⟩)
  · rename_i h
    simp only [beq_iff_eq] at h
    go_ret
    refine ⟨?_, rfl⟩
    rw [show sgn (bt s st) (bt s (st + 1)) = 2 by rw [h.1, h.2]; decide]
    rfl
  rename_i g2
  rw [rounds_succ]
  go_wp2_with (go_at_call 101; refine (hp_any s st _ _ (by decide) (by decide) _).mono ?_; rintro e w' ⟨rfl, rfl⟩)
  · rename_i h
    simp only [beq_iff_eq] at h
    go_ret
    refine ⟨?_, rfl⟩
    rw [show sgn (bt s st) (bt s (st + 1)) = 2 by rw [h.1, h.2]; decide]
    rfl
  rename_i g3
  rw [rounds_succ]
  go_wp2_with (go_at_call 101; refine (hp_any s st _ _ (by decide) (by decide) _).mono ?_; rintro e w' ⟨rfl, rfl⟩)
  · rename_i h
    simp only [beq_iff_eq] at h
    go_ret
    refine ⟨?_, rfl⟩
    rw [show sgn (bt s st) (bt s (st + 1)) = 2 by rw [h.1, h.2]; decide]
    rfl
  rename_i g4
  rw [rounds_succ]
  go_wp2_with (go_at_call 101; refine (hp_any s st _ _ (by decide) (by decide) _).mono ?_; rintro e w' ⟨rfl, rfl⟩)
  · rename_i h
    simp only [beq_iff_eq] at h
    go_ret
    refine ⟨?_, rfl⟩
    rw [show sgn (bt s st) (bt s (st + 1)) = 2 by rw [h.1, h.2]; decide]
    rfl
  rename_i g5
  rw [rounds_succ]
  have ht : two (bt s st) (bt s (st + 1)) = false := by
    simp only [beq_eq_false_iff_ne, ne_eq] at g0 g1 g2 g3 g4 g5
    simp only [two, Bool.or_eq_false_iff, Bool.and_eq_false_iff, beq_eq_false_iff_ne, ne_eq]
    exact ⟨⟨⟨⟨⟨g0, g1⟩, g2⟩, g3⟩, g4⟩, g5⟩
  go_wp2_with (go_at_call 103; refine (c45 _).mono ?_; rintro e w' ⟨rfl, rfl⟩)
  · rename_i h
    go_ret
    refine ⟨?_, rfl⟩
    have ho' : one (bt s st) = false := by simpa using h
    unfold sgn
    rw [ht, ho']
    rfl
  · rename_i h
    go_ret
    refine ⟨?_, rfl⟩
    have ho' : one (bt s st) = true := by simpa using h
    unfold sgn
    rw [ht, ho']
    rfl
end Go.Proofs.YtmfoehaeejhlpaaGreatDoor.Le

/-
  cut: one token.
-/
namespace Go.Proofs.YtmfoehaeejhlpaaGreatDoor.Le
open Go.RowKit
set_option maxRecDepth 1000000

/-- What cut found. -/
def CuD (s : ByteArray) (at0 kd st en : Nat) : Prop := at0 ≤ st ∧ st ≤ en ∧ en ≤ s.size ∧
  ((kd = 0 ∧ st = s.size ∧ en = s.size ∧ lexA (bt s) s.size at0 = .ok [⟨0, s.size, s.size⟩]) ∨ (1 ≤ kd ∧ kd ≤ 3 ∧ st < en ∧ lexA (bt s) s.size at0 = Rs.cons ⟨kd, st, en⟩ (lexA (bt s) s.size en)))
/-- A place at which a token may begin. -/
def CuB (s : ByteArray) (at0 st : Nat) : Prop := at0 ≤ st ∧ st < s.size ∧ Stl (bt s) st ∧ lexA (bt s) s.size at0 = lexA (bt s) s.size st
def CuI (s : ByteArray) (at0 l m st en kd : Nat) : Prop := match l with
  | 0 => lexA (bt s) s.size at0 = .no st ∧ m = 0
  | 1 => CuD s at0 kd st en ∧ m = 0
  | 2 => CuB s at0 st ∧ isLe (bt s st) = true ∧ st ≤ en ∧ en ≤ s.size ∧ runE (fun j => isWo (bt s j)) (s.size - st) st = runE (fun j => isWo (bt s j)) (s.size - en) en ∧ m = 1 + (s.size - en)
  | 3 => CuB s at0 st ∧ isLe (bt s st) = false ∧ isDi (bt s st) = true ∧ st ≤ en ∧ en ≤ s.size ∧ runE (fun j => isDi (bt s j)) (s.size - st) st = runE (fun j => isDi (bt s j)) (s.size - en) en ∧ m = 1 + (s.size - en)
  | 4 => CuB s at0 st ∧ isLe (bt s st) = false ∧ isDi (bt s st) = false ∧ en = st ∧ m = 1
  | _ => False
/-- The world in between: one cell for the token. -/
def CuW (w0 w : World) : Prop := Below w0.heap.size w0 w ∧ w.heap[w0.heap.size]? = some (.cells #[.int .i64 0, .string ByteArray.empty, .int .i64 0] 73 (0, 0)) ∧ Wd w
def cuF (s : ByteArray) (at0 T st en kd : Nat) (bo : Bool) (u : Nat → Value) : Act := { tmps := #[.string s, .int .i64 (at0 : Nat), undef, undef, .pointer (some ⟨T, 0, none⟩), .bool bo, .int .i64 (st : Nat), .int .i64 (en : Nat), .int .i64 (kd : Nat), u 9, u 10, u 11, u 12, u 13, u 14, u 15, u 16, u 17, u 18, u 19, u 20, u 21, u 22, u 23, u 24, u 25, u 26, u 27, u 28, u 29, u 30, u 31, u 32, u 33, u 34, u 35, u 36, u 37, u 38, u 39, u 40, u 41, u 42, u 43, u 44, u 45, u 46, u 47, u 48, u 49, u 50, u 51, u 52, u 53, u 54, u 55, u 56, u 57, u 58, u 59, u 60, u 61, u 62, u 63, u 64, u 65, u 66, u 67, u 68, u 69, u 70, u 71, u 72, u 73, u 74, u 75, u 76, u 77, u 78], defers := [] }
def CuJ (s : ByteArray) (at0 : Nat) (w0 : World) (l m : Nat) (a : Act) (w : World) : Prop := CuW w0 w ∧ ∃ (st en kd : Nat) (bo : Bool), a = cuF s at0 w0.heap.size st en kd bo (fun k => a.tmps.getD k undef) ∧ CuI s at0 l m st en kd
theorem cuJ_open {s : ByteArray} {at0 : Nat} {w0 : World} {l m : Nat} {a : Act} {w : World} (h : CuJ s at0 w0 l m a w) :
    CuW w0 w ∧ ∃ (st en kd : Nat) (bo : Bool) (u : Nat → Value), a = cuF s at0 w0.heap.size st en kd bo u ∧ CuI s at0 l m st en kd := by
  obtain ⟨h1, st, en, kd, bo, h2, h3⟩ := h
  exact ⟨h1, st, en, kd, bo, _, h2, h3⟩

theorem tok_store (w : World) (T : Nat) (x0 x1 x2 a b c : Value) (h : w.heap[T]? = some (.cells #[x0, x1, x2] 73 (0, 0))) :
    (w.cell? ⟨T, 0, none⟩ = some x0 ∧ w.frozen? ⟨T, 0, none⟩ = false) ∧
    ((w.setCell ⟨T, 0, none⟩ a).cell? ⟨T, 1, none⟩ = some x1 ∧ (w.setCell ⟨T, 0, none⟩ a).frozen? ⟨T, 1, none⟩ = false) ∧
    (((w.setCell ⟨T, 0, none⟩ a).setCell ⟨T, 1, none⟩ b).cell? ⟨T, 2, none⟩ = some x2 ∧ ((w.setCell ⟨T, 0, none⟩ a).setCell ⟨T, 1, none⟩ b).frozen? ⟨T, 2, none⟩ = false) ∧
    (((w.setCell ⟨T, 0, none⟩ a).setCell ⟨T, 1, none⟩ b).setCell ⟨T, 2, none⟩ c).heap[T]? = some (.cells #[a, b, c] 73 (0, 0)) := by
  have q0 := heap_setCell_same w T 0 _ 73 a h
  have q1 := heap_setCell_same _ T 1 _ 73 b q0
  have q2 := heap_setCell_same _ T 2 _ 73 c q1
  exact ⟨⟨by rw [cell_of_row w T _ _ 73 (0, 0) h]; rfl, frozen_of_row w T 0 _ 73 h⟩, ⟨by rw [cell_of_row _ T _ _ 73 (0, 0) q0]; rfl, frozen_of_row _ T 1 _ 73 q0⟩, ⟨by rw [cell_of_row _ T _ _ 73 (0, 0) q1]; rfl, frozen_of_row _ T 2 _ 73 q1⟩, q2⟩
theorem tok_below (w0 w : World) (a b c : Value) (h : Below w0.heap.size w0 w) (hw : Wd w) (h0 : 3 < w0.heap.size) :
    Below w0.heap.size w0 (((w.setCell ⟨w0.heap.size, 0, none⟩ a).setCell ⟨w0.heap.size, 1, none⟩ b).setCell ⟨w0.heap.size, 2, none⟩ c) ∧ Wd (((w.setCell ⟨w0.heap.size, 0, none⟩ a).setCell ⟨w0.heap.size, 1, none⟩ b).setCell ⟨w0.heap.size, 2, none⟩ c) := by
  have hb : ∀ (w : World) (k : Nat) (v : Value), Below w0.heap.size w0 w → Below w0.heap.size w0 (w.setCell ⟨w0.heap.size, k, none⟩ v) := fun w k v h => h.setCell (p := ⟨w0.heap.size, k, none⟩) (Nat.le_refl _) v
  have h3 := hb _ 2 c (hb _ 1 b (hb _ 0 a h))
  refine ⟨h3, ?_⟩
  obtain ⟨ev, e1, e2⟩ := hw
  refine ⟨ev, ?_, e2⟩
  rw [← e1, h3.cell h0, h.cell h0]

theorem cuW_alloc (w0 : World) (hw : Wd w0) : CuW w0 (w0.alloc (.cells #[.int .i64 0, .string ByteArray.empty, .int .i64 0] 73)) := by
  have hb : Below w0.heap.size w0 (w0.alloc (.cells #[.int .i64 0, .string ByteArray.empty, .int .i64 0] 73)) := (Below.refl _ w0).alloc (Nat.le_refl _) _
  refine ⟨hb, ?_, hw.below hw.lt hb⟩
  exact Array.getElem?_push_size
theorem cuW_more {w0 w w' : World} (h : CuW w0 w) (hb : Below w.heap.size w w') : CuW w0 w' := by
  obtain ⟨h1, h2, h3⟩ := h
  have hlt : w0.heap.size < w.heap.size := (Array.getElem?_eq_some_iff.1 h2).1
  exact ⟨h1.trans (hb.mono (by omega)), (hb.block _ hlt).trans h2, h3.below h3.lt hb⟩
theorem isnumber_ext (s : ByteArray) (st en : Nat) (hs : s.size ≤ 8000) (h1 : st < en) (h2 : en ≤ s.size) (hd : ∀ j, st ≤ j → j < en → isDi (bt s j) = true) (w : World) (hw : Wd w) :
    Calls Tryz.prog 73 #[.string (s.extract st en)] w fun e w' => e = .returned (.bool (numOk (bt s) st en)) ∧ Below w.heap.size w w' := by
  have hz : (s.extract st en).size = en - st := by rw [ByteArray.size_extract]; omega
  have hdg : Dig (s.extract st en).data.toList := by
    intro c hc
    obtain ⟨i, hi, rfl⟩ := List.mem_iff_getElem.1 hc
    have hi' : i < (s.extract st en).size := by rw [Array.length_toList] at hi; exact hi
    have e1 := bt_ext s st en i h2
    rw [if_pos (by omega)] at e1
    have e2 := hd (st + i) (by omega) (by omega)
    rw [← e1] at e2
    unfold bt at e2
    rw [List.getD_eq_getElem?_getD, List.getElem?_eq_getElem hi] at e2
    exact e2
  have c := isnumber_any (s.extract st en) (by omega) (by omega) hdg w hw
  have e : (((s.extract st en).size == 1 || bt (s.extract st en) 0 != 48) && decide (valL 0 (s.extract st en).data.toList < 9223372036854775808)) = numOk (bt s) st en := by
    unfold numOk
    rw [hz, bt_ext s st en 0 h2, if_pos (by omega), numV_val s (en - st) st 0 (by omega), ext_data]
    have : (en - st == 1) = (en == st + 1) := by
      rw [Bool.eq_iff_iff]; simp; omega
    rw [this]
    rfl
  rw [e] at c
  exact c

set_option maxHeartbeats 8000000 in
theorem cut_any (s : ByteArray) (at0 : Nat) (hat : at0 ≤ s.size) (hs : s.size ≤ 8000) (w0 : World) (hw : Wd w0) :
    Calls Tryz.prog 41 #[.string s, .int .i64 at0] w0 fun e w' => Below w0.heap.size w0 w' ∧ Wd w' ∧
      ((∃ kd st en : Nat, e = .returned (.tuple #[.agg #[.int .i64 kd, .string (s.extract st en), .int .i64 st], .bool true]) ∧ CuD s at0 kd st en) ∨
      (∃ st : Nat, e = .returned (.tuple #[.agg #[.int .i64 0, .string ByteArray.empty, .int .i64 st], .bool false]) ∧ lexA (bt s) s.size at0 = .no st)) := by
  have csk := skip_any s at0 hat hs
  have cpk := peek_any s
  have cle : ∀ (p : Nat) (h : p < s.size) (w : World), Calls Tryz.prog 69 #[.int .u8 ((s[p]'h).toNat : Nat)] w fun e w' => e = .returned (.bool (isLe (bt s p))) ∧ w' = w := fun p h w => by
    have := isletter_any (bt s p) (bt_lt s p) w
    rw [bt_at s p h] at this ⊢
    exact this
  have cdi : ∀ (p : Nat) (h : p < s.size) (w : World), Calls Tryz.prog 70 #[.int .u8 ((s[p]'h).toNat : Nat)] w fun e w' => e = .returned (.bool (isDi (bt s p))) ∧ w' = w := fun p h w => by
    have := isdigit_any (bt s p) (bt_lt s p) w
    rw [bt_at s p h] at this ⊢
    exact this
  have cdb : ∀ (p : Nat) (w : World), Calls Tryz.prog 70 #[.int .u8 (bt s p : Nat)] w fun e w' => e = .returned (.bool (isDi (bt s p))) ∧ w' = w := fun p w => isdigit_any (bt s p) (bt_lt s p) w
  have cwo : ∀ (p : Nat) (w : World), Calls Tryz.prog 71 #[.int .u8 (bt s p : Nat)] w fun e w' => e = .returned (.bool (isWo (bt s p))) ∧ w' = w := fun p w => isinword_any (bt s p) (bt_lt s p) w
  go_enter Tryz.func41, Tryz.ntmps41
  go_wp2
  show Code.wp Tryz.prog (Code.scope _) (bodyPost Tryz.prog Tryz.f41 _) _ _
  refine scope_five (x0 := ?x0) (x1 := ?x1) (x2 := ?x2) (x3 := ?x3) (x4 := ?x4) (CuJ s at0 w0) ?hJ ?h0 ?h1 ?h2 ?h3 ?h4 ?p0 ?p1 ?p2 ?p3 ?p4 ?first
  case h0 => rfl
  case h1 => rfl
  case h2 => rfl
  case h3 => rfl
  case h4 => rfl
  case hJ =>
    rintro l m a w' ⟨_, st, en, kd, bo, _, h⟩
    match l with
    | 0 => omega
    | 1 => omega
    | 2 => omega
    | 3 => omega
    | 4 => omega
    | _ + 5 => exact h.elim
  case p0 =>
    intro m a w' hJ
    obtain ⟨⟨hbl, hT, hwd⟩, st, en, kd, bo, u, rfl, h⟩ := cuJ_open hJ
    clear hJ
    simp only [cuF]
    have hlt := hw.lt
    obtain ⟨⟨s1, s2⟩, ⟨s3, s4⟩, ⟨s5, s6⟩, s7⟩ := tok_store w' w0.heap.size _ _ _ (.int .i64 0) (.string ⟨#[]⟩) (.int .i64 (st : Nat)) hT
    obtain ⟨b1, b2⟩ := tok_below w0 w' (.int .i64 0) (.string ⟨#[]⟩) (.int .i64 (st : Nat)) hbl hwd hlt
    go_wp2
    rw [jumps_ret]
    refine bodyPost_ret (v := .tuple #[.agg #[.int .i64 0, .string ⟨#[]⟩, .int .i64 (st : Nat)], .bool false]) ?_ rfl ⟨b1, b2, Or.inr ⟨st, rfl, h.1⟩⟩
    rw [results_cell_tmp rfl]
    have l0 := cell_of_row _ w0.heap.size 0 _ 73 (0, 0) s7
    have l1 := cell_of_row _ w0.heap.size 1 _ 73 (0, 0) s7
    have l2 := cell_of_row _ w0.heap.size 2 _ 73 (0, 0) s7
    go_simp
  case p1 =>
    intro m a w' hJ
    obtain ⟨⟨hbl, hT, hwd⟩, st, en, kd, bo, u, rfl, h⟩ := cuJ_open hJ
    clear hJ
    simp only [cuF]
    obtain ⟨h, hm⟩ := h
    have h1 := h.2.1
    have h2 := h.2.2.1
    have hlt := hw.lt
    obtain ⟨⟨s1, s2⟩, ⟨s3, s4⟩, ⟨s5, s6⟩, s7⟩ := tok_store w' w0.heap.size _ _ _ (.int .i64 (kd : Nat)) (.string (s.extract st en)) (.int .i64 (st : Nat)) hT
    obtain ⟨b1, b2⟩ := tok_below w0 w' (.int .i64 (kd : Nat)) (.string (s.extract st en)) (.int .i64 (st : Nat)) hbl hwd hlt
    go_wp2
    rw [jumps_ret]
    refine bodyPost_ret (v := .tuple #[.agg #[.int .i64 (kd : Nat), .string (s.extract st en), .int .i64 (st : Nat)], .bool true]) ?_ rfl ⟨b1, b2, Or.inl ⟨kd, st, en, rfl, h⟩⟩
    rw [results_cell_tmp rfl]
    have l0 := cell_of_row _ w0.heap.size 0 _ 73 (0, 0) s7
    have l1 := cell_of_row _ w0.heap.size 1 _ 73 (0, 0) s7
    have l2 := cell_of_row _ w0.heap.size 2 _ 73 (0, 0) s7
    go_simp
  case p2 =>
    intro m a w' hJ
    obtain ⟨hW, st, en, kd, bo, u, rfl, h⟩ := cuJ_open hJ
    clear hJ
    simp only [cuF]
    have H := hide h
    have HW := hide hW
    have h2 : st ≤ en := h.2.2.1
    have h3 : en ≤ s.size := h.2.2.2.1
    clear h hW csk cle cdi cdb hw hat
    go_wp2_with (first | (go_at_call 72; refine (cpk en h3 _).mono ?_; rintro e w' ⟨rfl, rfl⟩) | (go_at_call 71; refine (cwo en _).mono ?_; rintro e w' ⟨rfl, rfl⟩))
    · rename_i g
      obtain ⟨c, hl, _, _, hr, hm⟩ := H.out
      have hn : en < s.size := by
        by_cases x : en < s.size
        · exact x
        · rw [bt_z s en (by omega)] at g; cases g
      refine wp_goto ?_
      show ∃ m', m' < m ∧ CuJ s at0 w0 2 m' _ _
      refine ⟨1 + (s.size - (en + 1)), by omega, HW.out, st, en + 1, kd, bo, rfl, c, hl, by omega, by omega, ?_, rfl⟩
      rw [hr, runE_succ hn (by simpa using g)]
    · have g0 : isWo (bt s en) = false := by assumption
      have g : 16 < (en : Int) - (st : Int) := by assumption
      obtain ⟨c, hl, _, _, hr, hm⟩ := H.out
      have hx := lexA_word (bt_z s) c.2.1 c.2.2.1 hl (hr.trans (runE_stop (Or.inr g0)))
      rw [if_pos (by omega)] at hx
      refine wp_goto ?_
      show ∃ m', m' < m ∧ CuJ s at0 w0 0 m' _ _
      exact ⟨0, by omega, HW.out, st, en, kd, bo, rfl, c.2.2.2.trans hx, rfl⟩
    · have g0 : isWo (bt s en) = false := by assumption
      have g : (en : Int) - (st : Int) ≤ 16 := by assumption
      obtain ⟨c, hl, _, _, hr, hm⟩ := H.out
      have hx := lexA_word (bt_z s) c.2.1 c.2.2.1 hl (hr.trans (runE_stop (Or.inr g0)))
      rw [if_neg (by omega)] at hx
      have hne : st < en := by
        by_cases x : st = en
        · rw [x] at hl; rw [isLe_wo hl] at g0; cases g0
        · omega
      refine wp_goto ?_
      show ∃ m', m' < m ∧ CuJ s at0 w0 1 m' _ _
      exact ⟨0, by omega, HW.out, st, en, 1, bo, rfl, ⟨c.1, h2, h3, Or.inr ⟨by omega, by omega, hne, c.2.2.2.trans hx⟩⟩, rfl⟩
  case p3 =>
    intro m a w' hJ
    obtain ⟨hW, st, en, kd, bo, u, rfl, h⟩ := cuJ_open hJ
    clear hJ
    simp only [cuF]
    have H := hide h
    have HW := hide hW
    have h2 : st ≤ en := h.2.2.2.1
    have h3 : en ≤ s.size := h.2.2.2.2.1
    have HN : isDi (bt s en) = false → st < en ∧ runE (fun j => isDi (bt s j)) (s.size - st) st = en := fun g => by
      refine ⟨?_, h.2.2.2.2.2.1.trans (runE_stop (Or.inr g))⟩
      by_cases x : st = en
      · have := h.2.2.1; rw [x, g] at this; cases this
      · omega
    have cnm : isDi (bt s en) = false → Calls Tryz.prog 73 #[.string (s.extract st en)] w' fun e w'' => e = .returned (.bool (numOk (bt s) st en)) ∧ Below w'.heap.size w' w'' := fun g => by
      obtain ⟨n1, n2⟩ := HN g
      refine isnumber_ext s st en hs n1 h3 (fun j j1 j2 => ?_) w' hW.2.2
      exact runE_all (fun j => isDi (bt s j)) (s.size - st) st j j1 (by rw [n2]; exact j2)
    have HNH := hide HN
    clear h hW csk cle cdi hw hat HN
    go_wp2_with (first | (go_at_call 72; refine (cpk en h3 _).mono ?_; rintro e w' ⟨rfl, rfl⟩) | (go_at_call 70; refine (cdb en _).mono ?_; rintro e w' ⟨rfl, rfl⟩) | (go_at_call 71; refine (cwo en _).mono ?_; rintro e w' ⟨rfl, rfl⟩) | (go_at_call 73; refine (cnm (by assumption)).mono ?_; rintro e w'' ⟨rfl, hb⟩))
    · rename_i g
      obtain ⟨c, hl, hd, _, _, hr, hm⟩ := H.out
      have hn : en < s.size := by
        by_cases x : en < s.size
        · exact x
        · rw [bt_z s en (by omega)] at g; cases g
      refine wp_goto ?_
      show ∃ m', m' < m ∧ CuJ s at0 w0 3 m' _ _
      refine ⟨1 + (s.size - (en + 1)), by omega, HW.out, st, en + 1, kd, bo, rfl, c, hl, hd, by omega, by omega, ?_, rfl⟩
      rw [hr, runE_succ hn (by simpa using g)]
    · have g0 : isDi (bt s en) = false := by assumption
      have g : (!numOk (bt s) st en) = true := by assumption
      have hb : Below w'.heap.size w' w'' := by assumption
      obtain ⟨c, hl, hd, _, _, hr, hm⟩ := H.out
      have hx := lexA_num (bt_z s) c.2.1 c.2.2.1 hl hd (HNH.out g0).2
      rw [if_neg (by simpa using g)] at hx
      refine wp_goto ?_
      show ∃ m', m' < m ∧ CuJ s at0 w0 0 m' _ _
      exact ⟨0, by omega, cuW_more HW.out hb, st, en, kd, bo, rfl, c.2.2.2.trans hx, rfl⟩
    · have g0 : isDi (bt s en) = false := by assumption
      have g : (!numOk (bt s) st en) = false := by assumption
      have g1 : isWo (bt s en) = true := by assumption
      obtain ⟨c, hl, hd, _, _, hr, hm⟩ := H.out
      have hx := lexA_num (bt_z s) c.2.1 c.2.2.1 hl hd (HNH.out g0).2
      rw [if_pos (by simpa using g), if_pos g1] at hx
      refine wp_goto ?_
      show ∃ m', m' < m ∧ CuJ s at0 w0 0 m' _ _
      exact ⟨0, by omega, cuW_more HW.out (by assumption), en, en, kd, bo, rfl, c.2.2.2.trans hx, rfl⟩
    · have g0 : isDi (bt s en) = false := by assumption
      have g : (!numOk (bt s) st en) = false := by assumption
      have g1 : isWo (bt s en) = false := by assumption
      obtain ⟨c, hl, hd, _, _, hr, hm⟩ := H.out
      have hx := lexA_num (bt_z s) c.2.1 c.2.2.1 hl hd (HNH.out g0).2
      rw [if_pos (by simpa using g), if_neg (by simp [g1])] at hx
      refine wp_goto ?_
      show ∃ m', m' < m ∧ CuJ s at0 w0 1 m' _ _
      exact ⟨0, by omega, cuW_more HW.out (by assumption), st, en, 2, bo, rfl, ⟨c.1, h2, h3, Or.inr ⟨by omega, by omega, (HNH.out g0).1, c.2.2.2.trans hx⟩⟩, rfl⟩
  case p4 =>
    intro m a w' hJ
    obtain ⟨hW, st, en, kd, bo, u, rfl, h⟩ := cuJ_open hJ
    clear hJ
    simp only [cuF]
    have H := hide h
    have HW := hide hW
    have h2 : st < s.size := h.1.2.1
    obtain rfl : en = st := h.2.2.2.1
    have csg := signsize_any s en h2 hs
    have hft := sgn_fit (bt_z s) h2
    have HL := hide (lexA_sign (bt_z s) h2 h.1.2.2.1 h.2.1 h.2.2.1)
    generalize sgn (bt s en) (bt s (en + 1)) = sg at csg hft HL
    have hlt := hw.lt
    have hT := hW.2.1
    have HT := hide hT
    have HB := hide hW.1
    have HD := hide hW.2.2
    clear h hW csk cle cdi cdb cwo cpk hw hat hT
    go_wp2_with (go_at_call 74; refine (csg _).mono ?_; rintro e w' ⟨rfl, rfl⟩)
    · rename_i g
      obtain ⟨c, hl, hd, _, hm⟩ := H.out
      have hx := HL.out
      have : sg = 0 := by simp only [beq_iff_eq] at g; omega
      rw [if_pos this] at hx
      refine wp_goto ?_
      show ∃ m', m' < m ∧ CuJ s at0 w0 0 m' _ _
      exact ⟨0, by omega, HW.out, en, en + sg, kd, bo, rfl, c.2.2.2.trans hx, rfl⟩
    · have g : ((en : Int) + (sg : Int) == (en : Int)) = false := by assumption
      obtain ⟨c, hl, hd, hq, hm⟩ := H.out
      have hx := HL.out
      have hne : sg ≠ 0 := by simp only [beq_eq_false_iff_ne, ne_eq] at g; omega
      rw [if_neg hne] at hx
      rename_i K hK
      refine wp_label ?_
      refine hK _ _ ?_
      have hcd : CuD s at0 3 en (en + sg) := ⟨c.1, by omega, hft, Or.inr ⟨by omega, by omega, by omega, c.2.2.2.trans hx⟩⟩
      have ecast : (en : Int) + (sg : Int) = ((en + sg : Nat) : Int) := by omega
      rw [ecast]
      have hes : en ≤ en + sg := Nat.le_add_right _ _
      generalize en + sg = ee at hcd hes hft
      have HC := hide hcd
      obtain ⟨⟨s1, s2⟩, ⟨s3, s4⟩, ⟨s5, s6⟩, s7⟩ := tok_store w' w0.heap.size _ _ _ (.int .i64 3) (.string (s.extract en ee)) (.int .i64 (en : Nat)) HT.out
      obtain ⟨b1, b2⟩ := tok_below w0 w' (.int .i64 3) (.string (s.extract en ee)) (.int .i64 (en : Nat)) HB.out HD.out hlt
      clear hcd hx hK ecast hl hd c H HL HW HB HD HT g
      go_wp2
      rw [jumps_ret]
      refine bodyPost_ret (v := .tuple #[.agg #[.int .i64 (3 : Nat), .string (s.extract en ee), .int .i64 (en : Nat)], .bool true]) ?_ rfl ⟨b1, b2, Or.inl ⟨3, en, ee, rfl, HC.out⟩⟩
      rw [results_cell_tmp rfl]
      have l0 := cell_of_row _ w0.heap.size 0 _ 73 (0, 0) s7
      have l1 := cell_of_row _ w0.heap.size 1 _ 73 (0, 0) s7
      have l2 := cell_of_row _ w0.heap.size 2 _ 73 (0, 0) s7
      go_simp
  case first =>
    have HW := hide (cuW_alloc w0 hw)
    go_wp2_with (first | (go_at_call 68; refine (csk _).mono ?_; rintro e w' ⟨rfl, ⟨p, rfl, k1, k2, k3, k4⟩ | ⟨p, rfl, k1⟩⟩) | (go_at_call 69; refine (cle _ (by assumption) _).mono ?_; rintro e w' ⟨rfl, rfl⟩) | (go_at_call 70; refine (cdi _ (by assumption) _).mono ?_; rintro e w' ⟨rfl, rfl⟩))
    · rename_i g
      simp only [beq_iff_eq] at g
      have g' : p = s.size := by omega
      refine wp_goto ?_
      show ∃ m', CuJ s at0 w0 1 m' _ _
      exact ⟨0, HW.out, p, p, 0, true, rfl, ⟨k1, Nat.le_refl _, k2, Or.inl ⟨rfl, g', g', by rw [k4, g']; exact lexA_fin (bt_z s)⟩⟩, rfl⟩
    · have hp : p < s.size := by assumption
      have g : isLe (bt s p) = true := by assumption
      refine wp_goto ?_
      show ∃ m', CuJ s at0 w0 2 m' _ _
      exact ⟨_, HW.out, p, p, 0, true, rfl, ⟨k1, hp, k3, k4⟩, g, Nat.le_refl _, k2, rfl, rfl⟩
    · have hp : p < s.size := by assumption
      have g : isLe (bt s p) = false := by assumption
      have g' : isDi (bt s p) = true := by assumption
      refine wp_goto ?_
      show ∃ m', CuJ s at0 w0 3 m' _ _
      exact ⟨_, HW.out, p, p, 0, true, rfl, ⟨k1, hp, k3, k4⟩, g, g', Nat.le_refl _, k2, rfl, rfl⟩
    · have hp : p < s.size := by assumption
      have g : isLe (bt s p) = false := by assumption
      have g' : isDi (bt s p) = false := by assumption
      refine wp_goto ?_
      show ∃ m', CuJ s at0 w0 4 m' _ _
      exact ⟨_, HW.out, p, p, 0, true, rfl, ⟨k1, hp, k3, k4⟩, g, g', rfl, rfl⟩
    · have g : ((p : Int) == (s.size : Int)) = false := by assumption
      have g' : ¬ p < s.size := by assumption
      simp only [beq_eq_false_iff_ne, ne_eq] at g
      omega
    · refine wp_goto ?_
      show ∃ m', CuJ s at0 w0 0 m' _ _
      exact ⟨0, HW.out, p, p, 0, false, rfl, k1, rfl⟩
end Go.Proofs.YtmfoehaeejhlpaaGreatDoor.Le
