/-
  skip: past blanks and remarks.
-/
import Derived.Test.YtaaiogfbohndaaaDoorBase
import Derived.Test.YtaaiogfbohndaaaDoorNum
import Derived.Test.YtaaiogfbohndaaaDoorShelf
namespace Go.Proofs.YtaaiogfbohndaaaDoor
open Go.RowKit
set_option maxRecDepth 1000000

theorem hp_any (s : ByteArray) (p : Nat) (c d : UInt8) (hc : c ≠ 0) (hd : d ≠ 0) (w : World) :
    Calls Tryd.prog 43 #[.string (s.extract p s.size), .string ⟨#[c, d]⟩] w fun e w' => e = .returned (.bool (bt s p == c.toNat && bt s (p + 1) == d.toNat)) ∧ w' = w := by
  have h := Tryd.strings_HasPrefix (s.extract p s.size) ⟨#[c, d]⟩ w
  rw [show (⟨#[c, d]⟩ : ByteArray).data.toList = [c, d] from rfl, hasPrefix_two _ c d hc hd] at h
  have e : ∀ i, ((s.extract p s.size).data.toList.getD i 0).toNat = bt s (p + i) := fun i => by
    have := bt_ext s p s.size i (Nat.le_refl _)
    unfold bt at this ⊢
    rw [this]
    split
    · rfl
    · rename_i h
      have := bt_z s (p + i) (by omega)
      unfold bt at this
      rw [this]
  have q : ∀ x y : UInt8, (x == y) = (x.toNat == y.toNat) := fun x y => by
    rw [Bool.eq_iff_iff]
    simp [UInt8.toNat_inj]
  rw [q, q, e 0, e 1] at h
  exact h

/-- What holds at a jump to between, line, remark. -/
def SkI (s : ByteArray) (at0 l m p st : Nat) : Prop := at0 ≤ p ∧ p ≤ s.size ∧ match l with
  | 0 => lexA (bt s) s.size at0 = lexA (bt s) s.size p ∧ m = 3 * (s.size - p) + 1
  | 1 => lexA (bt s) s.size at0 = lexA (bt s) s.size (runE (fun j => bt s j != 10) (s.size - p) p) ∧ m = 3 * (s.size - p) + (if p = s.size ∨ bt s p = 10 then 2 else 0)
  | 2 => lexA (bt s) s.size at0 = remR (bt s) s.size st (remE (bt s) (s.size - p) p) ∧ m = 3 * (s.size - p) + 1
  | _ => False
def SkJ (s : ByteArray) (at0 : Nat) (w0 : World) (l m : Nat) (a : Act) (w : World) : Prop := w = w0 ∧ ∃ (p st : Nat) (u7 u8 u9 u10 u11 u12 u13 u14 u15 u16 u17 u18 u19 u20 u21 u22 u23 u24 u25 u26 u27 u28 u29 u30 u31 u32 u33 u34 u35 u36 u37 u38 u39 u40 u41 u42 u43 u44 u45 u46 u47 u48 u49 u50 u51 u52 u53 u54 : Value), a = { tmps := #[.string s, .int .i64 (p : Nat), undef, undef, .int .i64 0, .bool false, .int .i64 (st : Nat), u7, u8, u9, u10, u11, u12, u13, u14, u15, u16, u17, u18, u19, u20, u21, u22, u23, u24, u25, u26, u27, u28, u29, u30, u31, u32, u33, u34, u35, u36, u37, u38, u39, u40, u41, u42, u43, u44, u45, u46, u47, u48, u49, u50, u51, u52, u53, u54], defers := [] } ∧ SkI s at0 l m p st

theorem skip_any (s : ByteArray) (at0 : Nat) (hat : at0 ≤ s.size) (hs : s.size ≤ 8000) (w : World) :
    Calls Tryd.prog 23 #[.string s, .int .i64 at0] w fun e w' => w' = w ∧ ((∃ p : Nat, e = .returned (.tuple #[.int .i64 p, .bool true]) ∧ at0 ≤ p ∧ p ≤ s.size ∧ Stl (bt s) p ∧ lexA (bt s) s.size at0 = lexA (bt s) s.size p) ∨
      (∃ p : Nat, e = .returned (.tuple #[.int .i64 p, .bool false]) ∧ lexA (bt s) s.size at0 = .no p)) := by
  go_enter Tryd.func23, Tryd.ntmps23
  go_wp2
  show Code.wp Tryd.prog (Code.scope _) (bodyPost Tryd.prog Tryd.f23 _) _ _
  refine scope_three (x0 := ?x0) (x1 := ?x1) (x2 := ?x2) (SkJ s at0 w) ?hJ ?h0 ?h1 ?h2 ?p0 ?p1 ?p2 ?first
  case h0 => rfl
  case h1 => rfl
  case h2 => rfl
  case hJ =>
    rintro l m a w' ⟨_, p, st, u7, u8, u9, u10, u11, u12, u13, u14, u15, u16, u17, u18, u19, u20, u21, u22, u23, u24, u25, u26, u27, u28, u29, u30, u31, u32, u33, u34, u35, u36, u37, u38, u39, u40, u41, u42, u43, u44, u45, u46, u47, u48, u49, u50, u51, u52, u53, u54, _, _, _, h⟩
    match l with
    | 0 => omega
    | 1 => omega
    | 2 => omega
    | _ + 3 => exact h.elim
  case p0 =>
    rintro m a w' ⟨rfl, p, st, u7, u8, u9, u10, u11, u12, u13, u14, u15, u16, u17, u18, u19, u20, u21, u22, u23, u24, u25, u26, u27, u28, u29, u30, u31, u32, u33, u34, u35, u36, u37, u38, u39, u40, u41, u42, u43, u44, u45, u46, u47, u48, u49, u50, u51, u52, u53, u54, rfl, h1, h2, h3, h4⟩
    have cpk := peek_any s p h2
    have cbl := isblank_any (bt s p) (bt_lt s p)
    have ch1 := hp_any s p 47 47 (by decide) (by decide)
    have ch2 := hp_any s p 47 42 (by decide) (by decide)
    go_wp2_with (first | (go_at_call 27; refine (cpk _).mono ?_; rintro e w' ⟨rfl, rfl⟩) | (go_at_call 42; refine (cbl _).mono ?_; rintro e w' ⟨rfl, rfl⟩) | (go_at_call 43; first | (refine (ch1 _).mono ?_; rintro e w' ⟨rfl, rfl⟩) | (refine (ch2 _).mono ?_; rintro e w' ⟨rfl, rfl⟩)))
    · rename_i hb
      refine wp_goto ?_
      obtain ⟨e1, e2⟩ := lexA_blank (bt_z s) hb
      show ∃ m', m' < m ∧ SkJ s at0 w' 0 m' _ _
      refine ⟨3 * (s.size - (p + 1)) + 1, by omega, rfl, p + 1, st, ?_⟩
      repeat apply Exists.intro
      exact ⟨rfl, by omega, by omega, by rw [h3, e2], rfl⟩
    · rename_i hb hp
      refine wp_goto ?_
      simp only [beq_iff_eq] at hp
      obtain ⟨e1, e2⟩ := lexA_line (bt_z s) hp
      show ∃ m', m' < m ∧ SkJ s at0 w' 1 m' _ _
      refine ⟨3 * (s.size - p) + 0, by omega, rfl, p, st, ?_⟩
      repeat apply Exists.intro
      exact ⟨rfl, by omega, by omega, by rw [h3, e2], by rw [if_neg (by omega)]⟩
    · rename_i hb hp1 hp
      refine wp_goto ?_
      simp only [beq_iff_eq] at hp
      obtain ⟨e1, e2⟩ := lexA_rem (bt_z s) hp
      show ∃ m', m' < m ∧ SkJ s at0 w' 2 m' _ _
      refine ⟨3 * (s.size - (p + 2)) + 1, by omega, rfl, p + 2, p, ?_⟩
      repeat apply Exists.intro
      exact ⟨rfl, by omega, by omega, by rw [h3, e2], rfl⟩
    · have hb : isBl (bt s p) = false := by assumption
      have hp1 : (bt s p == 47) = false ∨ (bt s (p + 1) == 47) = false := by assumption
      have hp : (bt s p == 47) = false ∨ (bt s (p + 1) == 42) = false := by assumption
      rw [jumps_ret]
      go_ret2
      simp only [beq_eq_false_iff_ne, ne_eq] at hp hp1
      refine ⟨rfl, Or.inl ⟨p, rfl, h1, h2, ⟨hb, by omega, by omega⟩, h3⟩⟩
  case p1 =>
    rintro m a w' ⟨rfl, p, st, u7, u8, u9, u10, u11, u12, u13, u14, u15, u16, u17, u18, u19, u20, u21, u22, u23, u24, u25, u26, u27, u28, u29, u30, u31, u32, u33, u34, u35, u36, u37, u38, u39, u40, u41, u42, u43, u44, u45, u46, u47, u48, u49, u50, u51, u52, u53, u54, rfl, h1, h2, h3, h4⟩
    go_wp2
    · rename_i hp hb
      refine wp_goto ?_
      rw [← bt_at s p hp] at hb
      have hb' : bt s p ≠ 10 := by intro h; rw [h] at hb; exact absurd hb (by decide)
      rw [if_neg (by omega)] at h4
      show ∃ m', m' < m ∧ SkJ s at0 w' 1 m' _ _
      refine ⟨3 * (s.size - (p + 1)) + (if p + 1 = s.size ∨ bt s (p + 1) = 10 then 2 else 0), by split <;> omega, rfl, p + 1, st, ?_⟩
      repeat apply Exists.intro
      exact ⟨rfl, by omega, by omega, by rw [h3, runE_succ hp (by simpa using hb')], rfl⟩
    · have hp : p < s.size := by assumption
      have hb : (((s[p]'hp).toNat : Int) != 10) = false := by assumption
      refine wp_goto ?_
      rw [← bt_at s p hp] at hb
      have hb' : bt s p = 10 := by
        have : ((bt s p : Nat) : Int) = 10 := by simpa using hb
        omega
      rw [if_pos (Or.inr hb')] at h4
      show ∃ m', m' < m ∧ SkJ s at0 w' 0 m' _ _
      refine ⟨3 * (s.size - p) + 1, by omega, rfl, p, st, ?_⟩
      repeat apply Exists.intro
      exact ⟨rfl, by omega, by omega, by rw [h3, runE_stop (Or.inr (by simpa using hb'))], rfl⟩
    · rename_i hp
      refine wp_goto ?_
      rw [if_pos (Or.inl (by omega))] at h4
      show ∃ m', m' < m ∧ SkJ s at0 w' 0 m' _ _
      refine ⟨3 * (s.size - p) + 1, by omega, rfl, p, st, ?_⟩
      repeat apply Exists.intro
      exact ⟨rfl, by omega, by omega, by rw [h3, runE_stop (Or.inl (by omega))], rfl⟩
  case p2 =>
    rintro m a w' ⟨rfl, p, st, u7, u8, u9, u10, u11, u12, u13, u14, u15, u16, u17, u18, u19, u20, u21, u22, u23, u24, u25, u26, u27, u28, u29, u30, u31, u32, u33, u34, u35, u36, u37, u38, u39, u40, u41, u42, u43, u44, u45, u46, u47, u48, u49, u50, u51, u52, u53, u54, rfl, h1, h2, h3, h4⟩
    have ch1 := hp_any s p 42 47 (by decide) (by decide)
    go_wp2_with (go_at_call 43; refine (ch1 _).mono ?_; rintro e w' ⟨rfl, rfl⟩)
    · rename_i hp
      rw [jumps_ret]
      go_ret2
      simp only [beq_iff_eq] at hp
      have : p = s.size := by omega
      rw [this, Nat.sub_self, remE] at h3
      exact ⟨rfl, Or.inr ⟨st, rfl, h3⟩⟩
    · rename_i hp hb
      refine wp_goto ?_
      simp only [beq_iff_eq] at hb
      have hn : p + 1 < s.size := by
        by_cases g : p + 1 < s.size
        · exact g
        · have := bt_z s (p + 1) (by omega); omega
      show ∃ m', m' < m ∧ SkJ s at0 w' 0 m' _ _
      refine ⟨3 * (s.size - (p + 2)) + 1, by omega, rfl, p + 2, st, ?_⟩
      repeat apply Exists.intro
      exact ⟨rfl, by omega, by omega, by rw [h3, remE_hit (by omega) hb, remR], rfl⟩
    · rename_i hb
      have hp : ((p : Int) == (s.size : Int)) = false := by assumption
      refine wp_goto ?_
      simp only [beq_eq_false_iff_ne, ne_eq] at hp hb
      show ∃ m', m' < m ∧ SkJ s at0 w' 2 m' _ _
      refine ⟨3 * (s.size - (p + 1)) + 1, by omega, rfl, p + 1, st, ?_⟩
      repeat apply Exists.intro
      exact ⟨rfl, by omega, by omega, by rw [h3, remE_miss (by omega) (by omega)], rfl⟩
  case first =>
    intro p0
    go_wp2
    rename_i K hK
    refine wp_label ?_
    refine hK _ _ (p0 (3 * (s.size - at0) + 1) _ _ ⟨rfl, at0, 0, ?_⟩)
    repeat apply Exists.intro
    exact ⟨rfl, Nat.le_refl _, hat, rfl, rfl⟩
end Go.Proofs.YtaaiogfbohndaaaDoor
