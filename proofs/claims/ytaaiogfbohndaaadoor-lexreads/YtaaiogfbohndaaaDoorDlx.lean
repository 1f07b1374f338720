/-
  The document's Lex.
-/
import Derived.Test.YtaaiogfbohndaaaDoorDsgn
import Derived.Test.YtaaiogfbohndaaaDoorDnum
namespace Go.Proofs.YtaaiogfbohndaaaDoor
open Go.RowKit
set_option maxRecDepth 1000000
theorem ext_nil (s : ByteArray) (p : Nat) : s.extract p p = ByteArray.empty := by
  apply ByteArray.ext
  apply Array.toList_inj.1
  rw [ext_data, Nat.sub_self]
  rfl
theorem dx_below {w0 w w1 w2 : World} {n : Nat} {v : Value} {xs : List Value} (h0 : Below w0.heap.size w0 w) (h : w.ownsRow w0.heap.size 48 3 v n xs) (hb : Below w.heap.size w w1) {o : Obj}
    (hg : (w1.alloc o).grownBy w2 v.ownBlock) : Below w0.heap.size w0 w2 := by
  have h1 : Below w0.heap.size w0 (w1.alloc o) := (h0.trans (hb.mono h0.size)).alloc (Nat.le_trans h0.size hb.size) o
  exact h1.grown hg h1.size (fun k e => (h.lt k e).1)
theorem dx_new (w1 : World) (x y z : Value) : ∀ (j : Nat) (u : Value), [x, y, z][j]? = some u → (w1.alloc (.cells #[x, y, z] 48)).cell? ((⟨w1.heap.size, 0, none⟩ : Addr).add j) = some u := by
  intro j u hj
  have hh : (w1.alloc (.cells #[x, y, z] 48)).heap[w1.heap.size]? = some (.cells #[x, y, z] 48 (0, 0)) := Array.getElem?_push_size
  have hc := fun j => cell_of_row _ _ j _ 48 (0, 0) hh
  rw [← hj]
  simp only [Addr.add, Nat.zero_add]
  split
  · rename_i h0
    subst h0
    rw [hc 0]
    rfl
  · rw [hc j]
    simp
/-- What the document's Lex answers. -/
def DxR (s : ByteArray) (w w' : World) (e : Ending) : Prop :=
  (∃ (l : List Tk) (v : Value), s.size ≤ 8000 ∧ lexS s = .ok l ∧ l.length ≤ 8001 ∧ e = .returned (.tuple #[v, .int .i64 0, .int .i64 0]) ∧ w'.ownsRow w.heap.size 48 3 v l.length (tz s l)) ∨
  (∃ (at1 er : Nat), ((s.size ≤ 8000 ∧ lexS s = .no at1 ∧ er = 90) ∨ (8000 < s.size ∧ at1 = 8000 ∧ er = 102)) ∧ e = .returned (.tuple #[.slice none 0 0, .int .i64 (at1 : Nat), .int .i64 (er : Nat)]))
def dlF (s : ByteArray) (at1 : Nat) (v : Value) (u : Nat → Value) : Act := { tmps := #[.string s, undef, .slice none 0 0, .int .i64 0, .int .i64 0, v, .int .i64 (at1 : Nat), u 7, u 8, u 9, u 10, u 11, u 12, u 13, u 14, u 15, u 16, u 17, u 18, u 19, u 20, u 21, u 22, u 23, u 24, u 25, u 26, u 27, u 28, u 29, u 30, u 31, u 32, u 33, u 34, u 35, u 36, u 37, u 38, u 39, u 40, u 41, u 42, u 43, u 44, u 45, u 46, u 47, u 48, u 49, u 50, u 51, u 52, u 53, u 54, u 55, u 56, u 57, u 58, u 59, u 60, u 61, u 62, u 63, u 64, u 65, u 66, u 67, u 68, u 69, u 70, u 71, u 72, u 73, u 74, u 75, u 76, u 77, u 78, u 79, u 80, u 81, u 82, u 83, u 84, u 85, u 86, u 87, u 88, u 89, u 90, u 91, u 92, u 93, u 94, u 95, u 96, u 97, u 98, u 99, u 100, u 101, u 102, u 103, u 104, u 105, u 106, u 107, u 108, u 109, u 110, u 111, u 112, u 113, u 114, u 115, u 116, u 117, u 118, u 119, u 120, u 121, u 122, u 123, u 124, u 125, u 126, u 127, u 128, u 129, u 130, u 131, u 132, u 133, u 134], defers := [] }
def DxI (s : ByteArray) (w0 : World) (m : Nat) (a : Act) (w : World) : Prop := Below w0.heap.size w0 w ∧ ∃ (at1 : Nat) (v : Value) (l : List Tk), a = dlF s at1 v (fun k => a.tmps.getD k undef) ∧
  w.ownsRow w0.heap.size 48 3 v l.length (tz s l) ∧ at1 ≤ s.size ∧ l.length ≤ at1 ∧ lexS s = Rs.pre l (lexA (bt s) s.size at1) ∧ m = s.size - at1
theorem dxI_open {s : ByteArray} {w0 : World} {m : Nat} {a : Act} {w : World} (h : DxI s w0 m a w) : Below w0.heap.size w0 w ∧ ∃ (at1 : Nat) (v : Value) (l : List Tk) (u : Nat → Value), a = dlF s at1 v u ∧
  w.ownsRow w0.heap.size 48 3 v l.length (tz s l) ∧ at1 ≤ s.size ∧ l.length ≤ at1 ∧ lexS s = Rs.pre l (lexA (bt s) s.size at1) ∧ m = s.size - at1 := by
  obtain ⟨h1, at1, v, l, h3, h4⟩ := h
  exact ⟨h1, at1, v, l, _, h3, h4⟩
theorem dx_no {s : ByteArray} {w w' : World} {p : Nat} {l : List Tk} {b : Nat} (hs : s.size ≤ 8000) (h3 : lexS s = Rs.pre l (lexA (bt s) s.size p)) (hn : lexA (bt s) s.size p = .no b) : DxR s w w' (.returned (.tuple #[.slice none 0 0, .int .i64 (b : Nat), .int .i64 90])) :=
  Or.inr ⟨b, 90, Or.inl ⟨hs, by rw [h3, hn]; rfl, rfl⟩, rfl⟩
theorem remD_gt {s : ByteArray} {p : Nat} (_hp : p < s.size) (hb : isBl (bt s p) = false) :
    (remD s p < 0 ∧ lexA (bt s) s.size p = .no p) ∨ (∃ q : Nat, remD s p = (q : Nat) ∧ p < q ∧ q ≤ s.size ∧ lexA (bt s) s.size p = lexA (bt s) s.size q) ∨ (remD s p = (p : Nat) ∧ Stl (bt s) p) := by
  have hz := bt_z s
  unfold remD
  by_cases c1 : bt s p = 47 ∧ bt s (p + 1) = 47
  · rw [if_pos c1]
    obtain ⟨h1, h2⟩ := lexA_line hz c1
    refine Or.inr (Or.inl ⟨_, rfl, runE_pos _ _ _ (by rw [c1.1]; rfl) (by omega), ?_, h2⟩)
    have := runE_le (fun j => bt s j != 10) (s.size - p) p
    omega
  · rw [if_neg c1]
    by_cases c2 : bt s p = 47 ∧ bt s (p + 1) = 42
    · rw [if_pos c2]
      obtain ⟨h1, h2⟩ := lexA_rem hz c2
      cases hr : remE (bt s) (s.size - (p + 2)) (p + 2) with
      | none =>
        rw [hr] at h2
        exact Or.inl ⟨by decide, h2⟩
      | some e =>
        rw [hr] at h2
        obtain ⟨g1, g2, g3, g4, _⟩ := remE_some _ _ _ hr
        refine Or.inr (Or.inl ⟨e, rfl, by omega, ?_, h2⟩)
        by_cases g : e - 1 < s.size
        · omega
        · have := hz (e - 1) (by omega)
          omega
    · rw [if_neg c2]
      exact Or.inr (Or.inr ⟨rfl, hb, c1, c2⟩)
set_option maxHeartbeats 16000000 in
theorem dlex_any (s : ByteArray) (w0 : World) : Calls Tryd.prog 19 #[.string s] w0 fun e w' => Below w0.heap.size w0 w' ∧ DxR s w0 w' e := by
  by_cases hs : s.size ≤ 8000
  case neg =>
    have hs' : 8000 < s.size := by omega
    go_enter Tryd.func19, Tryd.ntmps19
    go_wp2
    · go_ret3
      exact ⟨Below.refl _ _, Or.inr ⟨8000, 102, Or.inr ⟨hs', rfl, rfl⟩, rfl⟩⟩
  case pos =>
    obtain ⟨i0, hi0, hz0, hz1, hz2⟩ := info_parts info48
    go_enter Tryd.func19, Tryd.ntmps19
    go_wp2
    refine loop_ghost (DxI s w0) s.size ⟨Below.refl _ _, 0, .slice none 0 0, [], rfl, World.ownsRow_nil _ _ _ _, Nat.zero_le _, Nat.zero_le _, by rw [Rs.pre_nil]; rfl, rfl⟩ ?_
    intro m a w hI
    obtain ⟨hbl, p, v, l, u, rfl, hown, h1, h2, h3, hm⟩ := dxI_open hI
    clear hI
    simp only [dlF]
    have HO := hide hown
    have H3 := hide h3
    have HB := hide hbl
    have HM := hide hm
    have HO2 : Hid (∀ (w1 : World) (o1 : Obj), Below w.heap.size w w1 → (w1.alloc o1).ownsRow w0.heap.size 48 3 v l.length (tz s l)) := fun w1 o1 h => (own_later hown h).alloc o1
    have HS : Hid (∀ (w1 : World) (o1 : Obj), Below w.heap.size w w1 → w0.heap.size ≤ (w1.alloc o1).heap.size) := fun w1 o1 h => by
      have := hbl.size; have := h.size; simp; omega
    clear hown h3 hbl hm
    by_cases hlt : p < s.size
    case neg =>
      have hpe : p = s.size := by omega
      subst hpe
      have hb1 : Below w.heap.size w w := Below.refl _ _
      go_wp2_with (at_builtin; apply stopHere)
      show wpList _ _ _ _ _ _
      refine wpList_append_lies _ rfl (.tmp 129) (.tmp 133) 25 rfl w0.heap.size 48 i0 (.agg #[.int .i64 0, .string ByteArray.empty, .int .i64 0]) 3 32 Tryd.underlying25 hi0 hz0 hz1 hz2 rfl (by decide) v l.length (tz s l) rfl (HO2.out _ _ hb1) ⟨_, 0, none⟩ 1 1 [.int .i64 (0 : Nat), .string (ByteArray.empty), .int .i64 (s.size : Nat)] rfl rfl ?d1E ?d2E (by decide) ?d3E ?d4E (HS.out _ _ hb1) _ rfl ?_
      case d1E => exact dx_new _ _ _ _
      case d2E =>
        intro u hu
        simp only [List.mem_cons, List.not_mem_nil, or_false] at hu
        rcases hu with rfl | rfl | rfl <;> rfl
      case d3E => unfold maxLen; omega
      case d4E => omega
      intro g cap w2 k1 k2 k3 k4
      have KB := hide (dx_below HB.out HO.out hb1 k2)
      have K1 := hide k1
      clear k1 k2 k3 hb1
      go_wp2
      go_ret3
      refine ⟨KB.out, Or.inl ⟨l ++ [⟨0, s.size, s.size⟩], _, hs, ?_, by simp; omega, rfl, ?_⟩⟩
      · rw [H3.out, lexA_fin (bt_z s)]
        rfl
      · rw [tz_push, ext_nil]
        have := K1.out
        simpa using this
    case pos =>
      have hz := bt_z s
      have hxe := bt_at s p hlt
      have hx255 := bt_lt s p
      by_cases hbk : isBl (bt s p) = true
      case pos =>
        have hx4 : ((s[p]'hlt).toNat : Int) = 32 ∨ ((s[p]'hlt).toNat : Int) = 9 ∨ ((s[p]'hlt).toNat : Int) = 10 ∨ ((s[p]'hlt).toNat : Int) = 13 := by
          rw [hxe] at hbk
          simp only [isBl, Bool.or_eq_true, beq_iff_eq] at hbk
          omega
        have HBK := hide (lexA_blank hz hbk)
        clear hbk hxe hx255 HO2 HS hz
        rcases hx4 with hx | hx | hx | hx
        all_goals
          go_wp2
          have hm := HM.out
          refine ⟨s.size - (p + 1), by omega, HB.out, p + 1, v, l, rfl, HO.out, by omega, by omega, ?_, rfl⟩
          rw [H3.out, HBK.out.2]
      case neg =>
        have hbf : isBl (bt s p) = false := by simpa using hbk
        have n1 : (((s[p]'hlt).toNat : Int) == 32) = false := by
          rw [hxe] at hbf; simp only [isBl, Bool.or_eq_false_iff, beq_eq_false_iff_ne] at hbf; rw [beq_eq_false_iff_ne]; omega
        have n2 : (((s[p]'hlt).toNat : Int) == 9) = false := by
          rw [hxe] at hbf; simp only [isBl, Bool.or_eq_false_iff, beq_eq_false_iff_ne] at hbf; rw [beq_eq_false_iff_ne]; omega
        have n3 : (((s[p]'hlt).toNat : Int) == 10) = false := by
          rw [hxe] at hbf; simp only [isBl, Bool.or_eq_false_iff, beq_eq_false_iff_ne] at hbf; rw [beq_eq_false_iff_ne]; omega
        have n4 : (((s[p]'hlt).toNat : Int) == 13) = false := by
          rw [hxe] at hbf; simp only [isBl, Bool.or_eq_false_iff, beq_eq_false_iff_ne] at hbf; rw [beq_eq_false_iff_ne]; omega
        have hr := remD_gt hlt hbf
        have c30 := dremark_any s p (by omega) hs
        have c31 : ∀ w : World, Calls Tryd.prog 31 #[.int .u8 ((s[p]'hlt).toNat : Nat)] w fun e w' => e = .returned (.bool (isLe (bt s p))) ∧ w' = w := fun w => by
          have := dletter_any (bt s p) (bt_lt s p) w
          rw [hxe] at this ⊢
          exact this
        have c32 : ∀ w : World, Calls Tryd.prog 32 #[.int .u8 ((s[p]'hlt).toNat : Nat)] w fun e w' => e = .returned (.bool (isDi (bt s p))) ∧ w' = w := fun w => by
          have := ddigit_any (bt s p) (bt_lt s p) w
          rw [hxe] at this ⊢
          exact this
        have c33 := dsign_any s p (by omega) hs
        have c34 := dword_any s p (by omega) hs
        generalize remD s p = r at hr c30
        clear hbk hbf hx255 hxe
        rcases hr with ⟨hr, hl⟩ | ⟨q, rfl, hq1, hq2, hl⟩ | ⟨rfl, hst⟩
        · have HL := hide hl
          clear hl c31 c32 c33 c34 hz HO2 HS
          go_wp2_with (go_at_call 30; refine (c30 _).mono ?_; rintro e w' ⟨rfl, rfl⟩)
          go_ret3
          exact ⟨HB.out, dx_no hs H3.out HL.out⟩
        · have HL := hide hl
          clear hl c31 c32 c33 c34 hz HO2 HS
          go_wp2_with (go_at_call 30; refine (c30 _).mono ?_; rintro e w' ⟨rfl, rfl⟩)
          have hm := HM.out
          refine ⟨s.size - q, by omega, HB.out, q, v, l, rfl, HO.out, by omega, by omega, ?_, rfl⟩
          rw [H3.out, HL.out]
        · have HZ := hide hz
          have HST := hide hst
          clear hz hst
          cases hle : isLe (bt s p)
          case true =>
            rw [hle] at c31
            have hl := lexA_word HZ.out hlt HST.out hle rfl
            have e1 := runE_pos (fun j => isWo (bt s j)) (s.size - p) p (isLe_wo hle) (by omega)
            have e2 := runE_le (fun j => isWo (bt s j)) (s.size - p) p
            generalize runE (fun j => isWo (bt s j)) (s.size - p) p = en at hl e1 e2 c34
            have e3 : en ≤ s.size := by omega
            generalize isDi (bt s p) = bd at c32
            clear hle e2
            by_cases hlong : 16 < en - p
            · rw [if_pos hlong] at hl
              have HL := hide hl
              have hlong' : (16 : Int) < (en : Int) - (p : Int) := by omega
              clear hl HO2 HS
              go_wp2_with (first | (go_at_call 30; refine (c30 _).mono ?_; rintro e w' ⟨rfl, rfl⟩) | (go_at_call 31; refine (c31 _).mono ?_; rintro e w' ⟨rfl, rfl⟩) | (go_at_call 32; refine (c32 _).mono ?_; rintro e w' ⟨rfl, rfl⟩) | (go_at_call 33; refine (c33 _).mono ?_; rintro e w1 ⟨rfl, hb1⟩) | (go_at_call 34; refine (c34 _).mono ?_; rintro e w' ⟨rfl, rfl⟩))
              go_ret3
              exact ⟨HB.out.trans (hb1.mono HB.out.size), dx_no hs H3.out HL.out⟩
            · rw [if_neg hlong] at hl
              have HL := hide hl
              have hlong' : ¬ (16 : Int) < (en : Int) - (p : Int) := by omega
              clear hl
              go_wp2_with (first | (go_at_call 30; refine (c30 _).mono ?_; rintro e w' ⟨rfl, rfl⟩) | (go_at_call 31; refine (c31 _).mono ?_; rintro e w' ⟨rfl, rfl⟩) | (go_at_call 32; refine (c32 _).mono ?_; rintro e w' ⟨rfl, rfl⟩) | (go_at_call 33; refine (c33 _).mono ?_; rintro e w1 ⟨rfl, hb1⟩) | (go_at_call 34; refine (c34 _).mono ?_; rintro e w' ⟨rfl, rfl⟩) | (at_builtin; apply stopHere))
              show wpList _ _ _ _ _ _
              refine wpList_append_lies _ rfl (.tmp 69) (.tmp 76) 25 rfl w0.heap.size 48 i0 (.agg #[.int .i64 0, .string ByteArray.empty, .int .i64 0]) 3 32 Tryd.underlying25 hi0 hz0 hz1 hz2 rfl (by decide) v l.length (tz s l) rfl (HO2.out _ _ hb1) ⟨_, 0, none⟩ 1 1 [.int .i64 (1 : Nat), .string (s.extract p en), .int .i64 (p : Nat)] rfl rfl ?d1W ?d2W (by decide) ?d3W ?d4W (HS.out _ _ hb1) _ rfl ?_
              case d1W => exact dx_new _ _ _ _
              case d2W =>
                intro u hu
                simp only [List.mem_cons, List.not_mem_nil, or_false] at hu
                rcases hu with rfl | rfl | rfl <;> rfl
              case d3W => unfold maxLen; omega
              case d4W => omega
              intro g cap w2 k1 k2 k3 k4
              have KB := hide (dx_below HB.out HO.out hb1 k2)
              have K1 := hide k1
              clear k1 k2 k3 hb1
              have hm := HM.out
              go_wp2
              refine ⟨s.size - en, by omega, KB.out, en, _, l ++ [⟨1, p, en⟩], rfl, ?_, by omega, by simp; omega, ?_, rfl⟩
              · rw [tz_push]
                have := K1.out
                simpa using this
              · rw [H3.out, HL.out, Rs.pre_cons]
          case false =>
            rw [hle] at c31
            cases hdi : isDi (bt s p)
            case true =>
              rw [hdi] at c32
              have hl := lexA_num HZ.out hlt HST.out hle hdi rfl
              have c35 := dnumber_any s p hlt hdi hs
              have e1 := runE_pos (fun j => isDi (bt s j)) (s.size - p) p hdi (by omega)
              have e2 := runE_le (fun j => isDi (bt s j)) (s.size - p) p
              have e4 := runE_end (fun j => isDi (bt s j)) (s.size - p) p
              generalize runE (fun j => isDi (bt s j)) (s.size - p) p = en at hl e1 e2 e4 c35
              have e3 : en ≤ s.size := by omega
              clear hle hdi e2 c34
              generalize numOk (bt s) p en = ok at hl c35
              cases ok
              case false =>
                rw [if_neg (by decide)] at hl
                have HL := hide hl
                clear hl HO2 HS e4
                go_wp2_with (first | (go_at_call 30; refine (c30 _).mono ?_; rintro e w' ⟨rfl, rfl⟩) | (go_at_call 31; refine (c31 _).mono ?_; rintro e w' ⟨rfl, rfl⟩) | (go_at_call 32; refine (c32 _).mono ?_; rintro e w' ⟨rfl, rfl⟩) | (go_at_call 33; refine (c33 _).mono ?_; rintro e w1 ⟨rfl, hb1⟩) | (go_at_call 35; refine (c35 _).mono ?_; rintro e w2 ⟨rfl, hb2⟩))
                go_ret3
                exact ⟨(HB.out.trans (hb1.mono HB.out.size)).trans (hb2.mono (Nat.le_trans HB.out.size hb1.size)), dx_no hs H3.out HL.out⟩
              case true =>
                rw [if_pos rfl] at hl
                by_cases hel : en < s.size
                case pos =>
                  have e5 : isDi (bt s en) = false := by
                    rcases e4 with h | h
                    · exact h
                    · omega
                  have hye := bt_at s en hel
                  have c31b : ∀ w : World, Calls Tryd.prog 31 #[.int .u8 ((s[en]'hel).toNat : Nat)] w fun e w' => e = .returned (.bool (isLe (bt s en))) ∧ w' = w := fun w => by
                    have := dletter_any (bt s en) (bt_lt s en) w
                    rw [hye] at this ⊢
                    exact this
                  by_cases hw : isWo (bt s en) = true
                  · rw [if_pos hw] at hl
                    have HL := hide hl
                    have hww : isLe (bt s en) = true ∨ (isLe (bt s en) = false ∧ (((s[en]'hel).toNat : Int) == 95) = true) := by
                      rw [isWo, e5, Bool.or_false, Bool.or_eq_true] at hw
                      cases hq : isLe (bt s en)
                      · right
                        rcases hw with h | h
                        · rw [hq] at h; cases h
                        · rw [hye] at h
                          refine ⟨rfl, ?_⟩
                          rw [beq_iff_eq] at h ⊢
                          omega
                      · exact Or.inl rfl
                    clear hl HO2 HS e4 e5 hw hye
                    generalize isLe (bt s en) = bl at hww c31b
                    rcases hww with rfl | ⟨rfl, h95⟩
                    all_goals
                      go_upto_region 28 with (first | (go_at_call 30; refine (c30 _).mono ?_; rintro e w' ⟨rfl, rfl⟩) | (go_at_call 31; refine (c31 _).mono ?_; rintro e w' ⟨rfl, rfl⟩) | (go_at_call 32; refine (c32 _).mono ?_; rintro e w' ⟨rfl, rfl⟩) | (go_at_call 33; refine (c33 _).mono ?_; rintro e w1 ⟨rfl, hb1⟩) | (go_at_call 35; refine (c35 _).mono ?_; rintro e w2 ⟨rfl, hb2⟩))
                      go_wp2_with (go_at_call 31; refine (c31b _).mono ?_; rintro e w' ⟨rfl, rfl⟩)
                      go_ret3
                      exact ⟨(HB.out.trans (hb1.mono HB.out.size)).trans (hb2.mono (Nat.le_trans HB.out.size hb1.size)), dx_no hs H3.out HL.out⟩
                  · rw [if_neg hw] at hl
                    have HL := hide hl
                    have hle2 : isLe (bt s en) = false := by
                      cases h : isLe (bt s en)
                      · rfl
                      · exact absurd (isLe_wo h) hw
                    have h95 : (((s[en]'hel).toNat : Int) == 95) = false := by
                      rw [beq_eq_false_iff_ne]
                      intro h
                      apply hw
                      rw [isWo, hye, show (s[en]'hel).toNat = 95 by omega]
                      simp
                    rw [hle2] at c31b
                    clear hl e4 e5 hw hye hle2
                    go_upto_region 28 with (first | (go_at_call 30; refine (c30 _).mono ?_; rintro e w' ⟨rfl, rfl⟩) | (go_at_call 31; refine (c31 _).mono ?_; rintro e w' ⟨rfl, rfl⟩) | (go_at_call 32; refine (c32 _).mono ?_; rintro e w' ⟨rfl, rfl⟩) | (go_at_call 33; refine (c33 _).mono ?_; rintro e w1 ⟨rfl, hb1⟩) | (go_at_call 35; refine (c35 _).mono ?_; rintro e w2 ⟨rfl, hb2⟩))
                    obtain ⟨w3, rfl⟩ : ∃ w3, w3 = w2 := ⟨_, rfl⟩
                    replace hb1 := hb1.trans (hb2.mono hb1.size)
                    clear hb2
                    go_wp2_with (first | (go_at_call 31; refine (c31b _).mono ?_; rintro e w' ⟨rfl, rfl⟩) | (at_builtin; apply stopHere))
                    show wpList _ _ _ _ _ _
                    refine wpList_append_lies _ rfl (.tmp 106) (.tmp 113) 25 rfl w0.heap.size 48 i0 (.agg #[.int .i64 0, .string ByteArray.empty, .int .i64 0]) 3 32 Tryd.underlying25 hi0 hz0 hz1 hz2 rfl (by decide) v l.length (tz s l) rfl (HO2.out _ _ hb1) ⟨_, 0, none⟩ 1 1 [.int .i64 (2 : Nat), .string (s.extract p en), .int .i64 (p : Nat)] rfl rfl ?d1M ?d2M (by decide) ?d3M ?d4M (HS.out _ _ hb1) _ rfl ?_
                    case d1M => exact dx_new _ _ _ _
                    case d2M =>
                      intro u hu
                      simp only [List.mem_cons, List.not_mem_nil, or_false] at hu
                      rcases hu with rfl | rfl | rfl <;> rfl
                    case d3M => unfold maxLen; omega
                    case d4M => omega
                    intro g cap w2 k1 k2 k3 k4
                    have KB := hide (dx_below HB.out HO.out hb1 k2)
                    have K1 := hide k1
                    clear k1 k2 k3 hb1
                    have hm := HM.out
                    go_wp2
                    refine ⟨s.size - en, by omega, KB.out, en, _, l ++ [⟨2, p, en⟩], rfl, ?_, by omega, by simp; omega, ?_, rfl⟩
                    · rw [tz_push]
                      have := K1.out
                      simpa using this
                    · rw [H3.out, HL.out, Rs.pre_cons]
                case neg =>
                  have hen : en = s.size := by omega
                  have hw : ¬ isWo (bt s en) = true := by rw [HZ.out en (by omega)]; decide
                  rw [if_neg hw] at hl
                  have HL := hide hl
                  clear hl e4 hw
                  have HEN := hide hen
                  clear hen
                  go_upto_region 28 with (first | (go_at_call 30; refine (c30 _).mono ?_; rintro e w' ⟨rfl, rfl⟩) | (go_at_call 31; refine (c31 _).mono ?_; rintro e w' ⟨rfl, rfl⟩) | (go_at_call 32; refine (c32 _).mono ?_; rintro e w' ⟨rfl, rfl⟩) | (go_at_call 33; refine (c33 _).mono ?_; rintro e w1 ⟨rfl, hb1⟩) | (go_at_call 35; refine (c35 _).mono ?_; rintro e w2 ⟨rfl, hb2⟩))
                  replace hb1 := hb1.trans (hb2.mono hb1.size)
                  clear hb2
                  go_wp2_with (at_builtin; apply stopHere)
                  show wpList _ _ _ _ _ _
                  refine wpList_append_lies _ rfl (.tmp 106) (.tmp 113) 25 rfl w0.heap.size 48 i0 (.agg #[.int .i64 0, .string ByteArray.empty, .int .i64 0]) 3 32 Tryd.underlying25 hi0 hz0 hz1 hz2 rfl (by decide) v l.length (tz s l) rfl (HO2.out _ _ hb1) ⟨_, 0, none⟩ 1 1 [.int .i64 (2 : Nat), .string (s.extract p en), .int .i64 (p : Nat)] rfl rfl ?d1N ?d2N (by decide) ?d3N ?d4N (HS.out _ _ hb1) _ rfl ?_
                  case d1N => exact dx_new _ _ _ _
                  case d2N =>
                    intro u hu
                    simp only [List.mem_cons, List.not_mem_nil, or_false] at hu
                    rcases hu with rfl | rfl | rfl <;> rfl
                  case d3N => unfold maxLen; omega
                  case d4N => omega
                  intro g cap w2 k1 k2 k3 k4
                  have KB := hide (dx_below HB.out HO.out hb1 k2)
                  have K1 := hide k1
                  clear k1 k2 k3 hb1
                  have hm := HM.out
                  go_wp2
                  refine ⟨s.size - en, by omega, KB.out, en, _, l ++ [⟨2, p, en⟩], rfl, ?_, by omega, by simp; omega, ?_, rfl⟩
                  · rw [tz_push]
                    have := K1.out
                    simpa using this
                  · rw [H3.out, HL.out, Rs.pre_cons]
            case false =>
              rw [hdi] at c32
              have hl := lexA_sign HZ.out hlt HST.out hle hdi
              have hfit := sgn_fit HZ.out hlt
              have hle2 := sgn_le (bt s p) (bt s (p + 1))
              have hsz : (sgT s p).size = sgn (bt s p) (bt s (p + 1)) := by
                unfold sgT
                rw [ByteArray.size_extract]
                omega
              have htx : sgT s p = s.extract p (p + sgn (bt s p) (bt s (p + 1))) := rfl
              generalize sgn (bt s p) (bt s (p + 1)) = k at hl hfit hle2 hsz htx
              generalize sgT s p = tx at hsz htx c33
              clear hle hdi c34
              by_cases hk : k = 0
              · rw [if_pos hk] at hl
                have HL := hide hl
                obtain rfl : tx = ByteArray.empty := by rw [htx, hk, Nat.add_zero, ext_nil]
                clear hl htx hsz HO2 HS
                go_wp2_with (first | (go_at_call 30; refine (c30 _).mono ?_; rintro e w' ⟨rfl, rfl⟩) | (go_at_call 31; refine (c31 _).mono ?_; rintro e w' ⟨rfl, rfl⟩) | (go_at_call 32; refine (c32 _).mono ?_; rintro e w' ⟨rfl, rfl⟩) | (go_at_call 33; refine (c33 _).mono ?_; rintro e w1 ⟨rfl, hb1⟩))
                go_ret3
                exact ⟨HB.out.trans (hb1.mono HB.out.size), dx_no hs H3.out HL.out⟩
              · rw [if_neg hk] at hl
                have HL := hide hl
                have hne : (tx.toList == []) = false := by
                  rw [beq_eq_false_iff_ne]
                  intro h
                  have : tx.size = 0 := by
                    rw [htx, Lib.extract_toList] at h
                    have h2 := congrArg List.length h
                    simp only [List.length_take, List.length_drop, List.length_nil, Array.length_toList, ByteArray.size_data] at h2
                    omega
                  omega
                have HTX := hide htx
                clear hl htx
                go_wp2_with (first | (go_at_call 30; refine (c30 _).mono ?_; rintro e w' ⟨rfl, rfl⟩) | (go_at_call 31; refine (c31 _).mono ?_; rintro e w' ⟨rfl, rfl⟩) | (go_at_call 32; refine (c32 _).mono ?_; rintro e w' ⟨rfl, rfl⟩) | (go_at_call 33; refine (c33 _).mono ?_; rintro e w1 ⟨rfl, hb1⟩) | (at_builtin; apply stopHere))
                show wpList _ _ _ _ _ _
                refine wpList_append_lies _ rfl (.tmp 122) (.tmp 126) 25 rfl w0.heap.size 48 i0 (.agg #[.int .i64 0, .string ByteArray.empty, .int .i64 0]) 3 32 Tryd.underlying25 hi0 hz0 hz1 hz2 rfl (by decide) v l.length (tz s l) rfl (HO2.out _ _ hb1) ⟨_, 0, none⟩ 1 1 [.int .i64 (3 : Nat), .string (tx), .int .i64 (p : Nat)] rfl rfl ?d1S ?d2S (by decide) ?d3S ?d4S (HS.out _ _ hb1) _ rfl ?_
                case d1S => exact dx_new _ _ _ _
                case d2S =>
                  intro u hu
                  simp only [List.mem_cons, List.not_mem_nil, or_false] at hu
                  rcases hu with rfl | rfl | rfl <;> rfl
                case d3S => unfold maxLen; omega
                case d4S => omega
                intro g cap w2 k1 k2 k3 k4
                have KB := hide (dx_below HB.out HO.out hb1 k2)
                have K1 := hide k1
                clear k1 k2 k3 hb1
                have hm := HM.out
                go_wp2
                refine ⟨s.size - (p + k), by omega, KB.out, (p + k), _, l ++ [⟨3, p, (p + k)⟩], rfl, ?_, by omega, by simp; omega, ?_, rfl⟩
                · rw [tz_push]
                  have := K1.out
                  rw [HTX.out] at this
                  simpa using this
                · rw [H3.out, HL.out, Rs.pre_cons]
end Go.Proofs.YtaaiogfbohndaaaDoor
