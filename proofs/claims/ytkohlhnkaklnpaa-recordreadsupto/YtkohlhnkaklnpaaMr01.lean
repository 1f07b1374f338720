import Derived.Test.YtkohlhnkaklnpaaMr00
import Derived.Lib.Zigzag
import Derived.Laws.ResultCell
namespace Go.Proofs.Ytkohlhnkaklnpaa
open Go.RowKit

theorem ret_pair {k k' : IntKind} {a b a' b' : Int} (h : a = a') (h' : b = b') : Ending.returned (.tuple #[.int k a, .int k' b]) = .returned (.tuple #[.int k a', .int k' b']) := by rw [h, h']
theorem andNot128 (b : Nat) (hb : b < 256) : bits .andNot .u8 (b : Int) 128 = ((b % 128 : Nat) : Int) := by
  rw [show (128 : Int) = ((128 : Nat) : Int) by rfl, u8_andNot_nat b 128 hb (by omega), nat_mask7]
theorem and128_nat : ∀ b : Fin 256, b.val &&& 128 = if 128 ≤ b.val then 128 else 0 := by decide +kernel
theorem and128 (b : Nat) (hb : b < 256) : bits .and .u8 (b : Int) 128 = if 128 ≤ b then 128 else 0 := by
  rw [show bits .and .u8 (b : Int) 128 = ((b &&& 128 : Nat) : Int) from u8_and_nat b 128 hb (by omega), and128_nat ⟨b, hb⟩]
  split <;> rfl
theorem or_shift {k acc b : Nat} (hacc : acc < 2 ^ (7 * k)) (hb : b * 2 ^ (7 * k) < 18446744073709551616) (hk : k < 10) :
    bits .or .u64 (acc : Int) (IntKind.u64.wrap ((b : Int) * 2 ^ (7 * k))) = ((acc + b * 2 ^ (7 * k) : Nat) : Int) := by
  have e : ((b : Int) * 2 ^ (7 * k)) = ((b * 2 ^ (7 * k) : Nat) : Int) := by
    rw [Int.natCast_mul, Int.natCast_pow]
    rfl
  have hp : 2 ^ (7 * k) ≤ 2 ^ 63 := Nat.pow_le_pow_right (by omega) (by omega)
  have h63 : 2 ^ 63 = 9223372036854775808 := by decide
  rw [e, IntKind.wrap_u64, show (((b * 2 ^ (7 * k) : Nat) : Int) % 18446744073709551616) = ((b * 2 ^ (7 * k) : Nat) : Int) by omega, u64_or_nat _ _ (by omega) hb, Nat.or_comm, nat_join (7 * k) _ _ (Nat.mul_mod_left _ _) hacc, Nat.add_comm]
theorem or_shift9 {acc b : Nat} (hacc : acc < 9223372036854775808) (hb : b ≤ 1) :
    bits .or .u64 (acc : Int) ((b : Int) * 9223372036854775808) = ((acc + b * 2 ^ (7 * 9) : Nat) : Int) := by
  rw [show ((b : Int) * 9223372036854775808) = ((b * 2 ^ (7 * 9) : Nat) : Int) by rw [show (2 : Nat) ^ (7 * 9) = 9223372036854775808 by decide]; omega]
  have hlt : b * 2 ^ (7 * 9) < 18446744073709551616 := by rw [show (2 : Nat) ^ (7 * 9) = 9223372036854775808 by decide]; omega
  rw [u64_or_nat _ _ (by omega) hlt, Nat.or_comm, nat_join (7 * 9) _ _ (Nat.mul_mod_left _ _) hacc, Nat.add_comm]
theorem or_any (x y : Int) : ∃ a : Nat, a < 18446744073709551616 ∧ bits .or .u64 x y = (a : Int) := by
  have h0 := bits_lo_u64 .or x y
  have h1 := bits_hi_u64 .or x y
  exact ⟨(bits .or .u64 x y).toNat, by omega, by omega⟩
theorem pow_bound {k b : Nat} (hk : k < 9) (hb : b ≤ 127) : b * 2 ^ (7 * k) < 18446744073709551616 ∧ 2 ^ (7 * (k + 1)) = 128 * 2 ^ (7 * k) := by
  have h2 := Nat.mul_le_mul_right (2 ^ (7 * k)) hb
  have hp : 2 ^ (7 * k) ≤ 2 ^ 56 := Nat.pow_le_pow_right (by omega) (by omega)
  have h56 : 2 ^ 56 = 72057594037927936 := by decide
  exact ⟨by omega, by rw [show 7 * (k + 1) = 7 * k + 7 by omega, Nat.pow_add, Nat.mul_comm]⟩

set_option maxHeartbeats 4000000 in
set_option maxRecDepth 100000 in
theorem get_some (g o c : Nat) (l : List UInt8) (w : World) (hl : l.length ≤ maxLen) (hcell : ∀ j (hj : j < l.length), w.cell? ⟨g, o + j, none⟩ = some (.int .u8 (l[j]).toNat)) :
    Calls Try.prog 40 #[.slice (some ⟨g, o, none⟩) l.length c] w fun e w' => e = .returned (.tuple #[.int .u64 (Dec.getN l).1, .int .i64 (Dec.getN l).2]) ∧ w' = w := by
  unfold maxLen at hl
  by_cases hmin : (l.length : Int) ≤ 10
  all_goals
    go_enter Try.func40, Try.ntmps40
    go_wp2
    go_loop [4, 11] (fun s i => ∃ k acc : Nat, k ≤ l.length ∧ k ≤ 10 ∧ i = .int .i64 k ∧ s = .int .u64 acc ∧ acc < 18446744073709551616 ∧ (k < 10 → acc < 2 ^ (7 * k)) ∧ Hid (Dec.getN l = Dec.getFrom k acc (l.drop k))) (fun _ i => l.length - (intOf i).toNat)
    case atStart => exact ⟨0, 0, Nat.zero_le _, by omega, rfl, rfl, by omega, by simp, rfl⟩
    case round =>
      obtain ⟨k, acc, hk, hk10, rfl, rfl, ha, hacc, hdec⟩ := hrel
      by_cases hlt : k < l.length ∧ k < 10
      · obtain ⟨hlt, h10⟩ := hlt
        have hc := hcell k hlt
        have hacc1 := hacc h10
        clear hacc
        have HA := hide hacc1
        clear hacc1
        have hdrop : l.drop k = l[k]'(by omega) :: l.drop (k + 1) := List.drop_eq_getElem_cons (by omega)
        have hdec1 := hdec.out
        rw [hdrop] at hdec1
        generalize l[k]'(by omega) = b at hc hdec1
        clear hdec hdrop hcell
        have hb := b.toNat_lt
        have f1 := andNot128 b.toNat hb
        have f2 := and128 b.toNat hb
        have HD := hide hdec1
        clear hdec1
        by_cases hbig : 128 ≤ b.toNat
        · rw [if_pos hbig] at f2
          rcases (show k < 9 ∨ k = 9 by omega) with h9 | rfl
          · have f3 := or_shift (b := b.toNat % 128) HA.out (pow_bound h9 (by omega)).1 h10
            have f3' : bits .or .u64 (acc : Int) (IntKind.u64.wrap ((b.toNat : Int) % 128 * 2 ^ (7 * k))) = ((acc + b.toNat % 128 * 2 ^ (7 * k) : Nat) : Int) := f3
            go_wp2
            refine ⟨⟨k + 1, acc + b.toNat % 128 * 2 ^ (7 * k), by omega, by omega, by go_num, by first | rfl | exact val_int f3', ?_, ?_, HD.out.trans (Dec.getFrom_more h10 hbig)⟩, by simp [intOf]; omega⟩
            · have h1 := HA.out
              have h2 := (pow_bound h9 (show b.toNat % 128 ≤ 127 by omega)).1
              have hp : 2 ^ (7 * k) ≤ 2 ^ 56 := Nat.pow_le_pow_right (by omega) (by omega)
              have h56 : 2 ^ 56 = 72057594037927936 := by decide
              have h3 := Nat.mul_le_mul_right (2 ^ (7 * k)) (show b.toNat % 128 ≤ 127 by omega)
              omega
            · intro _
              rw [(pow_bound h9 (show b.toNat % 128 ≤ 127 by omega)).2]
              have h1 := HA.out
              have h3 := Nat.mul_le_mul_right (2 ^ (7 * k)) (show b.toNat % 128 ≤ 127 by omega)
              omega
          · obtain ⟨a2, ha2, he⟩ := or_any (acc : Int) (IntKind.u64.wrap ((b.toNat : Int) % 128 * 9223372036854775808))
            have HE := hide he
            clear he
            go_wp2
            refine ⟨⟨10, a2, by omega, by omega, rfl, val_int HE.out, ha2, by omega, HD.out.trans ?_⟩, by simp [intOf]; omega⟩
            rw [Dec.getFrom_more (by omega) hbig, Dec.getFrom_ten _ _ _ (by omega), Dec.getFrom_ten _ _ _ (by omega)]
        · rw [if_neg hbig] at f2
          rcases (show k = 0 ∨ (0 < k ∧ k < 9) ∨ k = 9 by omega) with rfl | ⟨hk0, h9⟩ | rfl
          · obtain rfl : acc = 0 := by have := HA.out; simpa using this
            have E := hide (HD.out.trans (Dec.getFrom_last (by omega) (by omega) (by omega)))
            clear HD HA
            have hc0 : w.cell? ⟨g, o, none⟩ = some (.int .u8 b.toNat) := hc
            have f3 : bits .or .u64 0 (b.toNat : Int) = (b.toNat : Int) := by
              have := u64_or_nat 0 b.toNat (by omega) (by omega)
              rw [Nat.zero_or] at this
              exact this
            have F3 := hide f3
            clear f3
            go_wp2
            go_ret2
            rw [E.out]
            exact ⟨ret_pair (by simp; rw [show (b.toNat : Int) % 128 = (b.toNat : Int) by omega]; exact F3.out) (by simp), rfl⟩
          · by_cases hb0 : b.toNat = 0
            · have E := hide (HD.out.trans (Dec.getFrom_bad (by omega) (by omega) (.inl ⟨hk0, hb0⟩)))
              clear HD
              have hz : ((b.toNat : Int) == 0) = true := by simp [hb0]
              have HB := hide hb0
              clear hb0
              go_wp2
              go_ret2
              rw [E.out]
              exact ⟨ret_pair rfl rfl, rfl⟩
            · have E := hide (HD.out.trans (Dec.getFrom_last (by omega) (by omega) (by omega)))
              clear HD
              have hz : ((b.toNat : Int) == 0) = false := by simp [hb0]
              have f3 := or_shift (b := b.toNat) HA.out (pow_bound h9 (by omega)).1 (by omega)
              have F3 := hide f3
              clear f3
              go_wp2
              go_ret2
              rw [E.out]
              exact ⟨ret_pair (by rw [show (b.toNat : Int) % 128 = (b.toNat : Int) by omega]; exact F3.out) (by simp), rfl⟩
          · have hacc9 : acc < 9223372036854775808 := by have := HA.out; simpa using this
            rcases (show b.toNat = 0 ∨ b.toNat = 1 ∨ 1 < b.toNat by omega) with hb0 | hb1 | hb2
            · have E := hide (HD.out.trans (Dec.getFrom_bad (by omega) (by omega) (.inl ⟨by omega, hb0⟩)))
              clear HD
              have hz : ((b.toNat : Int) == 0) = true := by simp [hb0]
              have HB := hide hb0
              clear hb0
              go_wp2
              go_ret2
              rw [E.out]
              exact ⟨ret_pair rfl rfl, rfl⟩
            · have E := hide (HD.out.trans (Dec.getFrom_last (by omega) (by omega) (by omega)))
              clear HD
              have hz : ((b.toNat : Int) == 0) = false := by simp [hb1]
              have hle : (b.toNat : Int) ≤ 1 := by omega
              have f3 := or_shift9 (b := b.toNat) hacc9 (by omega)
              have F3 := hide f3
              have HB := hide hb1
              clear f3 hb1
              go_wp2
              go_ret2
              rw [E.out]
              exact ⟨ret_pair (by rw [show (b.toNat : Int) % 128 = (b.toNat : Int) by omega]; exact F3.out) (by simp), rfl⟩
            · have E := hide (HD.out.trans (Dec.getFrom_bad (by omega) (by omega) (.inr ⟨rfl, hb2⟩)))
              clear HD
              have hz : ((b.toNat : Int) == 0) = false := by rw [beq_eq_false_iff_ne]; omega
              go_wp2
              go_ret2
              rw [E.out]
              exact ⟨ret_pair rfl rfl, rfl⟩
      · have E := hide (hdec.out.trans (show _ = ((0, 0) : Nat × Nat) by
          by_cases h : k < 10
          · rw [List.drop_eq_nil_of_le (by omega)]; exact Dec.getFrom_nil _ _
          · exact Dec.getFrom_ten _ _ _ (by omega)))
        clear hdec
        go_wp2
        go_ret2
        rw [E.out]
        exact ⟨ret_pair rfl rfl, rfl⟩

set_option maxHeartbeats 1000000 in
set_option maxRecDepth 100000 in
theorem get_nil (ao : Option Addr) (c : Nat) (w : World) :
    Calls Try.prog 40 #[.slice ao 0 c] w fun e w' => e = .returned (.tuple #[.int .u64 0, .int .i64 0]) ∧ w' = w := by
  go_enter Try.func40, Try.ntmps40
  go_wp2
  refine wp_loop_rounds 1 ?_
  rw [rounds_succ]
  go_wp2
  go_ret2
  exact ⟨rfl, rfl⟩

/-- Get: what the bytes begin with. -/
theorem get_any (v : Value) (l : List UInt8) (w : World) (h : Bs w v l) :
    Calls Try.prog 40 #[v] w fun e w' => e = .returned (.tuple #[.int .u64 (Dec.getN l).1, .int .i64 (Dec.getN l).2]) ∧ w' = w := by
  rcases h.parts with ⟨ao, c, rfl, rfl⟩ | ⟨g, o, c, rfl, _, h1, h2, h3⟩
  · exact get_nil ao c w
  · exact get_some g o c l w (by omega) h3
end Go.Proofs.Ytkohlhnkaklnpaa

/-
  Records as lists of bytes: what Put makes, what Get tells. No program in this text.
-/
namespace Go.Proofs.Ytkohlhnkaklnpaa

namespace Rc
/-- The mark and the number. -/
def head (n : Nat) : List UInt8 := 130 :: Lib.uvarint n
/-- A number's four bytes, the lowest first. -/
def four (c : Nat) : List UInt8 := (List.range 4).map fun i => UInt8.ofNat (c / 2 ^ (8 * i))
def sum4 (l : List UInt8) : List UInt8 := four (Crc.crc l)
def made (d : List UInt8) : List UInt8 := head d.length ++ (sum4 (head d.length ++ d) ++ d)
def fits (d : List UInt8) : Prop := d ≠ [] ∧ d.length ≤ 100000
/-- The number that stands behind the first byte; how many bytes it has. -/
def num (b : List UInt8) : Nat := (Dec.getN (b.drop 1)).1
def siz (b : List UInt8) : Nat := (Dec.getN (b.drop 1)).2
/-- All parts of a record stand there, whatever the sum. -/
def whole (b : List UInt8) : Prop := b[0]? = some 130 ∧ num b ≠ 0 ∧ num b ≤ 100000 ∧ 1 + siz b + 4 + num b ≤ b.length
def wholeB (b : List UInt8) : Bool := b[0]? == some 130 && (num b != 0 && (decide (num b ≤ 100000) && decide (1 + siz b + 4 + num b ≤ b.length)))
theorem wholeB_iff (b : List UInt8) : wholeB b = true ↔ whole b := by simp [wholeB, whole]
def data (b : List UInt8) : List UInt8 := (b.drop (1 + siz b + 4)).take (num b)
/-- Get: the data, and how many bytes; 0: there is none. -/
def get (b : List UInt8) : List UInt8 × Nat :=
  if wholeB b = true ∧ sum4 (b.take (1 + siz b) ++ data b) = (b.drop (1 + siz b)).take 4 then (data b, 1 + siz b + 4 + num b) else ([], 0)
theorem get_pos {b : List UInt8} (h : whole b) (hs : sum4 (b.take (1 + siz b) ++ data b) = (b.drop (1 + siz b)).take 4) : get b = (data b, 1 + siz b + 4 + num b) := by
  unfold get
  rw [if_pos ⟨(wholeB_iff b).2 h, hs⟩]
theorem get_neg {b : List UInt8} (h : ¬ (whole b ∧ sum4 (b.take (1 + siz b) ++ data b) = (b.drop (1 + siz b)).take 4)) : get b = ([], 0) := by
  unfold get
  rw [if_neg (fun e => h ⟨(wholeB_iff b).1 e.1, e.2⟩)]
theorem num_lt (b : List UInt8) : num b < 18446744073709551616 := Dec.getN_lt _
theorem siz_ten (b : List UInt8) : siz b ≤ 10 := Dec.getN_ten _
theorem siz_pos {b : List UInt8} (h : num b ≠ 0) : siz b ≠ 0 := fun e => h (Dec.getN_none e)
theorem data_length {b : List UInt8} (h : whole b) : (data b).length = num b := by
  have := h.2.2.2
  simp [data]
  omega
theorem four_length (c : Nat) : (four c).length = 4 := by simp [four]
theorem sum4_length (l : List UInt8) : (sum4 l).length = 4 := four_length _
theorem head_length (n : Nat) : (head n).length = 1 + (Lib.uvarint n).length := by simp [head]; omega
theorem made_length (d : List UInt8) : (made d).length = 1 + (Lib.uvarint d.length).length + 4 + d.length := by
  simp only [made, List.length_append, head_length, sum4_length]
  omega
end Rc
end Go.Proofs.Ytkohlhnkaklnpaa

/-
  record.cut: the parts of the record that bytes may begin with.
-/
namespace Go.Proofs.Ytkohlhnkaklnpaa
open Go.RowKit

theorem results_parts {fn : Func} (h : fn.results = #[.cell 2 58, .tmp 3]) (tmps : Array Value) (w : World) (g : Nat) (cs : Array Value) (hp : tmps.getD 2 undef = .pointer (some ⟨g, 0, none⟩)) (hg : w.heap[g]? = some (.cells cs 58 (0, 0))) (hs : cs.size = 3) :
    (results fn tmps).run Try.prog w = .ok (.tuple #[.agg cs, tmps.getD 3 undef]) w := by
  have hi : (Try.prog.info? 58).map (·.size) = some cs.size := by rw [hs]; kernel_rfl
  rw [results_cell_tmp h, hp]
  simp [asAddr, run_loadVar_row w g 58 58 cs (0, 0) _ hg Try.underlying58 rfl hi, Result.andThen]
/-- The bytes behind the first ones, as the model cuts them. -/
theorem Bs.drop {w : World} {g o c : Nat} {l : List UInt8} (k : Nat) (hk : k ≤ l.length) (h1 : l.length ≤ c) (h2 : c ≤ maxLen) (h3 : ∀ j (hj : j < l.length), w.cell? ⟨g, o + j, none⟩ = some (.int .u8 (l[j]).toNat)) :
    Bs w (if k = c then .slice (some ⟨g, o, none⟩) 0 0 else .slice (some ⟨g, o + k, none⟩) (l.length - k) (c - k)) (l.drop k) := by
  have e : (l.drop k).length = l.length - k := by simp
  by_cases hkc : k = c
  · rw [if_pos hkc, List.drop_eq_nil_of_le (by omega)]
    exact ⟨_, 0, rfl, Nat.le_refl _, Nat.zero_le _, fun j hj => absurd hj (by simp)⟩
  · rw [if_neg hkc]
    have := Bs.row (w := w) (g := g) (o := o + k) (c := c - k) (l := l.drop k) (by omega) (by omega) (fun j hj => by
      have := h3 (k + j) (by omega)
      rw [List.getElem_drop, Nat.add_assoc]
      exact this)
    rwa [e] at this

/-- The three parts, as they are cut out. -/
def partsOf (g o : Nat) (b : List UInt8) : Array Value :=
  #[.slice (some ⟨g, o, none⟩) (1 + Rc.siz b) (1 + Rc.siz b), .slice (some ⟨g, o + (1 + Rc.siz b), none⟩) 4 4, .slice (some ⟨g, o + (1 + Rc.siz b + 4), none⟩) (Rc.num b) (Rc.num b)]
/-- What cut tells. -/
def CutPost (v : Value) (b : List UInt8) (e : Ending) : Prop :=
  (Rc.whole b ∧ ∃ g o c, v = .slice (some ⟨g, o, none⟩) b.length c ∧ e = .returned (.tuple #[.agg (partsOf g o b), .bool true])) ∨
  (¬ Rc.whole b ∧ e = .returned (.tuple #[.agg #[.slice none 0 0, .slice none 0 0, .slice none 0 0], .bool false]))

set_option maxHeartbeats 4000000 in
set_option maxRecDepth 100000 in
theorem cut_any (v : Value) (b : List UInt8) (w : World) (h : Bs w v b) :
    Calls Try.prog 30 #[v] w fun e w' => CutPost v b e ∧ Below w.heap.size w w' := by
  rcases h.parts with ⟨ao, c, rfl, rfl⟩ | ⟨g, o, c, rfl, hp, h1, h2, h3⟩
  · go_enter Try.func30, Try.ntmps30
    go_wp2
    exact bodyPost_ret (results_parts rfl _ _ w.heap.size _ rfl (heap_alloc_new w _) rfl) rfl ⟨.inr ⟨by simp [Rc.whole], rfl⟩, (Below.refl _ _).alloc (Nat.le_refl _) _⟩
  · have hglt := World.block_lt_of_cell? w _ (h3 0 hp)
    have hc0 : ∀ ob : Obj, (w.alloc ob).cell? ⟨g, o, none⟩ = some (.int .u8 (b[0]).toNat) := fun ob => (((Below.refl w.heap.size w).alloc (Nat.le_refl _) ob).cell (p := ⟨g, o, none⟩) hglt).trans (h3 0 hp)
    have hm := (b[0]).toNat_lt
    have z : ((b.length : Int) == 0) = false := by rw [beq_eq_false_iff_ne]; omega
    have hp1 : (0 : Int) < (b.length : Int) := by omega
    have hbd := fun ob : Obj => (Bs.drop (w := w) 1 (by omega) h1 h2 h3).below ((Below.refl w.heap.size w).alloc (Nat.le_refl _) ob) (Nat.le_refl _)
    have hget := fun ob : Obj => get_any _ _ _ (hbd ob)
    have HG := hide hget
    clear h3 hbd h hget
    unfold maxLen at h2
    by_cases hm130 : b[0] = 130
    · rw [hm130] at hc0
      have hmz : (((UInt8.toNat 130 : Nat) : Int) == 130) = true := by decide
      have H130 := hide hm130
      clear hm130
      have hg := HG.out (Obj.cells #[Value.slice none 0 0, Value.slice none 0 0, Value.slice none 0 0] 58)
      by_cases hc1 : c = 1
      · subst hc1
        obtain hl1 : b.length = 1 := by omega
        rw [List.drop_eq_nil_of_le (by omega), show Dec.getN [] = (0, 0) from rfl, if_pos rfl] at hg
        have HL := hide hl1
        have hl2 : b.length - 1 = 0 := by omega
        have HG1 := hide hg
        clear hg hl1 HG
        go_enter Try.func30, Try.ntmps30
        go_wp2_with fail
        refine HG1.out.mono ?_
        rintro e w' ⟨rfl, rfl⟩
        go_wp2_with fail
        exact bodyPost_ret (results_parts rfl _ _ w.heap.size _ rfl (heap_alloc_new w _) rfl) rfl ⟨.inr ⟨fun hw => by have := hw.2.2.2; have := HL.out; omega, rfl⟩, (Below.refl _ _).alloc (Nat.le_refl _) _⟩
      · rw [if_neg (fun e => hc1 e.symm)] at hg
        have hg' : Calls Try.prog 40 #[.slice (some ⟨g, o + 1, none⟩) (b.length - 1) (c - 1)] (w.alloc (.cells #[.slice none 0 0, .slice none 0 0, .slice none 0 0] 58)) fun e w' => e = .returned (.tuple #[.int .u64 (Rc.num b), .int .i64 (Rc.siz b)]) ∧ w' = w.alloc (.cells #[.slice none 0 0, .slice none 0 0, .slice none 0 0] 58) := hg
        have HG1 := hide hg'
        clear hg hg' HG
        have hs10 := Rc.siz_ten b
        have hn64 := Rc.num_lt b
        go_enter Try.func30, Try.ntmps30
        go_wp2_with fail
        refine HG1.out.mono ?_
        rintro e w' ⟨rfl, rfl⟩
        by_cases hn0 : Rc.num b = 0
        · have z1 : ((Rc.num b : Int) == 0) = true := by simp [hn0]
          have HN0 := hide hn0
          clear hn0
          go_wp2_with fail
          exact bodyPost_ret (results_parts rfl _ _ w.heap.size _ rfl (heap_alloc_new w _) rfl) rfl ⟨.inr ⟨fun hw => hw.2.1 HN0.out, rfl⟩, (Below.refl _ _).alloc (Nat.le_refl _) _⟩
        · have z1 : ((Rc.num b : Int) == 0) = false := by rw [beq_eq_false_iff_ne]; omega
          by_cases hbig : Rc.num b ≤ 100000
          · have g1 : ¬ ((Rc.num b : Int) > 100000) := by omega
            have hw1 : IntKind.i64.wrap (Rc.num b : Int) = (Rc.num b : Int) := by rw [IntKind.wrap_i64]; omega
            by_cases hall : 1 + Rc.siz b + 4 + Rc.num b ≤ b.length
            · have g2 : ¬ ((1 : Int) + (Rc.siz b : Int) + 4 + (Rc.num b : Int) > (b.length : Int)) := by omega
              have q1 : (1 : Int) + (Rc.siz b : Int) ≤ (c : Int) := by omega
              have q2 : (1 : Int) + (Rc.siz b : Int) + 4 ≤ (c : Int) := by omega
              have q3 : (1 : Int) + (Rc.siz b : Int) + 4 + (Rc.num b : Int) ≤ (c : Int) := by omega
              go_wp2_with fail
              go_region
              go_wp2_with fail
              refine bodyPost_ret (results_parts rfl _ _ w.heap.size (partsOf g o b) rfl (heap_alloc_new w _) rfl) rfl ⟨.inl ⟨⟨?_, hn0, hbig, hall⟩, g, o, c, rfl, rfl⟩, ((Below.refl _ _).alloc (Nat.le_refl _) _).drew⟩
              rw [List.getElem?_eq_getElem hp, H130.out]
            · have g2 : ((1 : Int) + (Rc.siz b : Int) + 4 + (Rc.num b : Int) > (b.length : Int)) := by omega
              go_wp2_with fail
              exact bodyPost_ret (results_parts rfl _ _ w.heap.size _ rfl (heap_alloc_new w _) rfl) rfl ⟨.inr ⟨fun hw => hall hw.2.2.2, rfl⟩, (Below.refl _ _).alloc (Nat.le_refl _) _⟩
          · have g1 : ((Rc.num b : Int) > 100000) := by omega
            go_wp2_with fail
            exact bodyPost_ret (results_parts rfl _ _ w.heap.size _ rfl (heap_alloc_new w _) rfl) rfl ⟨.inr ⟨fun hw => hbig hw.2.2.1, rfl⟩, (Below.refl _ _).alloc (Nat.le_refl _) _⟩
    · have hmz : (((b[0]).toNat : Int) != 130) = true := by
        rw [bne_iff_ne]
        intro e
        exact hm130 (by apply UInt8.toNat_inj.1; simp; omega)
      go_enter Try.func30, Try.ntmps30
      go_wp2_with fail
      refine bodyPost_ret (results_parts rfl _ _ w.heap.size _ rfl (heap_alloc_new w _) rfl) rfl ⟨.inr ⟨fun hw => hm130 ?_, rfl⟩, (Below.refl _ _).alloc (Nat.le_refl _) _⟩
      have := hw.1
      rw [List.getElem?_eq_getElem hp] at this
      exact Option.some.inj this
end Go.Proofs.Ytkohlhnkaklnpaa
