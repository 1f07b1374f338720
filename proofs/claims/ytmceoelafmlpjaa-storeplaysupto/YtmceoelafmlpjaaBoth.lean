/-
  Each call, of the program's store and of the document's: the same answer. No walk in this text.
-/
import Derived.Test.YtmceoelafmlpjaaPair
namespace Go.Proofs.Ytmceoelafmlpjaa
open Go.RowKit
section
variable {w0 : World} {S0 N : Nat → Prop} {B gp ga gb nk : Nat} {w : World} {L O : List UInt8} {off : Bool} {f : Int}
/-- Both stores hold the same. -/
def Ps (w0 : World) (S0 : Nat → Prop) (B gp ga gb nk : Nat) (N : Nat → Prop) (w : World) (L O : List UInt8) (off : Bool) (f : Int) : Prop := Pw w0 S0 B gp ga gb nk N w (L ++ O) L.length (!off) f L O off f
/-- One call of each: the same answer, and both hold the same again. -/
def Both (w0 : World) (S0 : Nat → Prop) (B gp ga gb nk : Nat) (N : Nat → Prop) (w : World) (L O : List UInt8) (off : Bool) (f : Int) (fa : Nat) (aa : Array Value) (fb : Nat) (ab : World → Array Value → Prop) : Prop :=
  ∃ (E : Int) (L' O' : List UInt8) (off' : Bool) (f' : Int), Calls Try.prog fa aa w (fun e w' => e = .returned (.int .i64 E) ∧ Pw w0 S0 B gp ga gb nk N w' (L' ++ O') L'.length (!off') f' L O off f ∧ KeptN N w w') ∧
    ∀ w1 args, ab w1 args → Pw w0 S0 B gp ga gb nk N w1 (L' ++ O') L'.length (!off') f' L O off f → Calls Try.prog fb args w1 (fun e w' => e = .returned (.int .i64 E) ∧ Ps w0 S0 B gp ga gb nk N w' L' O' off' f' ∧ KeptN N w1 w')
theorem Ps.len (h : Ps w0 S0 B gp ga gb nk N w L O off f) : L.length + O.length ≤ 16777216 ∧ -1 ≤ f ∧ f ≤ 9223372036854775807 := by
  obtain ⟨va, h1, -⟩ := Pw.stepA h
  have := h1.2.2.2.2.2.1
  rw [List.length_append] at this
  exact ⟨this, h1.2.2.2.2.2.2.1, h1.2.2.2.2.2.2.2.1⟩
theorem KeptN.refl (w : World) : KeptN N w w := fun _ _ => rfl
theorem KeptN.of {w' : World} {l : List UInt8} {n : Nat} {on : Bool} {fa : Int} (h : Pw w0 S0 B gp ga gb nk N w l n on fa L O off f) (hb : Below w.heap.size w w') : KeptN N w w' := by
  obtain ⟨SA, SD, SK, -, -, -, -, -, -, hN, -⟩ := h
  exact fun k e => hb.block k (hN k e).1
theorem both_sync (h : Ps w0 S0 B gp ga gb nk N w L O off f) : Both w0 S0 B gp ga gb nk N w L O off f 13 #[.pointer (some ⟨ga, 0, none⟩)] 23 (fun _ a => a = #[.pointer (some ⟨gb, 0, none⟩)]) := by
  have hl := h.len.1
  obtain ⟨va, hSt, hgo⟩ := Pw.stepA h
  cases off with
  | true =>
    refine ⟨30, L, O, true, f, (sync_off ga B va _ _ _ w hSt).mono ?_, ?_⟩
    · rintro e w' ⟨rfl, rfl⟩
      exact ⟨rfl, h, KeptN.refl _⟩
    · rintro w1 _ rfl h1
      obtain ⟨u1, u2, hD, hgd⟩ := Pw.stepD h1
      refine (dsync_any w1 hD (by omega)).mono ?_
      rintro e w' ⟨rfl, v1, v2, hs, hd⟩
      exact ⟨rfl, hgd _ _ _ _ _ _ _ hs hd⟩
  | false =>
    refine ⟨0, L ++ O, [], false, f, (sync_any ga B va _ _ _ w hSt).mono ?_, ?_⟩
    · rintro e w' ⟨rfl, hs, ho⟩
      rw [List.append_nil]
      exact ⟨rfl, hgo _ _ _ _ _ _ hs ho⟩
    · rintro w1 _ rfl h1
      obtain ⟨u1, u2, hD, hgd⟩ := Pw.stepD h1
      refine (dsync_any w1 hD (by omega)).mono ?_
      rintro e w' ⟨rfl, v1, v2, hs, hd⟩
      exact ⟨rfl, hgd _ _ _ _ _ _ _ hs hd⟩
theorem both_append {va : Value} {b : List UInt8} (h : Ps w0 S0 B gp ga gb nk N w L O off f) (hb : Bs w va b) (hnb : NilOr va) (hbl : b.length ≤ 1000000000) : Both w0 S0 B gp ga gb nk N w L O off f 12 #[.pointer (some ⟨ga, 0, none⟩), va] 22 (fun w1 a => ∃ vb, a = #[.pointer (some ⟨gb, 0, none⟩), vb] ∧ Bs w1 vb b ∧ NilOr vb) := by
  obtain ⟨hl, hf0, hf1⟩ := h.len
  have hll : (L ++ O).length = L.length + O.length := List.length_append
  obtain ⟨v, hSt, hgo⟩ := Pw.stepA h
  cases off with
  | true =>
    refine ⟨30, L, O, true, f, (append_off ga B v va _ _ _ w hSt).mono ?_, ?_⟩
    · rintro e w' ⟨rfl, rfl⟩
      exact ⟨rfl, h, KeptN.refl _⟩
    · rintro w1 _ ⟨vb, rfl, hb1, hn1⟩ h1
      obtain ⟨u1, u2, hD, hgd⟩ := Pw.stepD h1
      refine (dappend_off vb w1 hD).mono ?_
      rintro e w' ⟨rfl, rfl⟩
      exact ⟨rfl, h1, KeptN.refl _⟩
  | false =>
    by_cases hm : L.length + O.length + b.length ≤ 16777216
    · by_cases hf : f = -1
      · subst hf
        refine ⟨0, L, O ++ b, false, -1, (append_free ga B v va _ b _ w hSt hb hnb (by omega)).mono ?_, ?_⟩
        · rintro e w' ⟨v', rfl, hs, ho⟩
          rw [← List.append_assoc]
          exact ⟨rfl, hgo _ _ _ _ _ _ hs ho⟩
        · rintro w1 _ ⟨vb, rfl, hb1, hn1⟩ h1
          obtain ⟨u1, u2, hD, hgd⟩ := Pw.stepD h1
          refine (dappend_free vb b w1 hD hb1 hn1 hm).mono ?_
          rintro e w' ⟨rfl, v1, v2, hs, hd⟩
          exact ⟨rfl, hgd _ _ _ _ _ _ _ hs hd⟩
      · obtain ⟨q, rfl⟩ : ∃ q : Nat, f = (q : Int) := ⟨f.toNat, by omega⟩
        by_cases hq : b.length ≤ q
        · refine ⟨0, L, O ++ b, false, ((q - b.length : Nat) : Int), (append_fuse ga B v va _ b _ q w hSt hb hnb (by omega) hq).mono ?_, ?_⟩
          · rintro e w' ⟨v', rfl, hs, ho⟩
            rw [← List.append_assoc]
            exact ⟨rfl, hgo _ _ _ _ _ _ hs ho⟩
          · rintro w1 _ ⟨vb, rfl, hb1, hn1⟩ h1
            obtain ⟨u1, u2, hD, hgd⟩ := Pw.stepD h1
            refine (dappend_fuse vb b q w1 hD hb1 hn1 hm hq).mono ?_
            rintro e w' ⟨rfl, v1, v2, hs, hd⟩
            exact ⟨rfl, hgd _ _ _ _ _ _ _ hs hd⟩
        · have hbt : (b.take q).length = q := by rw [List.length_take]; omega
          refine ⟨30, L ++ (O ++ b.take q), [], true, -1, (append_burst ga B v va _ b _ q w hSt hb hnb (by omega) (by omega)).mono ?_, ?_⟩
          · rintro e w' ⟨v', rfl, hs, ho⟩
            rw [List.append_nil, ← List.append_assoc]
            refine ⟨rfl, ?_⟩
            have e1 : (L ++ O ++ b.take q).length = (L ++ O).length + q := by rw [List.length_append, hbt]
            rw [e1]
            exact hgo _ _ _ _ _ _ hs ho
          · rintro w1 _ ⟨vb, rfl, hb1, hn1⟩ h1
            obtain ⟨u1, u2, hD, hgd⟩ := Pw.stepD h1
            refine (dappend_burst vb b q w1 hD hb1 hn1 hm (by omega)).mono ?_
            rintro e w' ⟨rfl, v1, v2, hs, hd⟩
            exact ⟨rfl, hgd _ _ _ _ _ _ _ hs hd⟩
    · refine ⟨40, L, O, false, f, (append_full ga B v va _ b _ _ w hSt hb (by omega) (by omega)).mono ?_, ?_⟩
      · rintro e w' ⟨rfl, rfl⟩
        exact ⟨rfl, h, KeptN.refl _⟩
      · rintro w1 _ ⟨vb, rfl, hb1, hn1⟩ h1
        obtain ⟨u1, u2, hD, hgd⟩ := Pw.stepD h1
        refine (dappend_full vb b w1 hD hb1 hl hbl (by omega)).mono ?_
        rintro e w' ⟨rfl, hbw⟩
        exact ⟨rfl, Pw.later h1 hbw, KeptN.of h1 hbw⟩
theorem both_crash {va : Value} {j : List UInt8} (k : Int) (h : Ps w0 S0 B gp ga gb nk N w L O off f) (hb : Bs w va j) (hnb : NilOr va) (hbl : j.length ≤ 100000000) : Both w0 S0 B gp ga gb nk N w L O off f 14 #[.pointer (some ⟨ga, 0, none⟩), .int .i64 k, va] 29 (fun w1 a => ∃ vb, a = #[.pointer (some ⟨gb, 0, none⟩), .int .i64 k, vb] ∧ Bs w1 vb j ∧ NilOr vb) := by
  obtain ⟨hl, hf0, hf1⟩ := h.len
  have hll : (L ++ O).length - L.length = O.length := by rw [List.length_append]; omega
  obtain ⟨v, hSt, hgo⟩ := Pw.stepA h
  cases off with
  | true =>
    refine ⟨30, L, O, true, f, (crash_off ga B v va _ _ _ k w hSt).mono ?_, ?_⟩
    · rintro e w' ⟨rfl, rfl⟩
      exact ⟨rfl, h, KeptN.refl _⟩
    · rintro w1 _ ⟨vb, rfl, hb1, hn1⟩ h1
      obtain ⟨u1, u2, hD, hgd⟩ := Pw.stepD h1
      refine (dcrash_off vb k w1 hD).mono ?_
      rintro e w' ⟨rfl, rfl⟩
      exact ⟨rfl, h1, KeptN.refl _⟩
  | false =>
    by_cases hk : k < 0
    · refine ⟨1, L, O, false, f, (crash_neg ga B v va _ _ _ k w hSt hk).mono ?_, ?_⟩
      · rintro e w' ⟨rfl, rfl⟩
        exact ⟨rfl, h, KeptN.refl _⟩
      · rintro w1 _ ⟨vb, rfl, hb1, hn1⟩ h1
        obtain ⟨u1, u2, hD, hgd⟩ := Pw.stepD h1
        refine (dcrash_neg vb k w1 hD hk).mono ?_
        rintro e w' ⟨rfl, rfl⟩
        exact ⟨rfl, h1, KeptN.refl _⟩
    · obtain ⟨q, rfl⟩ : ∃ q : Nat, k = (q : Int) := ⟨k.toNat, by omega⟩
      by_cases hm : L.length + min q O.length + j.length ≤ 16777216
      · refine ⟨0, L ++ O.take (min q O.length) ++ j, [], true, -1, (crash_any ga B v va _ j _ q _ w hSt hb hnb (by rw [hll]; exact hm)).mono ?_, ?_⟩
        · rintro e w' ⟨v', rfl, hs, ho⟩
          refine ⟨rfl, ?_⟩
          have := hgo _ _ _ _ _ _ hs ho
          rw [hll, List.take_append, List.take_of_length_le (Nat.le_add_right _ _), Nat.add_sub_cancel_left] at this
          have e1 : (L ++ O.take (min q O.length) ++ j).length = L.length + min q O.length + j.length := by
            rw [List.length_append, List.length_append, List.length_take]
            omega
          rw [List.append_nil, e1]
          exact this
        · rintro w1 _ ⟨vb, rfl, hb1, hn1⟩ h1
          obtain ⟨u1, u2, hD, hgd⟩ := Pw.stepD h1
          refine (dcrash_any vb j q w1 hD hb1 hn1 hl hbl hm).mono ?_
          rintro e w' ⟨rfl, v1, v2, hs, hd⟩
          exact ⟨rfl, hgd _ _ _ _ _ _ _ hs hd⟩
      · refine ⟨40, L, O, false, f, (crash_full ga B v va _ j _ q _ w hSt hb (by omega) (by rw [hll]; omega)).mono ?_, ?_⟩
        · rintro e w' ⟨rfl, hbw⟩
          exact ⟨rfl, Pw.later h hbw, KeptN.of h hbw⟩
        · rintro w1 _ ⟨vb, rfl, hb1, hn1⟩ h1
          obtain ⟨u1, u2, hD, hgd⟩ := Pw.stepD h1
          refine (dcrash_full vb j q w1 hD hb1 hl (by omega) (by omega)).mono ?_
          rintro e w' ⟨rfl, hbw⟩
          exact ⟨rfl, Pw.later h1 hbw, KeptN.of h1 hbw⟩
theorem both_cut (k : Int) (h : Ps w0 S0 B gp ga gb nk N w L O off f) : Both w0 S0 B gp ga gb nk N w L O off f 24 #[.pointer (some ⟨ga, 0, none⟩), .int .i64 k] 25 (fun _ a => a = #[.pointer (some ⟨gb, 0, none⟩), .int .i64 k]) := by
  obtain ⟨hl, hf0, hf1⟩ := h.len
  have hll : (L ++ O).length = L.length + O.length := List.length_append
  obtain ⟨v, hSt, hgo⟩ := Pw.stepA h
  cases off with
  | true =>
    refine ⟨30, L, O, true, f, (cut_off k w hSt).mono ?_, ?_⟩
    · rintro e w' ⟨rfl, rfl⟩
      exact ⟨rfl, h, KeptN.refl _⟩
    · rintro w1 _ rfl h1
      obtain ⟨u1, u2, hD, hgd⟩ := Pw.stepD h1
      refine (dcut_off k w1 hD).mono ?_
      rintro e w' ⟨rfl, rfl⟩
      exact ⟨rfl, h1, KeptN.refl _⟩
  | false =>
    by_cases hk : k < 0 ∨ ((L.length + O.length : Nat) : Int) < k
    · refine ⟨1, L, O, false, f, (cut_arg k w hSt (by rw [hll]; exact hk)).mono ?_, ?_⟩
      · rintro e w' ⟨rfl, rfl⟩
        exact ⟨rfl, h, KeptN.refl _⟩
      · rintro w1 _ rfl h1
        obtain ⟨u1, u2, hD, hgd⟩ := Pw.stepD h1
        refine (dcut_arg k w1 hD hl hk).mono ?_
        rintro e w' ⟨rfl, hbw⟩
        exact ⟨rfl, Pw.later h1 hbw, KeptN.of h1 hbw⟩
    · obtain ⟨q, rfl⟩ : ∃ q : Nat, k = (q : Int) := ⟨k.toNat, by omega⟩
      by_cases hq : q ≤ L.length
      · refine ⟨0, L.take q, [], false, f, (cut_any q w hSt (by omega)).mono ?_, ?_⟩
        · rintro e w' ⟨rfl, v', hs, ho⟩
          have := hgo _ _ _ _ _ _ hs ho
          rw [List.take_append_of_le_length hq, Nat.min_eq_right hq] at this
          have e1 : (L.take q).length = q := by rw [List.length_take]; omega
          rw [List.append_nil, e1]
          exact ⟨rfl, this⟩
        · rintro w1 _ rfl h1
          obtain ⟨u1, u2, hD, hgd⟩ := Pw.stepD h1
          refine (dcut_low q w1 hD hl hq).mono ?_
          rintro e w' ⟨rfl, v1, v2, hs, hd⟩
          exact ⟨rfl, hgd _ _ _ _ _ _ _ hs hd⟩
      · refine ⟨0, L, O.take (q - L.length), false, f, (cut_any q w hSt (by omega)).mono ?_, ?_⟩
        · rintro e w' ⟨rfl, v', hs, ho⟩
          have := hgo _ _ _ _ _ _ hs ho
          rw [List.take_append, List.take_of_length_le (by omega : L.length ≤ q), Nat.min_eq_left (by omega)] at this
          exact ⟨rfl, this⟩
        · rintro w1 _ rfl h1
          obtain ⟨u1, u2, hD, hgd⟩ := Pw.stepD h1
          refine (dcut_high q w1 hD hl (by omega) (by omega)).mono ?_
          rintro e w' ⟨rfl, v1, v2, hs, hd⟩
          exact ⟨rfl, hgd _ _ _ _ _ _ _ hs hd⟩
theorem both_fuse (k : Int) (h : Ps w0 S0 B gp ga gb nk N w L O off f) (hk1 : k ≤ 9223372036854775807) : Both w0 S0 B gp ga gb nk N w L O off f 18 #[.pointer (some ⟨ga, 0, none⟩), .int .i64 k] 28 (fun _ a => a = #[.pointer (some ⟨gb, 0, none⟩), .int .i64 k]) := by
  obtain ⟨v, hSt, hgo⟩ := Pw.stepA h
  refine ⟨if off then 30 else if k < 0 then 1 else 0, L, O, off, if off then f else if k < 0 then f else k, ?_, ?_⟩
  · cases off with
    | true =>
      refine (fuse_off ga B v _ _ _ k w hSt).mono ?_
      rintro e w' ⟨rfl, rfl⟩
      exact ⟨rfl, h, KeptN.refl _⟩
    | false =>
      by_cases hk : k < 0
      · refine (fuse_neg ga B v _ _ _ k w hSt hk).mono ?_
        rintro e w' ⟨rfl, rfl⟩
        simp only [Bool.false_eq_true, if_false, if_pos hk]
        exact ⟨trivial, h, KeptN.refl _⟩
      · refine (fuse_any ga B v _ _ _ k w hSt (by omega) hk1).mono ?_
        rintro e w' ⟨rfl, hs, ho⟩
        simp only [Bool.false_eq_true, if_false, if_neg hk]
        exact ⟨trivial, hgo _ _ _ _ _ _ hs ho⟩
  · rintro w1 _ rfl h1
    obtain ⟨u1, u2, hD, hgd⟩ := Pw.stepD h1
    refine (dfuse_any k w1 hD hk1).mono ?_
    rintro e w' ⟨rfl, hs, hd⟩
    exact ⟨rfl, hgd _ _ _ _ _ _ _ hs hd⟩
theorem both_restart (h : Ps w0 S0 B gp ga gb nk N w L O off f) : Calls Try.prog 16 #[.pointer (some ⟨ga, 0, none⟩)] w (fun e w' => e = .returned (.tuple #[]) ∧ Pw w0 S0 B gp ga gb nk N w' (L ++ O) L.length true (-1) L O off f ∧ KeptN N w w') ∧
    ∀ w1, Pw w0 S0 B gp ga gb nk N w1 (L ++ O) L.length true (-1) L O off f → Calls Try.prog 30 #[.pointer (some ⟨gb, 0, none⟩)] w1 (fun e w' => e = .returned (.tuple #[]) ∧ Ps w0 S0 B gp ga gb nk N w' L O false (-1) ∧ KeptN N w1 w') := by
  obtain ⟨v, hSt, hgo⟩ := Pw.stepA h
  refine ⟨(restart_any ga B v _ _ _ _ w hSt).mono ?_, fun w1 h1 => ?_⟩
  · rintro e w' ⟨rfl, hs, ho⟩
    exact ⟨rfl, hgo _ _ _ _ _ _ hs ho⟩
  · obtain ⟨u1, u2, hD, hgd⟩ := Pw.stepD h1
    refine (drestart_any w1 hD).mono ?_
    rintro e w' ⟨rfl, hs, hd⟩
    exact ⟨rfl, hgd _ _ _ _ _ _ _ hs hd⟩
theorem both_bytes (h : Ps w0 S0 B gp ga gb nk N w L O off f) : Calls Try.prog 15 #[.pointer (some ⟨ga, 0, none⟩)] w (fun e w' => ∃ v, e = .returned v ∧ w'.ownsRow w.heap.size 5 1 v (if off then [] else L ++ O).length (Lib.byteCells (if off then [] else L ++ O)) ∧ Below w.heap.size w w') ∧
    Calls Try.prog 26 #[.pointer (some ⟨gb, 0, none⟩)] w (fun e w' => ∃ v, e = .returned v ∧ Bs w' v (if off then [] else L ++ O) ∧ Below w.heap.size w w') := by
  have hl := h.len.1
  obtain ⟨v, hSt, -⟩ := Pw.stepA h
  obtain ⟨u1, u2, hD, -⟩ := Pw.stepD h
  constructor
  · cases off with
    | true =>
      refine (bytes_off ga B v _ _ _ w hSt).mono ?_
      rintro e w' ⟨rfl, rfl⟩
      exact ⟨_, rfl, World.ownsRow_nil _ _ _ _, Below.refl _ _⟩
    | false =>
      refine (bytes_on ga B v _ _ _ w hSt).mono ?_
      rintro e w' ⟨rfl, hr, hb⟩
      have hll : (L ++ O).length = L.length + O.length := List.length_append
      exact ⟨_, rfl, row_own hr (Nat.le_refl _) (by unfold maxLen; omega), hb⟩
  · refine (dbytes_any w hD (by omega)).mono ?_
    rintro e w' ⟨v', rfl, hb, hbl⟩
    exact ⟨v', rfl, hb.1, hbl⟩
theorem both_state (h : Ps w0 S0 B gp ga gb nk N w L O off f) : Calls Try.prog 17 #[.pointer (some ⟨ga, 0, none⟩)] w (fun e w' => e = .returned (.tuple #[.int .i64 ((L.length + O.length : Nat) : Int), .int .i64 L.length, .bool (!off)]) ∧ Below w.heap.size w w') ∧
    Calls Try.prog 31 #[.pointer (some ⟨gb, 0, none⟩)] w (fun e w' => e = .returned (.tuple #[.int .i64 ((L.length + O.length : Nat) : Int), .int .i64 L.length, .bool (!off)]) ∧ Below w.heap.size w w') := by
  have hl := h.len.1
  obtain ⟨v, hSt, -⟩ := Pw.stepA h
  obtain ⟨u1, u2, hD, -⟩ := Pw.stepD h
  have hc := state_any ga B v _ _ _ _ w hSt
  rw [List.length_append] at hc
  exact ⟨hc, dstate_any w hD (by omega)⟩
end
end Go.Proofs.Ytmceoelafmlpjaa
