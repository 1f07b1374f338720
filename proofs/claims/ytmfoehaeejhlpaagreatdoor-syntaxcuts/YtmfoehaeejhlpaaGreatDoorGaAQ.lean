import Derived.Test.YtmfoehaeejhlpaaGreatDoorGaAP
import Derived.Deep.RegionWith
import Derived.Test.YtmfoehaeejhlpaaGreatDoorGaAN
import Derived.Test.YtmfoehaeejhlpaaGreatDoorGaAF
import Derived.Test.YtmfoehaeejhlpaaGreatDoorShelf
import Derived.Lib.ParseIntB
import Derived.Test.YtmfoehaeejhlpaaGreatDoorGaAK
/-
  Lex: all tokens.
-/
namespace Go.Proofs.YtmfoehaeejhlpaaGreatDoor.Le
open Go.RowKit
set_option maxRecDepth 1000000

theorem loop_ghost {P : Program} {a : Act} {w : World} {Q : Exit → Act → World → Prop} {c : Code} (I : Nat → Act → World → Prop) (m0 : Nat) (h₀ : I m0 a w)
    (round : ∀ m a w, I m a w → c.wp P (Exit.then (fun a' w' => ∃ m', m' < m ∧ I m' a' w') Q) a w) : (Code.loop c).wp P Q a w := by
  intro b k cs
  have key : ∀ n a w, I n a w →
      ∃ e a' w', Q e a' w' ∧ Arrives P (lone (b.at a (.code c :: .inLoop c :: k)) cs w) b k cs e a' w' := by
    intro n
    induction n using Nat.strongRecOn with
    | _ n ih =>
      intro a w hI
      obtain ⟨e, a₁, w₁, hq, harr⟩ := round n a w hI b (.inLoop c :: k) cs
      cases e with
      | normal =>
        obtain ⟨m', hlt, hI₁⟩ := hq
        obtain ⟨e₂, a₂, w₂, hq₂, harr₂⟩ := ih m' hlt a₁ w₁ hI₁
        exact ⟨e₂, a₂, w₂, hq₂, .of_steps (Steps.trans harr (.one step_inLoop)) harr₂⟩
      | exit id => exact ⟨.exit id, a₁, w₁, hq, fun k' hk => harr k' (by simp [exitTo, hk])⟩
      | goto l => exact ⟨.goto l, a₁, w₁, hq, fun k' hk => harr k' (by simp [gotoIn, hk])⟩
      | ret => exact ⟨_, a₁, w₁, hq, harr⟩
      | panic ch => exact ⟨_, a₁, w₁, hq, harr⟩
      | outgrown => exact ⟨_, a₁, w₁, hq, harr⟩
  obtain ⟨e, a₁, w₁, hq, harr⟩ := key m0 a w h₀
  exact ⟨e, a₁, w₁, hq, .of_steps (.one step_loop) harr⟩

theorem info48 : (Tryz.prog.info? 73).map (fun i => (i.zero, i.size, i.bytes)) = some (some (.agg #[.int .i64 0, .string ByteArray.empty, .int .i64 0]), 3, 32) := by kernel_rfl
theorem info_parts {P : Program} {e : TypeId} {z : Value} {n b : Nat} (h : (P.info? e).map (fun i => (i.zero, i.size, i.bytes)) = some (some z, n, b)) :
    ∃ i, P.info? e = some i ∧ i.zero = some z ∧ i.size = n ∧ i.bytes = b := by
  cases hi : P.info? e with
  | none => rw [hi] at h; cases h
  | some i =>
    rw [hi] at h
    simp only [Option.map_some, Option.some.injEq, Prod.mk.injEq] at h
    exact ⟨i, rfl, h.1, h.2.1, h.2.2⟩

/-- Tokens as cells. -/
def tz (s : ByteArray) (l : List Tk) : List Value := l.flatMap fun t => [.int .i64 (t.k : Nat), .string (s.extract t.a t.e), .int .i64 (t.a : Nat)]
theorem tz_push (s : ByteArray) (l : List Tk) (t : Tk) : tz s (l ++ [t]) = tz s l ++ [.int .i64 (t.k : Nat), .string (s.extract t.a t.e), .int .i64 (t.a : Nat)] := by simp [tz]

/-- What Lex answers. -/
def LxR (s : ByteArray) (w w' : World) (e : Ending) : Prop :=
  (∃ (l : List Tk) (v : Value), s.size ≤ 8000 ∧ lexS s = .ok l ∧ l.length ≤ 8001 ∧ e = .returned (.tuple #[v, .nilIface]) ∧ w'.ownsRow w.heap.size 73 3 v l.length (tz s l)) ∨
  (∃ (at1 N er : Nat), ((s.size ≤ 8000 ∧ lexS s = .no at1 ∧ er = 90) ∨ (8000 < s.size ∧ at1 = 8000 ∧ er = 102)) ∧ e = .returned (.tuple #[.slice none 0 0, .iface 61 (.pointer (some ⟨N, 0, none⟩))]) ∧ w.heap.size ≤ N ∧
    w'.heap[N]? = some (.cells #[.int .i64 (at1 : Nat), .int .i64 (er : Nat)] 77 (0, 0)))

def lxF (s : ByteArray) (at1 : Nat) (v : Value) (u : Nat → Value) : Act := { tmps := #[.string s, undef, .slice none 0 0, .nilIface, v, .int .i64 (at1 : Nat), u 6, u 7, u 8, u 9, u 10, u 11, u 12, u 13, u 14, u 15, u 16, u 17, u 18, u 19, u 20, u 21, u 22, u 23, u 24, u 25, u 26, u 27, u 28, u 29, u 30, u 31, u 32, u 33, u 34, u 35, u 36, u 37, u 38, u 39, u 40], defers := [] }
def LxI (s : ByteArray) (w0 : World) (m : Nat) (a : Act) (w : World) : Prop := Below w0.heap.size w0 w ∧ Wd w ∧ ∃ (at1 : Nat) (v : Value) (l : List Tk), a = lxF s at1 v (fun k => a.tmps.getD k undef) ∧
  w.ownsRow w0.heap.size 73 3 v l.length (tz s l) ∧ at1 ≤ s.size ∧ l.length ≤ at1 ∧ lexS s = Rs.pre l (lexA (bt s) s.size at1) ∧ m = s.size - at1
theorem lxI_open {s : ByteArray} {w0 : World} {m : Nat} {a : Act} {w : World} (h : LxI s w0 m a w) : Below w0.heap.size w0 w ∧ Wd w ∧ ∃ (at1 : Nat) (v : Value) (l : List Tk) (u : Nat → Value), a = lxF s at1 v u ∧
  w.ownsRow w0.heap.size 73 3 v l.length (tz s l) ∧ at1 ≤ s.size ∧ l.length ≤ at1 ∧ lexS s = Rs.pre l (lexA (bt s) s.size at1) ∧ m = s.size - at1 := by
  obtain ⟨h1, h2, at1, v, l, h3, h4⟩ := h
  exact ⟨h1, h2, at1, v, l, _, h3, h4⟩

theorem grown_later {w w' : World} (h : Below w.heap.size w w') : w.grownBy w' none := ⟨h.os, h.tape, h.output, h.size, fun k hk _ => h.block k hk⟩
theorem own_later {w w' : World} {b e s n : Nat} {v : Value} {xs : List Value} (h : w.ownsRow b e s v n xs) (hb : Below w.heap.size w w') : w'.ownsRow b e s v n xs :=
  h.kept (grown_later hb) (by cases v.ownBlock <;> simp)
theorem lx_cells {w w1 w2 : World} {b n : Nat} {v : Value} {xs : List Value} (h : w.ownsRow b 73 3 v n xs) (hb : w.heap.size ≤ w1.heap.size) {x y z : Value} {o : Obj}
    (hg : ((w1.alloc (.cells #[x, y, z] 73)).alloc o).grownBy w2 v.ownBlock) : w2.cell? ⟨w1.heap.size, 0, none⟩ = some x ∧ w2.cell? ⟨w1.heap.size, 1, none⟩ = some y ∧ w2.cell? ⟨w1.heap.size, 2, none⟩ = some z := by
  have hne : some w1.heap.size ≠ v.ownBlock := fun e => by
    have := (h.lt _ e.symm).2
    omega
  have hh : ((w1.alloc (.cells #[x, y, z] 73)).alloc o).heap[w1.heap.size]? = some (.cells #[x, y, z] 73 (0, 0)) := by
    rw [Below.heap_alloc _ _ _ (by simp)]
    exact Array.getElem?_push_size
  refine ⟨hg.cell (by rw [cell_of_row _ _ _ _ 73 (0, 0) hh]; rfl) hne, hg.cell (by rw [cell_of_row _ _ _ _ 73 (0, 0) hh]; rfl) hne, hg.cell (by rw [cell_of_row _ _ _ _ 73 (0, 0) hh]; rfl) hne⟩
theorem lx_below {w0 w w1 w2 : World} {n : Nat} {v : Value} {xs : List Value} (h0 : Below w0.heap.size w0 w) (h : w.ownsRow w0.heap.size 73 3 v n xs) (hb : Below w.heap.size w w1) {o o' : Obj}
    (hg : ((w1.alloc o').alloc o).grownBy w2 v.ownBlock) (hw : Wd w0) : Below w0.heap.size w0 w2 ∧ Wd w2 := by
  have h1 : Below w0.heap.size w0 ((w1.alloc o').alloc o) := ((h0.trans (hb.mono h0.size)).alloc (Nat.le_trans h0.size hb.size) o').alloc (by have := h0.size; have := hb.size; simp; omega) o
  have h2 : Below w0.heap.size w0 w2 := h1.grown hg h1.size (fun k e => (h.lt k e).1)
  exact ⟨h2, hw.below hw.lt h2⟩

def Stop (p : Prop) : Prop := p
theorem stopHere {P : Program} {ops : Array Oper} {Q : Exit → Act → World → Prop} {l : List Oper} {a : Act} {w : World} (h : Stop (wpList P ops Q l a w)) : wpList P ops Q l a w := h
set_option maxHeartbeats 8000000 in
theorem lex_any (s : ByteArray) (w0 : World) (hw : Wd w0) : Calls Tryz.prog 22 #[.string s] w0 fun e w' => Below w0.heap.size w0 w' ∧ Wd w' ∧ LxR s w0 w' e := by
  by_cases hs : s.size ≤ 8000
  case neg =>
    have hs' : 8000 < s.size := by omega
    go_enter Tryz.func22, Tryz.ntmps22
    go_wp2
    · have hb : Below w0.heap.size w0 (w0.alloc (.cells #[.int .i64 8000, .int .i64 102] 77)) := (Below.refl _ w0).alloc (Nat.le_refl _) _
      go_ret2
      exact ⟨hb, hw.below hw.lt hb, Or.inr ⟨8000, w0.heap.size, 102, Or.inr ⟨hs', rfl, rfl⟩, rfl, Nat.le_refl _, Array.getElem?_push_size⟩⟩
  case pos =>
    obtain ⟨i0, hi0, hz0, hz1, hz2⟩ := info_parts info48
    go_enter Tryz.func22, Tryz.ntmps22
    go_wp2
    refine loop_ghost (LxI s w0) s.size ⟨Below.refl _ _, hw, 0, .slice none 0 0, [], rfl, World.ownsRow_nil _ _ _ _, Nat.zero_le _, Nat.zero_le _, by rw [Rs.pre_nil]; rfl, rfl⟩ ?_
    intro m a w hI
    obtain ⟨hbl, hwd, at1, v, l, u, rfl, hown, h1, h2, h3, hm⟩ := lxI_open hI
    clear hI
    simp only [lxF]
    have cct := cut_any s at1 h1 hs w hwd
    have HO := hide hown
    have H3 := hide h3
    have HB := hide hbl
    have HW := hide hw
    have HO2 : Hid (∀ (w1 : World) (o1 o2 : Obj), Below w.heap.size w w1 → ((w1.alloc o1).alloc o2).ownsRow w0.heap.size 73 3 v l.length (tz s l)) := fun w1 o1 o2 h => ((own_later hown h).alloc o1).alloc o2
    have HS : Hid (∀ (w1 : World) (o1 o2 : Obj), Below w.heap.size w w1 → w0.heap.size ≤ ((w1.alloc o1).alloc o2).heap.size) := fun w1 o1 o2 h => by
      have := hbl.size; have := h.size; simp; omega
    clear hown h3 hbl hwd hw
    go_wp2_with (first | (go_at_call 41; refine cct.mono ?_; rintro e w1 ⟨hb1, hwd1, ⟨kd, st, en, rfl, hcd⟩ | ⟨st, rfl, hno⟩⟩) | (at_builtin; apply stopHere))
    · show wpList _ _ _ _ _ _
      refine wpList_append_lies _ rfl (.tmp 27) (.tmp 29) 53 rfl w0.heap.size 73 i0 (.agg #[.int .i64 0, .string ByteArray.empty, .int .i64 0]) 3 32 Tryz.underlying53 hi0 hz0 hz1 hz2 rfl (by decide) v l.length (tz s l) rfl (HO2.out _ _ _ (by assumption)) ⟨_ + 1, 0, none⟩ 1 1 [.int .i64 (kd : Nat), .string (s.extract st en), .int .i64 (st : Nat)] rfl rfl ?d1 ?d2 (by decide) ?d3 ?d4 (HS.out _ _ _ (by assumption)) _ rfl ?_
      case d1 =>
        intro j u hj
        have hh : ((w1.alloc (.cells #[.int .i64 (kd : Nat), .string (s.extract st en), .int .i64 (st : Nat)] 73)).alloc (.cells #[.int .i64 (kd : Nat), .string (s.extract st en), .int .i64 (st : Nat)] 73)).heap[w1.heap.size + 1]? = some (.cells #[.int .i64 (kd : Nat), .string (s.extract st en), .int .i64 (st : Nat)] 73 (0, 0)) := by
          have : w1.heap.size + 1 = (w1.alloc (.cells #[.int .i64 (kd : Nat), .string (s.extract st en), .int .i64 (st : Nat)] 73)).heap.size := by simp
          rw [this]
          exact Array.getElem?_push_size
        have hc := fun j => cell_of_row _ _ j _ 73 (0, 0) hh
        rw [← hj]
        simp only [Addr.add, Nat.zero_add]
        split
        · rename_i h0
          subst h0
          rw [hc 0]
          rfl
        · rw [hc j]
          simp
      case d2 =>
        intro u hu
        simp only [List.mem_cons, List.not_mem_nil, or_false] at hu
        rcases hu with rfl | rfl | rfl <;> rfl
      case d3 => unfold maxLen; omega
      case d4 => omega
      intro g cap w2 k1 k2 k3 k4
      obtain ⟨f0, f1, f2⟩ := lx_cells HO.out hb1.size k2
      obtain ⟨bb, bw⟩ := lx_below HB.out HO.out hb1 k2 HW.out
      have K1 := hide k1
      have KB := hide bb
      have KW := hide bw
      have hk : kd < 4 ∧ en ≤ s.size ∧ st ≤ en := ⟨by obtain ⟨_, _, _, h | h⟩ := hcd <;> omega, hcd.2.2.1, hcd.2.1⟩
      have HD := hide hcd
      clear k1 k2 k3 bb bw hcd hb1 hwd1
      go_wp2
      · rename_i g0
        simp only [beq_iff_eq] at g0
        obtain ⟨q1, q2, q3, ⟨q4, q5, q6, q7⟩ | ⟨q4, _⟩⟩ := HD.out
        · go_ret2
          refine ⟨KB.out, KW.out, Or.inl ⟨l ++ [⟨kd, st, en⟩], _, hs, ?_, by simp; omega, rfl, ?_⟩⟩
          · rw [H3.out, q7, q4, q5, q6]
            rfl
          · rw [tz_push]
            have := K1.out
            simpa using this
        · omega
      · rename_i g0
        simp only [beq_eq_false_iff_ne, ne_eq] at g0
        obtain ⟨q1, q2, q3, ⟨q4, _⟩ | ⟨q4, q5, q6, q7⟩⟩ := HD.out
        · omega
        · rw [show (st : Int) + ((en - st : Nat) : Int) = (en : Int) by omega]
          refine ⟨s.size - en, by omega, KB.out, KW.out, en, _, l ++ [⟨kd, st, en⟩], rfl, ?_, by omega, by simp; omega, ?_, rfl⟩
          · rw [tz_push]
            have := K1.out
            simpa using this
          · rw [H3.out, q7, Rs.pre_cons]
    · have HN := hide hno
      have HB1 := hide hb1
      clear hno hb1 hwd1 HO2 HS HO
      go_region
      rename_i K hK
      refine hK _ _ ?_
      go_wp2
      go_ret2
      have hs0 := HB.out.size
      have hs1 := HB1.out.size
      have hbb : Below w0.heap.size w0 ((w1.alloc (.cells #[.int .i64 0, .string ByteArray.empty, .int .i64 (st : Nat)] 73)).alloc (.cells #[.int .i64 (st : Nat), .int .i64 90] 77)).drew :=
        (((HB.out.trans (HB1.out.mono hs0)).alloc (by omega) _).alloc (by simp; omega) _).drew
      refine ⟨hbb, HW.out.below HW.out.lt hbb, Or.inr ⟨st, w1.heap.size + 1, 90, Or.inl ⟨hs, ?_, rfl⟩, rfl, by omega, ?_⟩⟩
      · rw [H3.out, HN.out]
        rfl
      · have e : w1.heap.size + 1 = (w1.alloc (.cells #[.int .i64 0, .string ByteArray.empty, .int .i64 (st : Nat)] 73)).heap.size := by simp
        rw [e]
        exact Array.getElem?_push_size
end Go.Proofs.YtmfoehaeejhlpaaGreatDoor.Le

/-
  What Lex hands back, as the reader takes it.
-/
namespace Go.Proofs.YtmfoehaeejhlpaaGreatDoor
open Go.RowKit Yn
set_option maxRecDepth 100000
def tokOf (s : ByteArray) (t : Le.Tk) : Tok := ⟨t.k, s.extract t.a t.e, t.a⟩
theorem tok_two {f : Nat → Nat} {n a b e : Nat} (h : Le.tokAt f n a = .tok 2 b e) : b = a ∧ (∀ j, a ≤ j → j < e → Le.isDi (f j) = true) ∧ Le.numOk f a e = true := by
  unfold Le.tokAt at h
  split at h
  · split at h
    · cases h
    · simp at h
  · split at h
    · split at h
      · split at h
        · cases h
        · rename_i h1 _
          injection h with _ h2 h3
          subst h2
          subst h3
          exact ⟨rfl, fun j h4 h5 => Le.runE_all _ _ _ j h4 h5, h1⟩
      · cases h
    · split at h
      · cases h
      · simp at h
theorem step_two {f : Nat → Nat} {n a b e : Nat} (h : Le.stepL f n a = .tok 2 b e) : Le.tokAt f n a = .tok 2 b e := by
  unfold Le.stepL at h
  split at h
  · cases h
  · split at h
    · cases h
    · split at h
      · cases h
      · split at h
        · split at h <;> cases h
        · exact h
theorem fold_le : ∀ (l : List UInt8) (a : Nat), (∀ c ∈ l, 48 ≤ c.toNat ∧ c.toNat ≤ 57) → l.foldl (fun (a : Int) c => a * 10 + ((c.toNat : Int) - 48)) (a : Int) = (Le.valL a l : Int)
  | [], a, _ => by rw [Le.valL_nil]; rfl
  | c :: r, a, hd => by
    have hc := hd c (by simp)
    rw [Le.valL_cons, List.foldl_cons]
    have e : (a : Int) * 10 + ((c.toNat : Int) - 48) = ((a * 10 + (c.toNat - 48) : Nat) : Int) := by omega
    rw [e]
    exact fold_le r _ (fun x hx => hd x (by simp [hx]))
theorem num_dg {s : ByteArray} {a e : Nat} (hs : s.size ≤ 8000) (hae : a < e) (hen : e ≤ s.size) (hd : ∀ j, a ≤ j → j < e → Le.isDi (Le.bt s j) = true) (hn : Le.numOk (Le.bt s) a e = true) : Dg (s.extract a e) := by
  have hz : (s.extract a e).size = e - a := by simp; omega
  have hl := Le.ext_data s a e
  have hlen : s.data.toList.length = s.size := by rw [Array.length_toList]; rfl
  have hd2 : ∀ c ∈ (s.extract a e).data.toList, 48 ≤ c.toNat ∧ c.toNat ≤ 57 := by
    intro c hc
    rw [hl] at hc
    obtain ⟨i, hi, rfl⟩ := List.getElem_of_mem hc
    rw [List.length_take, List.length_drop] at hi
    rw [List.getElem_take, List.getElem_drop]
    have h1 := hd (a + i) (by omega) (by omega)
    rw [Le.bt_at s (a + i) (by omega), Le.isDi_iff] at h1
    exact h1
  refine ⟨fun e0 => ?_, by omega, hd2, ?_⟩
  · have : (bs []).size = 0 := rfl
    rw [e0] at hz
    omega
  · have e1 : digits (s.extract a e) = (Le.valL 0 (s.extract a e).data.toList : Int) := fold_le _ 0 hd2
    rw [e1, hl, ← Le.numV_val s (e - a) a 0 (by omega)]
    unfold Le.numOk at hn
    rw [Bool.and_eq_true, decide_eq_true_eq] at hn
    omega
theorem lex_gd {s : ByteArray} (hs : s.size ≤ 8000) : ∀ (j a : Nat) (l : List Le.Tk), s.size + 1 ≤ j + a → a ≤ s.size → Le.lexF (Le.bt s) s.size j a = .ok l → Gd (l.map (tokOf s))
  | 0, a, l, h1, h2, _ => by omega
  | j + 1, a, l, h1, h2, h => by
    have hz := Le.bt_z s
    rw [Le.lexF] at h
    cases hst : Le.stepL (Le.bt s) s.size a with
    | fin =>
      rw [hst] at h
      injection h with h
      subst h
      refine ⟨[], ⟨0, s.extract s.size s.size, s.size⟩, rfl, rfl, ?_, fun t ht => by cases ht⟩
      apply ByteArray.ext
      simp [bs]
    | go b =>
      rw [hst] at h
      have hb := Le.stepL_go hz hst
      exact lex_gd hs j b l (by omega) hb.2.1 h
    | bad b =>
      rw [hst] at h
      cases h
    | tok k b e =>
      rw [hst] at h
      have h : Le.Rs.cons ⟨k, b, e⟩ (Le.lexF (Le.bt s) s.size j e) = .ok l := h
      obtain ⟨rfl, hb1, hb2, hb3, -⟩ := Le.stepL_tok hz hst
      cases hr : Le.lexF (Le.bt s) s.size j e with
      | no x =>
        rw [hr] at h
        cases h
      | ok l2 =>
        rw [hr] at h
        injection h with h
        subst h
        obtain ⟨l3, e3, h3, h4, h5, h6⟩ := lex_gd hs j e l2 (by omega) hb2 hr
        refine ⟨tokOf s ⟨k, b, e⟩ :: l3, e3, by rw [List.map_cons, h3]; rfl, h4, h5, fun t ht => ?_⟩
        rcases List.mem_cons.1 ht with rfl | ht
        · refine ⟨by show k ≠ 0; omega, fun e0 => ?_, fun hk => ?_⟩
          · have hz2 : (s.extract b e).size = e - b := by simp; omega
            have e1 : (s.extract b e) = bs [] := e0
            rw [e1] at hz2
            have : (bs []).size = 0 := rfl
            omega
          · have hk2 : k = 2 := hk
            subst hk2
            obtain ⟨-, h7, h8⟩ := tok_two (step_two hst)
            exact num_dg hs hb1 hb2 h7 h8
        · exact h6 t ht
theorem tz_at (s : ByteArray) : ∀ (l : List Le.Tk) (i : Nat) (h : i < l.length), (Le.tz s l)[i * 3]? = some (.int .i64 ((l[i].k : Nat) : Int)) ∧ (Le.tz s l)[i * 3 + 1]? = some (.string (s.extract l[i].a l[i].e)) ∧ (Le.tz s l)[i * 3 + 2]? = some (.int .i64 ((l[i].a : Nat) : Int))
  | [], i, h => by cases h
  | t :: l, 0, h => ⟨rfl, rfl, rfl⟩
  | t :: l, i + 1, h => by
    obtain ⟨h1, h2, h3⟩ := tz_at s l i (by simpa using h)
    have e : ∀ r, (Le.tz s (t :: l))[(i + 1) * 3 + r]? = (Le.tz s l)[i * 3 + r]? := fun r => by
      show ([.int .i64 (t.k : Nat), .string (s.extract t.a t.e), .int .i64 (t.a : Nat)] ++ Le.tz s l)[(i + 1) * 3 + r]? = _
      rw [List.getElem?_append_right (by simp; omega)]
      congr 1
      simp
      omega
    exact ⟨(e 0).trans h1, (e 1).trans h2, (e 2).trans h3⟩
/-- What Lex answers of a source. -/
def lxS (src : ByteArray) : Except (Nat × Nat) (List Tok) := if src.size ≤ 8000 then (match Le.lexS src with | .ok l => .ok (l.map (tokOf src)) | .no a => .error (a, 90)) else .error (8000, 102)
theorem lx_holds (src : ByteArray) : Lx Le.Wd lxS src := by
  intro W hW
  refine (Le.lex_any src W hW).mono ?_
  rintro e w' ⟨hb, -, h⟩
  refine ⟨hb, ?_⟩
  rcases h with ⟨l, v, h1, h2, h3, rfl, h5⟩ | ⟨at1, g, er, h1, rfl, h3, h4⟩
  · have el : lxS src = .ok (l.map (tokOf src)) := by
      unfold lxS
      rw [if_pos h1, h2]
    rw [el]
    have hg : Gd (l.map (tokOf src)) := lex_gd h1 (src.size + 1) 0 l (by omega) (by omega) h2
    have hp := hg.pos
    rw [List.length_map] at hp
    obtain ⟨g, c, rfl, h6, h7⟩ := own_form h5 hp
    refine ⟨_, rfl, ⟨g, 0, c, by rw [List.length_map], by rw [List.length_map]; exact h6, h7, fun i hi => ?_⟩, hg, fun j e => (h5.lt j e).2⟩
    rw [List.length_map] at hi
    obtain ⟨a1, a2, a3⟩ := tz_at src l i hi
    rw [List.getElem_map]
    refine ⟨?_, ?_, ?_⟩
    · rw [Nat.zero_add, h5.cellAt (i * 3) (by omega)]
      exact a1
    · rw [Nat.zero_add, h5.cellAt (i * 3 + 1) (by omega)]
      exact a2
    · rw [Nat.zero_add, h5.cellAt (i * 3 + 2) (by omega)]
      exact a3
  · have el : lxS src = .error (at1, er) := by
      unfold lxS
      rcases h1 with ⟨h1, h2, rfl⟩ | ⟨h1, rfl, rfl⟩
      · rw [if_pos h1, h2]
      · rw [if_neg (by omega)]
    rw [el]
    exact ⟨g, rfl, h3, h4⟩
end Go.Proofs.YtmfoehaeejhlpaaGreatDoor

/-
  ParseInt of a number's text.
-/
namespace Go.Proofs.YtmfoehaeejhlpaaGreatDoor
open Go.RowKit Yn
set_option maxRecDepth 100000
def valW : List UInt8 → Nat → Nat
  | [], acc => acc
  | c :: r, acc => valW r (acc * 10 + (c.toNat - 48))
def valL (acc : Nat) (l : List UInt8) : Nat := valW l acc
theorem valL_nil (acc : Nat) : valL acc [] = acc := by unfold valL; rw [valW]
theorem valL_cons (acc : Nat) (c : UInt8) (r : List UInt8) : valL acc (c :: r) = valL (acc * 10 + (c.toNat - 48)) r := by unfold valL; rw [valW]
theorem valL_ge (l : List UInt8) : ∀ acc : Nat, acc ≤ valL acc l := by
  induction l with
  | nil => intro acc; rw [valL_nil]; exact Nat.le_refl _
  | cons c r ih =>
    intro acc
    have := ih (acc * 10 + (c.toNat - 48))
    rw [valL_cons]
    omega
def Dig (l : List UInt8) : Prop := ∀ c ∈ l, 48 ≤ c.toNat ∧ c.toNat ≤ 57

theorem uintM_dig (l : List UInt8) : ∀ (acc : Nat), Dig l → acc ≤ 18446744073709551615 →
    Lib.parseUintM 18446744073709551615 acc l = if valL acc l ≤ 18446744073709551615 then .ok (valL acc l) else .range := by
  induction l with
  | nil => intro acc hd ha; rw [valL_nil, if_pos ha, Lib.parseUintM]
  | cons c r ih =>
    intro acc hd ha
    have hc := hd c (by simp)
    have hr : Dig r := fun x hx => hd x (by simp [hx])
    have hg := valL_ge r (acc * 10 + (c.toNat - 48))
    rw [valL_cons, Lib.parseUintM]
    rw [if_pos hc]
    by_cases h1 : 1844674407370955162 ≤ acc
    · rw [if_pos h1, if_neg (by omega)]
    · rw [if_neg h1]
      by_cases h2 : 18446744073709551615 < acc * 10 + (c.toNat - 48)
      · rw [if_pos h2, if_neg (by omega)]
      · rw [if_neg h2]
        exact ih _ hr (by omega)

theorem parseInt_dig (l : List UInt8) (hd : Dig l) (h0 : l ≠ []) :
    Lib.parseIntB 64 l = if valL 0 l < 9223372036854775808 then .ok (valL 0 l : Int) else .range := by
  cases l with
  | nil => exact absurd rfl h0
  | cons c r =>
    have hc := hd c (by simp)
    unfold Lib.parseIntB
    simp only []
    rw [if_neg (by omega)]
    have hu : Lib.parseUintB 64 (c :: r) = if valL 0 (c :: r) ≤ 18446744073709551615 then .ok (valL 0 (c :: r)) else .range := by
      unfold Lib.parseUintB
      rw [if_neg (by simp)]
      exact uintM_dig (c :: r) 0 hd (by omega)
    rw [hu]
    have hne : ¬ c.toNat = 45 := by omega
    generalize valL 0 (c :: r) = v
    by_cases h1 : v ≤ 18446744073709551615
    · rw [if_pos h1]
      simp only [hne, false_and, not_false_eq_true, true_and, if_false]
      by_cases h2 : 2 ^ (64 - 1) ≤ v
      · rw [if_pos h2, if_neg (by omega)]
      · rw [if_neg h2, if_pos (by omega)]
    · rw [if_neg h1, if_neg (by omega)]

theorem fold_val : ∀ (l : List UInt8) (a : Nat), Dig l → l.foldl (fun (a : Int) c => a * 10 + ((c.toNat : Int) - 48)) (a : Int) = (valL a l : Int)
  | [], a, _ => by rw [valL_nil]; rfl
  | c :: r, a, hd => by
    have hc := hd c (by simp)
    rw [valL_cons, List.foldl_cons]
    have e : (a : Int) * 10 + ((c.toNat : Int) - 48) = ((a * 10 + (c.toNat - 48) : Nat) : Int) := by omega
    rw [e]
    exact fold_val r _ (fun x hx => hd x (by simp [hx]))
theorem pz_holds : Pz := by
  intro t W hD
  obtain ⟨h1, h2, h3, h4⟩ := hD
  have e : digits t = (valL 0 t.data.toList : Int) := fold_val t.data.toList 0 h3
  have hne : t.data.toList ≠ [] := fun e => h1 (text_inj e)
  have hp := parseInt_dig t.data.toList h3 hne
  rw [if_pos (by omega)] at hp
  rw [e]
  refine (Tryz.strconv_ParseInt_10_at64_ok t (by omega) _ hp W).mono ?_
  rintro e w' ⟨rfl, hw'⟩
  refine ⟨rfl, ?_⟩
  rcases hw' with rfl | ⟨x, rfl⟩
  · exact Below.refl _ _
  · exact Lib.bytesWorld_below W 5 x
end Go.Proofs.YtmfoehaeejhlpaaGreatDoor

/-
  The grammar: how much is enough to go on.
-/
namespace Go.Proofs.YtmfoehaeejhlpaaGreatDoor.Yn
set_option maxRecDepth 100000
/-- Enough was given, and fewer than t tokens are left. -/
def Ls {α : Type} (r : R α) (t : Nat) : Prop := r ≠ .out ∧ ∀ x s', r = .ok x s' → s'.ts.length < t
section
variable {α β : Type} {ws : List ByteArray} {s : S}
theorem Ls.bind {r : R α} {f : α → S → R β} {t u : Nat} (h : Ls r t) (hf : ∀ x s', s'.ts.length < t → Ls (f x s') u) : Ls (r.bind f) u := by
  cases r with
  | out => exact absurd rfl h.1
  | no a e => exact ⟨(by intro h; cases h), (by intro x s' h; cases h)⟩
  | ok x s' => exact hf x s' (h.2 x s' rfl)
theorem Ls.no {a e t : Nat} : Ls (.no a e : R α) t := ⟨(by intro h; cases h), (by intro x s' h; cases h)⟩
theorem Ls.ok {x : α} {t : Nat} (h : s.ts.length < t) : Ls (.ok x s) t := ⟨(by intro h; cases h), (by intro y s' e; cases e; exact h)⟩
theorem Ls.mono {r : R α} {t u : Nat} (h : Ls r t) (hu : t ≤ u) : Ls r u := ⟨h.1, fun x s' e => Nat.lt_of_lt_of_le (h.2 x s' e) hu⟩
theorem nx_lt (h : (hd s).k ≠ 0 ∨ (hd s).t ≠ bs []) : (nx s).ts.length < s.ts.length := by
  unfold hd at h
  unfold nx
  cases hs : s.ts with
  | nil =>
    rw [hs] at h
    rcases h with h | h <;> exact absurd rfl h
  | cons x l => simp
theorem isAt_ne {x : ByteArray} (hx : x ≠ bs []) (h : isAt s x = true) : (hd s).k ≠ 0 ∨ (hd s).t ≠ bs [] := by
  right
  unfold isAt at h
  rw [decide_eq_true_eq] at h
  rw [h]
  exact hx
theorem name_ne (h : isName ws s = true) : (hd s).k ≠ 0 ∨ (hd s).t ≠ bs [] := by
  left
  unfold isName at h
  rw [Bool.and_eq_true, decide_eq_true_eq] at h
  omega
theorem at_lt {x : ByteArray} (hx : x ≠ bs []) (h : isAt s x = true) : (nx s).ts.length < s.ts.length := nx_lt (isAt_ne hx h)
theorem take_ls (x : ByteArray) (hx : x ≠ bs []) : Ls (take x s) s.ts.length := by
  unfold take fail
  split
  · exact Ls.ok (at_lt hx (by assumption))
  · exact Ls.no
theorem open_ls (x : ByteArray) (hx : x ≠ bs []) : Ls (openS x s) s.ts.length := by
  unfold openS fail
  split
  · split
    · exact Ls.no
    · exact Ls.ok (at_lt hx (by assumption))
  · exact Ls.no
theorem name_ls : Ls (name ws s) s.ts.length := by
  unfold name fail
  split
  · exact Ls.ok (nx_lt (name_ne (by assumption)))
  · exact Ls.no
theorem nameNode_ls : Ls (nameNode ws s) s.ts.length := by
  unfold nameNode fail
  split
  · exact Ls.ok (nx_lt (name_ne (by assumption)))
  · exact Ls.no
theorem leave_ts : (leave s).ts = s.ts := rfl
theorem binding_ne (h : ¬ binding (hd s).t < 1) : (hd s).k ≠ 0 ∨ (hd s).t ≠ bs [] := by
  right
  intro e
  rw [e] at h
  exact h (by decide)
theorem built_ne (h : isBuiltIn (hd s).t = true) : (hd s).k ≠ 0 ∨ (hd s).t ≠ bs [] := by
  right
  intro e
  rw [e] at h
  exact absurd h (by decide)
end
theorem expr_ls (ws : List ByteArray) : ∀ n : Nat, (∀ s, 6 * s.ts.length + 4 ≤ n → Ls (cond ws n s) s.ts.length) ∧ (∀ m s, 1 ≤ m → 6 * s.ts.length + 3 ≤ n → Ls (binary ws n m s) s.ts.length) ∧ (∀ m l s, 1 ≤ m → 6 * s.ts.length + 1 ≤ n → Ls (binL ws n m l s) (s.ts.length + 1)) ∧ (∀ s, 6 * s.ts.length + 2 ≤ n → Ls (unary ws n s) s.ts.length) ∧ (∀ s, 6 * s.ts.length + 1 ≤ n → Ls (primary ws n s) s.ts.length) ∧ (∀ s, 6 * s.ts.length + 1 ≤ n → Ls (args ws n s) s.ts.length) ∧ (∀ l s, 6 * s.ts.length + 1 ≤ n → Ls (conds ws n l s) (s.ts.length + 1))
  | 0 => ⟨fun s h => by omega, fun m s _ h => by omega, fun m l s _ h => by omega, fun s h => by omega, fun s h => by omega, fun s h => by omega, fun l s h => by omega⟩
  | n + 1 => by
    obtain ⟨ic, ib, il, iu, ip, ia, is⟩ := expr_ls ws n
    refine ⟨fun s h => ?_, fun m s hm h => ?_, fun m l s hm h => ?_, fun s h => ?_, fun s h => ?_, fun s h => ?_, fun l s h => ?_⟩
    · rw [cond]
      refine (ib 1 s (by omega) (by omega)).bind fun x1 s1 h1 => ?_
      split
      · refine (open_ls _ (by decide)).bind fun _ s2 h2 => ?_
        refine (ic s2 (by omega)).bind fun _ s3 h3 => ?_
        refine (take_ls _ (by decide)).bind fun _ s4 h4 => ?_
        refine (ic s4 (by omega)).bind fun _ s5 h5 => Ls.ok ?_
        rw [leave_ts]
        omega
      · exact Ls.ok h1
    · rw [binary]
      refine (iu s (by omega)).bind fun x1 s1 h1 => ?_
      exact (il m x1 s1 hm (by omega)).mono (by omega)
    · rw [binL]
      split
      · exact Ls.ok (by omega)
      · rename_i hb
        have hx := nx_lt (binding_ne (s := s) (by omega))
        refine (ib _ _ (by omega) (by omega)).bind fun x1 s1 h1 => ?_
        exact (il m _ s1 hm (by omega)).mono (by omega)
    · rw [unary]
      split
      · rename_i hb
        rw [Bool.or_eq_true] at hb
        have hx : (hd s).t ≠ bs [] := by
          rcases hb with hb | hb
          · rcases isAt_ne (by decide) hb with c | c
            · unfold isAt at hb
              rw [decide_eq_true_eq] at hb
              rw [hb]
              decide
            · exact c
          · rcases isAt_ne (by decide) hb with c | c
            · unfold isAt at hb
              rw [decide_eq_true_eq] at hb
              rw [hb]
              decide
            · exact c
        refine (open_ls _ hx).bind fun _ s2 h2 => ?_
        refine (iu s2 (by omega)).bind fun _ s3 h3 => Ls.ok ?_
        rw [leave_ts]
        omega
      · exact ip s (by omega)
    · rw [primary]
      split
      · refine (open_ls _ (by decide)).bind fun _ s2 h2 => ?_
        refine (ic s2 (by omega)).bind fun _ s3 h3 => ?_
        refine (take_ls _ (by decide)).bind fun _ s4 h4 => Ls.ok ?_
        rw [leave_ts]
        omega
      · split
        · exact Ls.ok (nx_lt (.inl (by omega)))
        · split
          · rename_i hb
            rw [Bool.or_eq_true] at hb
            rcases hb with hb | hb <;> exact Ls.ok (at_lt (by decide) hb)
          · split
            · refine (take_ls _ (by decide)).bind fun _ s2 h2 => ?_
              refine (take_ls _ (by decide)).bind fun _ s3 h3 => ?_
              refine name_ls.bind fun _ s4 h4 => ?_
              refine (take_ls _ (by decide)).bind fun _ s5 h5 => Ls.ok (by omega)
            · split
              · rename_i hb
                have hx := nx_lt (built_ne hb)
                refine (ia _ (by omega)).bind fun _ s2 h2 => Ls.ok (by omega)
              · refine nameNode_ls.bind fun _ s1 h1 => ?_
                split
                · refine (ia _ (by omega)).bind fun _ s2 h2 => Ls.ok (by omega)
                · split
                  · rename_i hb
                    have hx := at_lt (by decide) hb
                    refine nameNode_ls.bind fun _ s2 h2 => Ls.ok (by omega)
                  · exact Ls.ok h1
    · rw [args]
      refine (open_ls _ (by decide)).bind fun _ s1 h1 => ?_
      refine Ls.bind (t := s1.ts.length + 1) ?_ fun _ s2 h2 => ?_
      · split
        · exact Ls.ok (by omega)
        · refine (ic s1 (by omega)).bind fun _ s2 h2 => ?_
          exact (is _ s2 (by omega)).mono (by omega)
      · refine (take_ls _ (by decide)).bind fun _ s3 h3 => Ls.ok ?_
        rw [leave_ts]
        omega
    · rw [conds]
      split
      · rename_i hb
        have hx := at_lt (by decide) hb
        refine (ic _ (by omega)).bind fun _ s2 h2 => ?_
        exact (is _ s2 (by omega)).mono (by omega)
      · exact Ls.ok (by omega)
end Go.Proofs.YtmfoehaeejhlpaaGreatDoor.Yn
